/- Plain: a beginning of bytes that may be. -/
import Derived.Test.YtgidjfhlooggkaaIj
namespace Go.Proofs.Ytgidjfhlooggkaa.Ct
set_option linter.unusedVariables false
set_option linter.unusedSimpArgs false
open Go.RowKit Kb Ga Gb Gc Nt Wk Ls Wr Nb Bu Np Gf Gg Go_ Gl Sb Ag Ij
/-- what stands there is a beginning -/
structure Pf (s : ByteArray) (k e : Nat) (L : List UInt8) : Prop where
  le : e ≤ s.size
  ke : k ≤ e
  pf : sl s k (e - k) <+: L
theorem sl_len (s : ByteArray) (k n : Nat) (h : k + n ≤ s.size) : (sl s k n).length = n := by
  have : (s.data.toList).length = s.size := by simp
  unfold sl
  rw [List.length_take, List.length_drop]
  omega
theorem Pf.few {s : ByteArray} {k e : Nat} {L : List UInt8} (h : Pf s k e L) : e - k ≤ L.length := by
  have := h.pf.length_le
  rw [sl_len s k (e - k) (by have := h.le; have := h.ke; omega)] at this
  exact this
theorem Pf.split {s : ByteArray} {k e : Nat} {A B : List UInt8} (h : Pf s k e (A ++ B)) (hl : A.length ≤ e - k) : sl s k A.length = A ∧ Pf s (k + A.length) e B := by
  have h1 := h.le
  have h2 := h.ke
  obtain ⟨T, hT⟩ := h.pf
  rw [show e - k = A.length + (e - (k + A.length)) by omega, sl_add, List.append_assoc] at hT
  obtain ⟨a, b⟩ := List.append_inj hT (sl_len s k A.length (by omega))
  exact ⟨a, h1, by omega, T, b⟩
theorem Pf.whole {s : ByteArray} {k e : Nat} {A B : List UInt8} (h : Pf s k e (A ++ B)) (hl : A.length ≤ e - k) : Pf s k (k + A.length) A :=
  ⟨by have := h.le; have := h.ke; omega, by omega, by rw [show k + A.length - k = A.length by omega, (h.split hl).1]; exact List.prefix_refl _⟩
theorem Pf.at {s : ByteArray} {k e : Nat} {L : List UInt8} (h : Pf s k e L) (j : Nat) {c : UInt8} (hj : k + j < e) (hc : L[j]? = some c) : byt s (k + j) = (c.toNat : Int) := by
  have h1 := h.le
  obtain ⟨T, hT⟩ := h.pf
  have hl := sl_len s k (e - k) (by omega)
  have h2 : (sl s k (e - k))[j]? = some c := by
    rw [← hT, List.getElem?_append_left (by omega)] at hc
    exact hc
  unfold sl at h2
  rw [List.getElem?_take_of_lt (by omega), List.getElem?_drop] at h2
  have h3 : s.data[k + j]? = some c := by simpa using h2
  unfold byt
  rw [Array.getD_eq_getD_getElem?, h3]
  rfl
theorem Pf.b8 {s : ByteArray} {k e : Nat} {L : List UInt8} (h : Pf s k e L) (j : Nat) {x : Int} (hc : L[j]? = some (b8 x)) : k + j < e → byt s (k + j) = x % 256 := fun hj => by
  rw [h.at j hj hc, b8_val]
/-- a tag -/
theorem tag_cut {s : ByteArray} {k e : Nat} {t : Int} {R : List UInt8} (ht : 0 < tgS t) (h : Pf s k e (tgB t ++ R)) : tagR s k (e : Int) = if (tgB t).length ≤ e - k then .ok t (k + (tgB t).length) else .bad 10 (e : Int) := by
  have hk := h.ke
  rcases tgS_cases t ht with ⟨a, a1, a2, a3⟩ | ⟨a, a1, a2, a3, a4⟩ | ⟨a, a1, a2, a3, a4, a5⟩
  · have B0 := h.b8 0 (x := t) (by rw [tgB_one a]; rfl)
    rw [tgB_one a]
    simp only [List.length_cons, List.length_nil, Nat.add_zero, Nat.zero_add] at B0 ⊢
    unfold tagR
    by_cases h0 : k < e
    · have b0 := B0 h0
      rw [if_pos (by omega), if_neg (by omega), if_pos (by omega), if_pos (by omega), show byt s k = t by omega]
    · rw [if_neg (by omega), if_neg (by omega)]
  · have B0 := h.b8 0 (x := t / 256) (by rw [tgB_two a]; rfl)
    have B1 := h.b8 1 (x := t) (by rw [tgB_two a]; rfl)
    rw [tgB_two a]
    simp only [List.length_cons, List.length_nil, Nat.add_zero, Nat.zero_add] at B0 ⊢
    unfold tagR
    by_cases h0 : k < e
    · have b0 := B0 h0
      rw [if_pos (by omega), if_neg (by omega), if_neg (by omega)]
      by_cases h1 : k + 1 < e
      · have b1 := B1 h1
        rw [if_pos (by omega), if_neg (by omega), if_pos (by omega), if_pos (by omega), show byt s k * 256 + byt s (k + 1) = t by omega]
      · rw [if_neg (by omega), if_neg (by omega)]
    · rw [if_neg (by omega), if_neg (by omega)]
  · have B0 := h.b8 0 (x := t / 65536) (by rw [tgB_three a]; rfl)
    have B1 := h.b8 1 (x := t / 256) (by rw [tgB_three a]; rfl)
    have B2 := h.b8 2 (x := t) (by rw [tgB_three a]; rfl)
    rw [tgB_three a]
    simp only [List.length_cons, List.length_nil, Nat.add_zero, Nat.zero_add] at B0 ⊢
    unfold tagR
    by_cases h0 : k < e
    · have b0 := B0 h0
      rw [if_pos (by omega), if_neg (by omega), if_neg (by omega)]
      by_cases h1 : k + 1 < e
      · have b1 := B1 h1
        rw [if_pos (by omega), if_neg (by omega), if_neg (by omega)]
        by_cases h2 : k + 2 < e
        · have b2 := B2 h2
          rw [if_pos (by omega), if_pos (by omega), if_pos (by omega), show byt s k * 65536 + byt s (k + 1) * 256 + byt s (k + 2) = t by omega]
        · rw [if_neg (by omega), if_neg (by omega)]
      · rw [if_neg (by omega), if_neg (by omega)]
    · rw [if_neg (by omega), if_neg (by omega)]
/-- a length -/
theorem len_cut {s : ByteArray} {k e n : Nat} {R : List UInt8} (hn : n ≤ 9999) (h : Pf s k e (lnB (n : Int) ++ R)) : lenR s k (e : Int) = if (lnB (n : Int)).length ≤ e - k then .ok (n : Int) (k + (lnB (n : Int)).length) else .bad 10 (e : Int) := by
  have hk := h.ke
  by_cases c1 : n ≤ 127
  · have e1 : lnB (n : Int) = [b8 (n : Int)] := by unfold lnB; rw [if_pos (by omega)]
    have B0 := h.b8 0 (x := (n : Int)) (by rw [e1]; rfl)
    rw [e1]
    simp only [List.length_cons, List.length_nil, Nat.add_zero, Nat.zero_add] at B0 ⊢
    unfold lenR
    by_cases h0 : k < e
    · have b0 := B0 h0
      rw [if_pos (by omega), if_neg (by omega), if_neg (by omega), if_pos (by omega), if_pos (by omega), show byt s k = (n : Int) by omega]
    · rw [if_neg (by omega), if_neg (by omega)]
  · by_cases c2 : n ≤ 255
    · have e1 : lnB (n : Int) = [129, b8 (n : Int)] := by unfold lnB; rw [if_neg (by omega), if_pos (by omega)]
      have B0 : k + 0 < e → byt s (k + 0) = 129 := fun hj => h.at 0 (c := 129) hj (by rw [e1]; rfl)
      have B1 := h.b8 1 (x := (n : Int)) (by rw [e1]; rfl)
      rw [e1]
      simp only [List.length_cons, List.length_nil, Nat.add_zero, Nat.zero_add] at B0 ⊢
      unfold lenR
      by_cases h0 : k < e
      · have b0 := B0 h0
        rw [if_pos (by omega), if_pos (by omega)]
        by_cases h1 : k + 1 < e
        · have b1 := B1 h1
          rw [if_pos (by omega), if_neg (by omega), if_pos (by omega), show byt s (k + 1) = (n : Int) by omega]
        · rw [if_neg (by omega), if_neg (by omega)]
      · rw [if_neg (by omega), if_neg (by omega)]
    · have e1 : lnB (n : Int) = [130, b8 ((n : Int) / 256), b8 (n : Int)] := by unfold lnB; rw [if_neg (by omega), if_neg (by omega)]
      have B0 : k + 0 < e → byt s (k + 0) = 130 := fun hj => h.at 0 (c := 130) hj (by rw [e1]; rfl)
      have B1 := h.b8 1 (x := (n : Int) / 256) (by rw [e1]; rfl)
      have B2 := h.b8 2 (x := (n : Int)) (by rw [e1]; rfl)
      rw [e1]
      simp only [List.length_cons, List.length_nil, Nat.add_zero, Nat.zero_add] at B0 ⊢
      unfold lenR
      by_cases h0 : k < e
      · have b0 := B0 h0
        rw [if_pos (by omega), if_neg (by omega), if_pos (by omega)]
        by_cases h1 : k + 1 < e
        · have b1 := B1 h1
          rw [if_pos (by omega)]
          by_cases h2 : k + 2 < e
          · have b2 := B2 h2
            rw [if_pos (by omega), if_pos (by omega), if_pos (by omega), show byt s (k + 1) * 256 + byt s (k + 2) = (n : Int) by omega]
          · rw [if_neg (by omega), if_neg (by omega)]
        · rw [if_neg (by omega), if_neg (by omega)]
      · rw [if_neg (by omega), if_neg (by omega)]
/-- what comes of a beginning -/
def Cut (R : NR) (ts : List Tr) (e b n l : Nat) : Prop := if n = l then R = .ok ts e b else (∃ ts' k' b', R = .ok ts' k' b') ∨ R = .bad 10 (e : Int)
theorem nodes_cut {s : ByteArray} : ∀ (f k e d b : Nat) (ts : List Tr), Pf s k e (enT ts) → e - k ≤ f → good d ts → b + cnt ts ≤ 500 → (enT ts).length ≤ 9999 → Cut (nodesR s f k e d b) ts e (b + cnt ts) (e - k) (enT ts).length := by
  intro f
  induction f with
  | zero =>
    intro k e d b ts h hf hg hb hl
    have hk := h.ke
    unfold Cut
    split
    · rename_i hq
      cases ts with
      | nil => unfold nodesR; rw [show k = e by omega]; simp only [cnt, Nat.add_zero]
      | cons t ts =>
        obtain ⟨t, v, ks⟩ := t
        exact absurd (List.eq_nil_of_length_eq_zero (by omega)) (enT_ne hg)
    · exact .inl ⟨[], k, b, by unfold nodesR; rfl⟩
  | succ f ih =>
    intro k e d b ts h hf hg hb hl
    have hk := h.ke
    have he := h.le
    by_cases hlt : k < e
    case neg =>
      rw [nodesR_done hlt]
      unfold Cut
      split
      · rename_i hq
        cases ts with
        | nil => rw [show k = e by omega]; simp only [cnt, Nat.add_zero]
        | cons t ts =>
          obtain ⟨t, v, ks⟩ := t
          exact absurd (List.eq_nil_of_length_eq_zero (by omega)) (enT_ne hg)
      · exact .inl ⟨[], k, b, rfl⟩
    cases ts with
    | nil =>
      have := h.few
      simp only [enT, List.length_nil] at this
      omega
    | cons t ts =>
      obtain ⟨t, v, ks⟩ := t
      have ht := good_tg hg
      have sv : v.data.toList.length = v.size := by simp
      have tl : 0 < (tgB t).length := by rw [tgB_size]; omega
      have hL : (enT (.mk t v ks :: ts)).length = (tgB t).length + (lnB ((v.size + (enT ks).length : Nat) : Int)).length + (v.size + (enT ks).length) + (enT ts).length := by
        simp only [enT, List.length_append]; omega
      have hC : cnt (.mk t v ks :: ts) = 1 + cnt ks + cnt ts := by simp only [cnt]
      rw [hL] at hl
      rw [hC] at hb
      rw [nodesR_step hlt]
      unfold good at hg
      have h0 : Pf s k e (tgB t ++ (lnB ((v.size + (enT ks).length : Nat) : Int) ++ ((v.data.toList ++ enT ks) ++ enT ts))) := by
        have := h
        simp only [enT, List.append_assoc] at this ⊢
        exact this
      unfold oneR
      rw [if_pos (by omega), if_pos hg.1.1]
      unfold headR
      rw [tag_cut ht h0]
      by_cases q0 : (tgB t).length ≤ e - k
      case neg =>
        rw [if_neg q0]
        unfold Cut
        rw [if_neg (by omega)]
        exact .inr rfl
      rw [if_pos q0]
      have h1 := (h0.split q0).2
      simp only
      rw [len_cut (by omega) h1]
      by_cases q1 : (lnB ((v.size + (enT ks).length : Nat) : Int)).length ≤ e - (k + (tgB t).length)
      case neg =>
        rw [if_neg q1]
        unfold Cut
        rw [if_neg (by omega)]
        exact .inr rfl
      rw [if_pos q1]
      have h2 := (h1.split q1).2
      simp only
      generalize hk2 : k + (tgB t).length + (lnB ((v.size + (enT ks).length : Nat) : Int)).length = k2 at *
      have hl2 : (v.data.toList ++ enT ks).length = v.size + (enT ks).length := by rw [List.length_append, sv]
      unfold conR
      have hk2e := h2.ke
      by_cases q2 : v.size + (enT ks).length ≤ e - k2
      case neg =>
        rw [if_neg (by omega)]
        unfold Cut
        rw [if_neg (by omega)]
        exact .inr rfl
      rw [if_pos (by omega)]
      have h3 := h2.split (by rw [hl2]; exact q2)
      have h4 := h2.whole (by rw [hl2]; exact q2)
      rw [hl2] at h3 h4
      rw [show (((v.size + (enT ks).length : Nat) : Int)).toNat = v.size + (enT ks).length by omega]
      have hgt := hg.1.2
      -- the node as it was
      have fin : ∀ X : OR, X = .ok (.mk t v ks) (k2 + (v.size + (enT ks).length)) (b + 1 + cnt ks) → Cut (thenR X (fun k' b' => nodesR s f k' e d b')) (.mk t v ks :: ts) e (b + cnt (.mk t v ks :: ts)) (e - k) (enT (.mk t v ks :: ts)).length := by
        rintro X rfl
        have r := ih (k2 + (v.size + (enT ks).length)) e d (b + 1 + cnt ks) ts h3.2 (by omega) hg.2 (by omega) (by omega)
        rw [hL, hC]
        simp only [thenR]
        unfold Cut at r ⊢
        by_cases hq : e - (k2 + (v.size + (enT ks).length)) = (enT ts).length
        · rw [if_pos hq] at r
          rw [if_pos (by omega), r]
          simp only [andR]
          rw [show b + 1 + cnt ks + cnt ts = b + (1 + cnt ks + cnt ts) by omega]
        · rw [if_neg hq] at r
          rw [if_neg (by omega)]
          rcases r with ⟨ts', k', b', r⟩ | r
          · rw [r]; exact .inl ⟨_, _, _, rfl⟩
          · rw [r]; exact .inr rfl
      by_cases hm : mkd t = true
      · rw [if_pos hm] at hgt ⊢
        have v0 := ba_nil hgt.1
        have h5 : Pf s k2 (k2 + (v.size + (enT ks).length)) (enT ks) := by
          have := h4; rw [v0, List.nil_append] at this; exact this
        have r := ih k2 (k2 + (v.size + (enT ks).length)) (d + 1) (b + 1) ks h5 (by omega) hgt.2 (by omega) (by omega)
        unfold Cut at r
        rw [if_pos (by have := hgt.1; omega)] at r
        rw [r]
        refine fin _ ?_
        simp only
        rw [show v = Np.mt from ba_ext v0]
      · rw [if_neg hm] at hgt ⊢
        obtain ⟨-, rfl⟩ := hgt
        refine fin _ ?_
        simp only [enT, List.length_nil, List.append_nil, Nat.add_zero, cnt] at h3 h4 q2 ⊢
        rw [show s.extract k2 (k2 + v.size) = v from ba_ext (by rw [ext_sl s k2 v.size (by omega)]; exact h3.1)]
theorem parse_cut {ts : List Tr} (hg : good 1 ts) (hc : cnt ts ≤ 500) (hl : (enT ts).length ≤ 9999) {s : ByteArray} (hs : s.data.toList <+: enT ts) : Cut (parseR s) ts s.size (cnt ts) s.size (enT ts).length := by
  have h1 : s.data.toList.length = s.size := by simp
  have h2 := hs.length_le
  have r := nodes_cut s.size 0 s.size 1 0 ts ⟨Nat.le_refl _, Nat.zero_le _, by rw [Nat.sub_zero, sl_all]; exact hs⟩ (by omega) hg (by omega) hl
  rw [Nat.sub_zero, Nat.zero_add] at r
  unfold parseR
  rw [if_pos (by omega)]
  exact r
theorem parse_whole {ts : List Tr} (hg : good 1 ts) (hc : cnt ts ≤ 500) (hl : (enT ts).length ≤ 9999) {s : ByteArray} (hs : s.data.toList = enT ts) : parseR s = .ok ts s.size (cnt ts) := by
  have h1 : s.data.toList.length = s.size := by simp
  have := parse_cut hg hc hl (s := s) (by rw [hs]; exact List.prefix_refl _)
  unfold Cut at this
  rw [if_pos (by rw [← h1, hs])] at this
  exact this
/-- two digits -/
theorem prB_len (t : Int) : (prB t).length = 2 := rfl
theorem pair_cut {s : ByteArray} {k e : Nat} {t why : Int} {R : List UInt8} (h0 : 0 ≤ t) (h9 : t ≤ 99) (h : Pf s k e (prB t ++ R)) : pairR s k (e : Int) why = if 2 ≤ e - k then .ok t (k + 2) else .bad 10 (e : Int) := by
  have hk := h.ke
  have B0 := h.b8 0 (x := 48 + t / 10) (by unfold prB; rfl)
  have B1 := h.b8 1 (x := 48 + t % 10) (by unfold prB; rfl)
  simp only [Nat.add_zero] at B0
  unfold pairR digR
  by_cases q0 : k < e
  · have b0 := B0 q0
    rw [if_pos (by omega), if_pos (by omega)]
    simp only
    by_cases q1 : k + 1 < e
    · have b1 := B1 q1
      rw [if_pos (by omega), if_pos (by omega), if_pos (by omega)]
      simp only
      rw [show 10 * (byt s k - 48) + (byt s (k + 1) - 48) = t by omega]
    · rw [if_neg (by omega), if_neg (by omega)]
  · rw [if_neg (by omega), if_neg (by omega)]
theorem subs_cut {s : ByteArray} : ∀ (f k e b : Nat) (ts : List Tr), Pf s k e (esT ts) → e - k ≤ f → fineL ts → b + ts.length ≤ 500 → Cut (subsR s f k e b) ts e (b + ts.length) (e - k) (esT ts).length := by
  intro f
  induction f with
  | zero =>
    intro k e b ts h hf hg hb
    have hk := h.ke
    unfold Cut
    split
    · rename_i hq
      cases ts with
      | nil => unfold subsR; rw [show k = e by omega]; rfl
      | cons t ts =>
        obtain ⟨t, v, ks⟩ := t
        simp only [esT, List.length_append, prB_len] at hq
        omega
    · exact .inl ⟨[], k, b, by unfold subsR; rfl⟩
  | succ f ih =>
    intro k e b ts h hf hg hb
    have hk := h.ke
    have he := h.le
    by_cases hlt : k < e
    case neg =>
      rw [subsR_done hlt]
      unfold Cut
      split
      · rename_i hq
        cases ts with
        | nil => rw [show k = e by omega]; rfl
        | cons t ts =>
          obtain ⟨t, v, ks⟩ := t
          simp only [esT, List.length_append, prB_len] at hq
          omega
      · exact .inl ⟨[], k, b, rfl⟩
    cases ts with
    | nil =>
      have := h.few
      simp only [esT, List.length_nil] at this
      omega
    | cons t ts =>
      obtain ⟨t, v, ks⟩ := t
      have sv : v.data.toList.length = v.size := by simp
      have hL : (esT (.mk t v ks :: ts)).length = 4 + v.size + (esT ts).length := by
        simp only [esT, List.length_append, prB_len]; omega
      rw [List.length_cons] at hb
      rw [subsR_step hlt]
      unfold fineL fineT at hg
      obtain ⟨⟨⟨t0, t9, v9, vs⟩, rfl⟩, hr⟩ := hg
      have h0 : Pf s k e (prB t ++ (prB ((v.size : Nat) : Int) ++ (v.data.toList ++ esT ts))) := by
        have := h
        simp only [esT, List.append_assoc] at this ⊢
        exact this
      unfold subR
      rw [if_pos (by omega), pair_cut t0 t9 h0]
      by_cases q0 : 2 ≤ e - k
      case neg =>
        rw [if_neg q0]
        unfold Cut
        rw [if_neg (by omega)]
        exact .inr rfl
      rw [if_pos q0]
      have h1 : Pf s (k + 2) e _ := (h0.split q0).2
      simp only
      rw [pair_cut (by omega) (by omega) h1]
      by_cases q1 : 2 ≤ e - (k + 2)
      case neg =>
        rw [if_neg q1]
        unfold Cut
        rw [if_neg (by omega)]
        exact .inr rfl
      rw [if_pos q1]
      have h2 : Pf s (k + 2 + 2) e _ := (h1.split q1).2
      simp only
      have hk2e := h2.ke
      by_cases q2 : v.size ≤ e - (k + 2 + 2)
      case neg =>
        rw [if_neg (by omega)]
        unfold Cut
        rw [if_neg (by omega)]
        exact .inr rfl
      rw [if_pos (by omega)]
      have h3 := h2.split (by rw [sv]; exact q2)
      rw [sv] at h3
      rw [show ((v.size : Nat) : Int).toNat = v.size by omega, show s.extract (k + 2 + 2) (k + 2 + 2 + v.size) = v from ba_ext (by rw [ext_sl s (k + 2 + 2) v.size (by omega)]; exact h3.1), if_pos vs]
      have r := ih (k + 2 + 2 + v.size) e (b + 1) ts h3.2 (by omega) hr (by omega)
      rw [hL, List.length_cons]
      simp only [thenR]
      unfold Cut at r ⊢
      by_cases hq : e - (k + 2 + 2 + v.size) = (esT ts).length
      · rw [if_pos hq] at r
        rw [if_pos (by omega), r]
        simp only [andR]
        rw [show b + 1 + ts.length = b + (ts.length + 1) by omega]
      · rw [if_neg hq] at r
        rw [if_neg (by omega)]
        rcases r with ⟨ts', k', b', r⟩ | r
        · rw [r]; exact .inl ⟨_, _, _, rfl⟩
        · rw [r]; exact .inr rfl
theorem parseS_cut {ts : List Tr} (hg : fineL ts) (hc : ts.length ≤ 500) (hl : (esT ts).length ≤ 9999) {s : ByteArray} (hs : s.data.toList <+: esT ts) : Cut (parseS s) ts s.size ts.length s.size (esT ts).length := by
  have h1 : s.data.toList.length = s.size := by simp
  have h2 := hs.length_le
  have r := subs_cut s.size 0 s.size 0 ts ⟨Nat.le_refl _, Nat.zero_le _, by rw [Nat.sub_zero, sl_all]; exact hs⟩ (by omega) hg (by omega)
  rw [Nat.sub_zero, Nat.zero_add] at r
  unfold parseS
  rw [if_pos (by omega)]
  exact r
theorem parseS_whole {ts : List Tr} (hg : fineL ts) (hc : ts.length ≤ 500) (hl : (esT ts).length ≤ 9999) {s : ByteArray} (hs : s.data.toList = esT ts) : parseS s = .ok ts s.size ts.length := by
  have h1 : s.data.toList.length = s.size := by simp
  have := parseS_cut hg hc hl (s := s) (by rw [hs]; exact List.prefix_refl _)
  unfold Cut at this
  rw [if_pos (by rw [← h1, hs])] at this
  exact this
theorem es_len : ∀ ts : List Tr, fineL ts → (esT ts).length ≤ 103 * ts.length
  | [], _ => by simp [esT]
  | .mk t v ks :: ts, h => by
    unfold fineL fineT at h
    have h1 := es_len ts h.2
    have sv : v.data.toList.length = v.size := by simp
    have h2 := h.1.1.2.2.1
    simp only [esT, List.length_append, List.length_cons, prB_len]
    rw [sv]
    omega
theorem subs_ok {ats : List AT} (hg : fineL (er ats)) (hc : ats.length ≤ 60) : bsE ats = 0 ∧ bsS ats = ⟨(esT (er ats)).toArray⟩ ∧ (esT (er ats)).length ≤ 9999 := by
  have h1 := ws_fine ats 0 hg (by omega)
  have h2 := es_len (er ats) hg
  have h4 := er_len ats
  have h3 : bsE ats = 0 := by
    unfold bsE
    rw [if_pos h1, esS_en, if_neg (by omega)]
  refine ⟨h3, ?_, by omega⟩
  unfold bsS
  rw [if_pos h3, esS_en]
end Go.Proofs.Ytgidjfhlooggkaa.Ct
