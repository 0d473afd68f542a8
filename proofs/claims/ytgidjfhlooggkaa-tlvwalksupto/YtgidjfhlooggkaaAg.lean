/- What is read is written as it was: plain. -/
import Derived.Test.YtgidjfhlooggkaaBu
namespace Go.Proofs.Ytgidjfhlooggkaa.Ag
set_option linter.unusedVariables false
set_option linter.unusedSimpArgs false
open Go.RowKit Kb Ga Gb Gc Nt Wk Ls Wr Nb Bu Np Gf Gg Go_ Gl Sb
/-- so many bytes from a place on -/
def sl (s : ByteArray) (k n : Nat) : List UInt8 := (s.data.toList.drop k).take n
theorem sl_add (s : ByteArray) (k a b : Nat) : sl s k (a + b) = sl s k a ++ sl s (k + a) b := by
  unfold sl
  rw [List.take_add, List.drop_drop]
theorem sl_zero (s : ByteArray) (k : Nat) : sl s k 0 = [] := by simp [sl]
theorem sl_one (s : ByteArray) (k : Nat) (h : k < s.size) : sl s k 1 = [s.data.getD k 0] := by
  have h1 : k < s.data.toList.length := by simpa using h
  have h2 : k < s.data.size := h
  unfold sl
  rw [List.drop_eq_getElem_cons h1]
  simp only [List.take_succ_cons, List.take_zero, Array.getD_eq_getD_getElem?, Array.getElem?_eq_getElem h2, Option.getD_some, Array.getElem_toList]
theorem sl_all (s : ByteArray) : sl s 0 s.size = s.data.toList := by
  unfold sl
  rw [List.drop_zero, List.take_of_length_le (by simp)]
theorem ext_sl (s : ByteArray) (k n : Nat) (h : k + n ≤ s.size) : (s.extract k (k + n)).data.toList = sl s k n := by
  unfold sl
  rw [ByteArray.data_extract, Array.toList_extract, List.extract_eq_take_drop]
  congr 1
  omega
theorem b8_byt (s : ByteArray) (k : Nat) (x : Int) (h : x % 256 = byt s k) : b8 x = s.data.getD k 0 := by
  have h1 := b8_val x
  rw [h] at h1
  unfold byt at h1
  exact UInt8.toNat_inj.1 (by omega)
/-- nested bytes -/
def enT : List Tr → List UInt8
  | [] => []
  | .mk t v ks :: ts => tgB t ++ lnB ((v.size + (enT ks).length : Nat) : Int) ++ v.data.toList ++ enT ks ++ enT ts
def cnt : List Tr → Nat
  | [] => 0
  | .mk _ _ ks :: ts => 1 + cnt ks + cnt ts
def good : Nat → List Tr → Prop
  | _, [] => True
  | d, .mk t v ks :: ts => (d ≤ 8 ∧ (if mkd t then v.size = 0 ∧ good (d + 1) ks else 0 < tgS t ∧ ks = [])) ∧ good d ts
theorem tgB_size (t : Int) : (tgB t).length = (tgS t).toNat := by
  have := tgS_bd t
  unfold tgB
  repeat' split
  all_goals simp
  all_goals omega
theorem lnB_size (n : Int) : (lnB n).length = (lnS n).toNat := by
  unfold lnB lnS
  repeat' split
  all_goals simp
theorem lsz_en : ∀ ats : List AT, lsz ats = (enT (er ats)).length
  | [] => by simp [lsz, er, enT]
  | .mk t v kv ks :: ts => by
    have h1 := lsz_en ks
    have h2 := lsz_en ts
    have h3 : v.data.toList.length = v.size := by simp
    simp only [lsz, er, enT, List.length_append, tgB_size, lnB_size, h1, h2, h3]
    omega
theorem encS_en : ∀ (d : Nat) (ats : List AT), encS (steps d ats) = enT (er ats)
  | d, [] => by simp [steps, er, enT, encS]
  | d, .mk t v kv ks :: ts => by
    have h1 := encS_en (d + 1) ks
    have h2 := encS_en d ts
    have e : encS (steps d (.mk t v kv ks :: ts)) = enc1 (d, .mk t v kv ks) ++ encS (steps (d + 1) ks) ++ encS (steps d ts) := by
      simp only [steps]
      simp [encS]
    rw [e, h1, h2]
    simp only [er, enT, enc1, AT.tag, AT.val, csz, AT.kids, lsz_en ks]
theorem wr_good : ∀ (d c : Nat) (ats : List AT), good d (er ats) → c + cnt (er ats) ≤ 500 → wrR c (steps d ats) = 0 ∧ (steps d ats).length = cnt (er ats)
  | d, c, [], _, _ => by simp [steps, wrR, er, cnt]
  | d, c, .mk t v kv ks :: ts, h, hc => by
    simp only [er, good, cnt] at h hc
    have hk : good (d + 1) (er ks) := by
      have := h.1.2
      split at this
      · exact this.2
      · rw [this.2]; unfold good; trivial
    have h1 := wr_good (d + 1) (c + 1) ks hk (by omega)
    have h2 := wr_good d (c + 1 + cnt (er ks)) ts h.2 (by omega)
    have hw : wr1 c (d, .mk t v kv ks) = 0 := by
      have hft : ftB t v ks.length = true := by
        unfold ftB
        have h9 := h.1.2
        split at h9
        · rename_i hm
          rw [if_pos hm]; simpa using h9.1
        · rename_i hm
          rw [if_neg hm]
          have hl : ks.length = 0 := by rw [← er_len ks, h9.2]; rfl
          simp [h9.1, hl]
      show wrC c d t v ks.length = 0
      unfold wrC
      rw [if_neg (by omega), if_neg (by omega), if_pos hft]
    refine ⟨?_, ?_⟩
    · simp only [steps]
      rw [wrR_cons _ hw, wrR_go _ _ _ h1.1, h1.2]
      exact h2.1
    · simp only [steps, List.length_cons, List.length_append, er, cnt, h1.2, h2.2]
      omega
theorem dep_few : ∀ (d : Nat) (ats : List AT), good d (er ats) → dep ats = 0 ∨ d + dep ats ≤ 9
  | d, [], _ => by simp [dep]
  | d, .mk t v kv ks :: ts, h => by
    simp only [er, good] at h
    have hk : good (d + 1) (er ks) := by
      have := h.1.2
      split at this
      · exact this.2
      · rw [this.2]; unfold good; trivial
    have h1 := dep_few (d + 1) ks hk
    have h2 := dep_few d ts h.2
    have h3 := h.1.1
    simp only [dep]
    omega
theorem dep_good (d : Nat) (ats : List AT) (h : good d (er ats)) : dep ats ≤ 999999 := by
  have := dep_few d ats h
  omega
/-- a tag as it stands -/
theorem tag_sl {s : ByteArray} {k : Nat} {e t : Int} {k1 : Nat} (h : tagR s k e = .ok t k1) (he : e ≤ (s.size : Int)) : tgB t = sl s k (k1 - k) ∧ 0 < tgS t := by
  have A := byt_bd s k
  have B := byt_bd s (k + 1)
  have C := byt_bd s (k + 2)
  unfold tagR at h
  split at h
  · rename_i h0
    split at h
    · cases h
    · rename_i hz
      split at h
      · rename_i hg
        cases h
        have ht : tgS (byt s k) = 1 := by unfold tgS; rw [if_neg (by omega), if_pos (by omega)]
        refine ⟨?_, by omega⟩
        unfold tgB
        rw [if_pos ht, show k + 1 - k = 1 by omega, sl_one s k (by omega), b8_byt s k _ (by omega)]
      · rename_i hg
        split at h
        · rename_i h1
          split at h
          · cases h
          · split at h
            · rename_i hb
              cases h
              have ht : tgS (byt s k * 256 + byt s (k + 1)) = 2 := by unfold tgS; rw [if_neg (by omega), if_neg (by omega), if_pos (by omega)]
              refine ⟨?_, by omega⟩
              unfold tgB
              rw [if_neg (by omega), if_pos ht, show k + 2 - k = 1 + 1 by omega, sl_add, sl_one s k (by omega), sl_one s (k + 1) (by omega), b8_byt s k _ (by omega), b8_byt s (k + 1) _ (by omega)]
              rfl
            · rename_i hb
              split at h
              · rename_i h2
                split at h
                · rename_i hc
                  cases h
                  have ht : tgS (byt s k * 65536 + byt s (k + 1) * 256 + byt s (k + 2)) = 3 := by
                    unfold tgS; rw [if_neg (by omega), if_neg (by omega), if_neg (by omega), if_pos (by omega)]
                  refine ⟨?_, by omega⟩
                  unfold tgB
                  rw [if_neg (by omega), if_neg (by omega), if_pos ht, show k + 3 - k = 1 + 1 + 1 by omega, sl_add, sl_add, sl_one s k (by omega), sl_one s (k + 1) (by omega), show k + (1 + 1) = k + 2 by omega, sl_one s (k + 2) (by omega), b8_byt s k _ (by omega), b8_byt s (k + 1) _ (by omega), b8_byt s (k + 2) _ (by omega)]
                  rfl
                · cases h
              · cases h
        · cases h
  · cases h
theorem len_sl {s : ByteArray} {k : Nat} {e n : Int} {k1 : Nat} (h : lenR s k e = .ok n k1) (he : e ≤ (s.size : Int)) : lnB n = sl s k (k1 - k) := by
  have A := byt_bd s k
  have B := byt_bd s (k + 1)
  have C := byt_bd s (k + 2)
  have by129 : byt s k = 129 → s.data.getD k 0 = 129 := fun h => UInt8.toNat_inj.1 (by unfold byt at h; show _ = 129; omega)
  have by130 : byt s k = 130 → s.data.getD k 0 = 130 := fun h => UInt8.toNat_inj.1 (by unfold byt at h; show _ = 130; omega)
  unfold lenR at h
  split at h
  · rename_i h0
    split at h
    · rename_i h9
      split at h
      · rename_i h1
        split at h
        · cases h
        · rename_i hb
          cases h
          unfold lnB
          rw [if_neg (by omega), if_pos (by omega), show k + 2 - k = 1 + 1 by omega, sl_add, sl_one s k (by omega), sl_one s (k + 1) (by omega), by129 h9, b8_byt s (k + 1) _ (by omega)]
          rfl
      · cases h
    · split at h
      · rename_i h9
        split at h
        · rename_i h1
          split at h
          · rename_i h2
            split at h
            · rename_i hb
              cases h
              unfold lnB
              rw [if_neg (by omega), if_neg (by omega), show k + 3 - k = 1 + 1 + 1 by omega, sl_add, sl_add, sl_one s k (by omega), sl_one s (k + 1) (by omega), show k + (1 + 1) = k + 2 by omega, sl_one s (k + 2) (by omega), by130 h9, b8_byt s (k + 1) _ (by omega), b8_byt s (k + 2) _ (by omega)]
              rfl
            · cases h
          · cases h
        · cases h
      · split at h
        · rename_i hb
          cases h
          unfold lnB
          rw [if_pos hb, show k + 1 - k = 1 by omega, sl_one s k (by omega), b8_byt s k _ (by omega)]
        · cases h
  · cases h
/-- what is read is written as it stood -/
theorem nodes_en {s : ByteArray} : ∀ (f k e d b : Nat) (ts : List Tr) (k' b' : Nat), k ≤ e → e ≤ s.size → e - k ≤ f → nodesR s f k e d b = .ok ts k' b' → good d ts ∧ b' = b + cnt ts ∧ enT ts = sl s k (e - k)
  | 0, k, e, d, b, ts, k', b', hk, he, hf, h => by
    unfold nodesR at h
    injection h with h1 h2 h3
    subst h1
    refine ⟨by unfold good; trivial, by simp only [cnt]; omega, ?_⟩
    rw [show e - k = 0 by omega, sl_zero]; simp only [enT]
  | f + 1, k, e, d, b, ts, k', b', hk, he, hf, h => by
    by_cases hlt : k < e
    case neg =>
      rw [nodesR_done hlt] at h
      injection h with h1 h2 h3
      subst h1
      refine ⟨by unfold good; trivial, by simp only [cnt]; omega, ?_⟩
      rw [show e - k = 0 by omega, sl_zero]; simp only [enT]
    rw [nodesR_step hlt] at h
    cases e1 : oneR (nodesR s f) s k e d b with
    | bad y a => rw [e1] at h; exact absurd h (by simp [thenR])
    | ok t k1 b1 =>
      rw [e1] at h
      simp only [thenR] at h
      have a1 := oneR_ok (rec := nodesR s f) (fun k e d b ts k' b' hb h => nodesR_ok f k e d b ts k' b' hb h) e1
      cases e2 : nodesR s f k1 e d b1 with
      | bad y a => rw [e2] at h; exact absurd h (by simp [andR])
      | ok ts2 k2 b2 =>
        rw [e2] at h
        simp only [andR] at h
        injection h with h1 h2 h3
        subst h1
        have r := nodes_en f k1 e d b1 ts2 k2 b2 (by omega) he (by omega) e2
        -- one node
        have one : ∃ tg v ks, t = .mk tg v ks ∧ (d ≤ 8 ∧ (if mkd tg then v.size = 0 ∧ good (d + 1) ks else 0 < tgS tg ∧ ks = [])) ∧ b1 = b + 1 + cnt ks ∧ tgB tg ++ lnB ((v.size + (enT ks).length : Nat) : Int) ++ v.data.toList ++ enT ks = sl s k (k1 - k) := by
          unfold oneR at e1
          split at e1
          · split at e1
            · rename_i hd8
              unfold headR at e1
              cases eT : tagR s k e with
              | bad y a => rw [eT] at e1; exact absurd e1 (by simp)
              | ok tg kt =>
                rw [eT] at e1
                simp only at e1
                have aT := tagR_ok eT
                have sT := tag_sl eT (by omega)
                cases eL : lenR s kt e with
                | bad y a => rw [eL] at e1; exact absurd e1 (by simp)
                | ok n kn =>
                  rw [eL] at e1
                  simp only at e1
                  have aL := lenR_ok eL
                  have sL := len_sl eL (by omega)
                  unfold conR at e1
                  split at e1
                  · rename_i hn
                    split at e1
                    · rename_i hm
                      cases eK : nodesR s f kn (kn + n.toNat) (d + 1) (b + 1) with
                      | bad y a => rw [eK] at e1; exact absurd e1 (by simp)
                      | ok ks kk bk =>
                        rw [eK] at e1
                        simp only at e1
                        injection e1 with g1 g2 g3
                        subst g1
                        have rk := nodes_en f kn (kn + n.toNat) (d + 1) (b + 1) ks kk bk (by omega) (by omega) (by omega) eK
                        rw [show kn + n.toNat - kn = n.toNat by omega] at rk
                        have lk : (enT ks).length = n.toNat := by
                          rw [rk.2.2]
                          have : (s.data.toList).length = s.size := by simp
                          unfold sl
                          rw [List.length_take, List.length_drop]
                          omega
                        refine ⟨tg, Np.mt, ks, rfl, ⟨hd8, by rw [if_pos hm]; exact ⟨rfl, rk.1⟩⟩, by omega, ?_⟩
                        rw [lk, sT.1, rk.2.2, show ((Np.mt.size + n.toNat : Nat) : Int) = n by rw [show Np.mt.size = 0 from rfl]; omega, sL, show k1 - k = (kt - k) + (kn - kt) + n.toNat by omega, sl_add, sl_add, show k + (kt - k) = kt by omega, show k + ((kt - k) + (kn - kt)) = kn by omega]
                        simp [Np.mt]
                    · rename_i hm
                      injection e1 with g1 g2 g3
                      subst g1
                      have sz : (s.extract kn (kn + n.toNat)).size = n.toNat := by rw [ByteArray.size_extract]; omega
                      refine ⟨tg, _, [], rfl, ⟨hd8, by rw [if_neg hm]; exact ⟨sT.2, rfl⟩⟩, by simp only [cnt]; omega, ?_⟩
                      simp only [enT, List.length_nil, Nat.add_zero, List.append_nil]
                      rw [sz, sT.1, show ((n.toNat : Nat) : Int) = n by omega, sL, ext_sl s kn n.toNat (by omega), show k1 - k = (kt - k) + (kn - kt) + n.toNat by omega, sl_add, sl_add, show k + (kt - k) = kt by omega, show k + ((kt - k) + (kn - kt)) = kn by omega]
                  · exact absurd e1 (by simp)
            · exact absurd e1 (by simp)
          · exact absurd e1 (by simp)
        obtain ⟨tg, v, ks, rfl, hgd, hcn, hen⟩ := one
        refine ⟨by unfold good; exact ⟨hgd, r.1⟩, by simp only [cnt]; omega, ?_⟩
        simp only [enT]
        rw [hen, r.2.2, show e - k = (k1 - k) + (e - k1) by omega, sl_add, show k + (k1 - k) = k1 by omega]
theorem parse_again {s : ByteArray} {ts : List Tr} {k b : Nat} (h : parseR s = .ok ts k b) {ats : List AT} (he : er ats = ts) : bldE ats = 0 ∧ bldS ats = s ∧ dep ats ≤ 999999 := by
  unfold parseR at h
  split at h
  · rename_i h9
    have hb := nodesR_ok _ _ _ _ _ _ _ _ (by omega) h
    obtain ⟨h1, h2, h3⟩ := nodes_en _ _ _ _ _ _ _ _ (by omega) (Nat.le_refl _) (by omega) h
    subst he
    rw [Nat.sub_zero, sl_all] at h3
    have hw := wr_good 1 0 ats h1 (by omega)
    have hl : lsz ats = s.size := by rw [lsz_en, h3]; simp
    have e0 : bldE ats = 0 := by unfold bldE; rw [if_pos hw.1, if_neg (by omega)]
    refine ⟨e0, ?_, ?_⟩
    · unfold bldS
      rw [if_pos e0, encS_en, h3]
    · exact dep_good 1 ats h1
  · exact absurd h (by simp)
/-- where bytes are given up -/
theorem tag_bad {s : ByteArray} {k : Nat} {e y a : Int} (h : tagR s k e = .bad y a) (hk : (k : Int) ≤ e) : y ≠ 0 ∧ 0 ≤ a ∧ a ≤ e := by
  unfold tagR at h
  repeat' split at h
  all_goals (cases h <;> omega)
theorem len_bad {s : ByteArray} {k : Nat} {e y a : Int} (h : lenR s k e = .bad y a) (hk : (k : Int) ≤ e) : y ≠ 0 ∧ 0 ≤ a ∧ a ≤ e := by
  unfold lenR at h
  repeat' split at h
  all_goals (cases h <;> omega)
theorem nodes_bad {s : ByteArray} : ∀ (f k e d b : Nat) (y a : Int), k ≤ e → nodesR s f k e d b = .bad y a → y ≠ 0 ∧ 0 ≤ a ∧ a ≤ (e : Int)
  | 0, k, e, d, b, y, a, hk, h => by
    unfold nodesR at h
    exact absurd h (by simp)
  | f + 1, k, e, d, b, y, a, hk, h => by
    by_cases hlt : k < e
    case neg =>
      rw [nodesR_done hlt] at h
      exact absurd h (by simp)
    rw [nodesR_step hlt] at h
    cases e1 : oneR (nodesR s f) s k e d b with
    | bad y' a' =>
      rw [e1] at h
      simp only [thenR] at h
      injection h with h1 h2
      subst h1; subst h2
      unfold oneR at e1
      split at e1
      · split at e1
        · unfold headR at e1
          cases eT : tagR s k e with
          | bad y a => rw [eT] at e1; simp only at e1; injection e1 with g1 g2; subst g1; subst g2; exact tag_bad eT (by omega)
          | ok tg kt =>
            rw [eT] at e1
            simp only at e1
            have aT := tagR_ok eT
            cases eL : lenR s kt e with
            | bad y a => rw [eL] at e1; simp only at e1; injection e1 with g1 g2; subst g1; subst g2; exact len_bad eL (by omega)
            | ok n kn =>
              rw [eL] at e1
              simp only at e1
              have aL := lenR_ok eL
              unfold conR at e1
              split at e1
              · split at e1
                · cases eK : nodesR s f kn (kn + n.toNat) (d + 1) (b + 1) with
                  | bad y a =>
                    rw [eK] at e1; simp only at e1; injection e1 with g1 g2; subst g1; subst g2
                    have := nodes_bad f kn (kn + n.toNat) (d + 1) (b + 1) _ _ (by omega) eK
                    omega
                  | ok ks kk bk => rw [eK] at e1; exact absurd e1 (by simp)
                · exact absurd e1 (by simp)
              · injection e1 with g1 g2; omega
        · injection e1 with g1 g2; omega
      · injection e1 with g1 g2; omega
    | ok t k1 b1 =>
      rw [e1] at h
      simp only [thenR] at h
      have a1 := oneR_ok (rec := nodesR s f) (fun k e d b ts k' b' hb h => nodesR_ok f k e d b ts k' b' hb h) e1
      cases e2 : nodesR s f k1 e d b1 with
      | bad y' a' =>
        rw [e2] at h
        simp only [andR] at h
        injection h with h1 h2
        subst h1; subst h2
        exact nodes_bad f k1 e d b1 _ _ (by omega) e2
      | ok ts2 k2 b2 => rw [e2] at h; exact absurd h (by simp [andR])
theorem parse_bad {s : ByteArray} {y a : Int} (h : parseR s = .bad y a) : y ≠ 0 ∧ 0 ≤ a ∧ a ≤ (s.size : Int) := by
  unfold parseR at h
  split at h
  · exact nodes_bad _ _ _ _ _ _ _ (by omega) h
  · injection h with h1 h2; omega
/-- sub-elements -/
theorem dig_bad {s : ByteArray} {k : Nat} {e why y a : Int} (h : digR s k e why = .bad y a) (hk : (k : Int) ≤ e) (hw : why ≠ 0) : y ≠ 0 ∧ 0 ≤ a ∧ a ≤ e := by
  unfold digR at h
  repeat' split at h
  all_goals (cases h <;> omega)
theorem pair_bad {s : ByteArray} {k : Nat} {e why y a : Int} (h : pairR s k e why = .bad y a) (hk : (k : Int) ≤ e) (hw : why ≠ 0) : y ≠ 0 ∧ 0 ≤ a ∧ a ≤ e := by
  unfold pairR at h
  cases h1 : digR s k e why with
  | bad y' a' => rw [h1] at h; simp only at h; injection h with g1 g2; subst g1; subst g2; exact dig_bad h1 hk hw
  | ok t k1 =>
    rw [h1] at h
    simp only at h
    have a1 := digR_ok h1
    cases h2 : digR s k1 e why with
    | bad y' a' => rw [h2] at h; simp only at h; injection h with g1 g2; subst g1; subst g2; exact dig_bad h2 (by omega) hw
    | ok u k2 => rw [h2] at h; exact absurd h (by simp)
theorem pair_sl {s : ByteArray} {k : Nat} {e why t : Int} {k1 : Nat} (h : pairR s k e why = .ok t k1) (he : e ≤ (s.size : Int)) : prB t = sl s k 2 := by
  obtain ⟨h1, h2, h3, h4, h5, h6, h7, h8, h9⟩ := pairR_ok h
  unfold prB
  rw [show (2 : Nat) = 1 + 1 from rfl, sl_add, sl_one s k (by omega), sl_one s (k + 1) (by omega), b8_byt s k _ (by omega), b8_byt s (k + 1) _ (by omega)]
  rfl
def fineT (t : Int) (v : ByteArray) : Prop := 0 ≤ t ∧ t ≤ 99 ∧ v.size ≤ 99 ∧ Go_.seen v = v.size
def esT : List Tr → List UInt8
  | [] => []
  | .mk t v ks :: ts => prB t ++ prB (v.size : Int) ++ v.data.toList ++ esT ts
def fineL : List Tr → Prop
  | [] => True
  | .mk t v ks :: ts => (fineT t v ∧ ks = []) ∧ fineL ts
theorem sub_en {s : ByteArray} {k e b : Nat} (he : e ≤ s.size) {tr : Tr} {k' b' : Nat} (h : subR s k e b = .ok tr k' b') : ∃ t v, tr = .mk t v [] ∧ fineT t v ∧ prB t ++ prB (v.size : Int) ++ v.data.toList = sl s k (k' - k) := by
  have a0 := subR_ok h
  unfold subR at h
  split at h
  · cases e1 : pairR s k e 90 with
    | bad y a => rw [e1] at h; exact absurd h (by simp)
    | ok t k1 =>
      rw [e1] at h
      simp only at h
      cases e2 : pairR s k1 e 91 with
      | bad y a => rw [e2] at h; exact absurd h (by simp)
      | ok n k2 =>
        rw [e2] at h
        simp only at h
        obtain ⟨g1, g2, g3, g4, -⟩ := pairR_ok e1
        obtain ⟨m1, m2, m3, m4, -⟩ := pairR_ok e2
        have p1 := pair_sl e1 (by omega)
        have p2 := pair_sl e2 (by omega)
        split at h
        · rename_i hn
          split at h
          · rename_i hs
            injection h with h1 h2 h3
            subst h1
            have sz : (s.extract k2 (k2 + n.toNat)).size = n.toNat := by rw [ByteArray.size_extract]; omega
            refine ⟨t, _, rfl, ⟨g3, g4, by omega, by rw [sz]; exact hs⟩, ?_⟩
            rw [sz, p1, show ((n.toNat : Nat) : Int) = n by omega, p2, ext_sl s k2 n.toNat (by omega), show k' - k = 2 + 2 + n.toNat by omega, sl_add, sl_add, show k + (2 + 2) = k2 by omega, show k1 = k + 2 by omega]
          · exact absurd h (by simp)
        · exact absurd h (by simp)
  · exact absurd h (by simp)
theorem sub_bad {s : ByteArray} {k e b : Nat} (hk : k ≤ e) (he : e ≤ s.size) {y a : Int} (h : subR s k e b = .bad y a) : y ≠ 0 ∧ 0 ≤ a ∧ a ≤ (e : Int) := by
  unfold subR at h
  split at h
  · cases e1 : pairR s k e 90 with
    | bad y a => rw [e1] at h; simp only at h; injection h with g1 g2; subst g1; subst g2; exact pair_bad e1 (by omega) (by decide)
    | ok t k1 =>
      rw [e1] at h
      simp only at h
      obtain ⟨g1, g2, g3, g4, -⟩ := pairR_ok e1
      cases e2 : pairR s k1 e 91 with
      | bad y a => rw [e2] at h; simp only at h; injection h with g1 g2; subst g1; subst g2; exact pair_bad e2 (by omega) (by decide)
      | ok n k2 =>
        rw [e2] at h
        simp only at h
        obtain ⟨m1, m2, m3, m4, -⟩ := pairR_ok e2
        split at h
        · rename_i hn
          split at h
          · exact absurd h (by simp)
          · injection h with h1 h2
            have := seen_le (s.extract k2 (k2 + n.toNat))
            have sz : (s.extract k2 (k2 + n.toNat)).size = n.toNat := by rw [ByteArray.size_extract]; omega
            omega
        · injection h with h1 h2; omega
  · injection h with h1 h2; omega
theorem subs_en {s : ByteArray} : ∀ (f k e b : Nat) (ts : List Tr) (k' b' : Nat), k ≤ e → e ≤ s.size → e - k ≤ f → b ≤ 500 → subsR s f k e b = .ok ts k' b' → fineL ts ∧ b + ts.length ≤ 500 ∧ esT ts = sl s k (e - k)
  | 0, k, e, b, ts, k', b', hk, he, hf, hb, h => by
    unfold subsR at h
    injection h with h1 h2 h3
    subst h1
    refine ⟨by unfold fineL; trivial, by simpa using hb, ?_⟩
    rw [show e - k = 0 by omega, sl_zero]; simp only [esT]
  | f + 1, k, e, b, ts, k', b', hk, he, hf, hb, h => by
    by_cases hlt : k < e
    case neg =>
      rw [subsR_done hlt] at h
      injection h with h1 h2 h3
      subst h1
      refine ⟨by unfold fineL; trivial, by simpa using hb, ?_⟩
      rw [show e - k = 0 by omega, sl_zero]; simp only [esT]
    rw [subsR_step hlt] at h
    cases e1 : subR s k e b with
    | bad y a => rw [e1] at h; exact absurd h (by simp [thenR])
    | ok t k1 b1 =>
      rw [e1] at h
      simp only [thenR] at h
      have a1 := subR_ok e1
      cases e2 : subsR s f k1 e b1 with
      | bad y a => rw [e2] at h; exact absurd h (by simp [andR])
      | ok ts2 k2 b2 =>
        rw [e2] at h
        simp only [andR] at h
        injection h with h1 h2 h3
        subst h1
        have r := subs_en f k1 e b1 ts2 k2 b2 (by omega) he (by omega) (by omega) e2
        obtain ⟨tg, v, rfl, hfn, hen⟩ := sub_en he e1
        refine ⟨by unfold fineL; exact ⟨⟨hfn, rfl⟩, r.1⟩, by rw [List.length_cons]; omega, ?_⟩
        simp only [esT]
        rw [hen, r.2.2, show e - k = (k1 - k) + (e - k1) by omega, sl_add, show k + (k1 - k) = k1 by omega]
theorem subs_bad {s : ByteArray} : ∀ (f k e b : Nat) (y a : Int), k ≤ e → e ≤ s.size → subsR s f k e b = .bad y a → y ≠ 0 ∧ 0 ≤ a ∧ a ≤ (e : Int)
  | 0, k, e, b, y, a, hk, he, h => by
    unfold subsR at h
    exact absurd h (by simp)
  | f + 1, k, e, b, y, a, hk, he, h => by
    by_cases hlt : k < e
    case neg =>
      rw [subsR_done hlt] at h
      exact absurd h (by simp)
    rw [subsR_step hlt] at h
    cases e1 : subR s k e b with
    | bad y' a' =>
      rw [e1] at h
      simp only [thenR] at h
      injection h with h1 h2
      subst h1; subst h2
      exact sub_bad hk he e1
    | ok t k1 b1 =>
      rw [e1] at h
      simp only [thenR] at h
      have a1 := subR_ok e1
      cases e2 : subsR s f k1 e b1 with
      | bad y' a' =>
        rw [e2] at h
        simp only [andR] at h
        injection h with h1 h2
        subst h1; subst h2
        exact subs_bad f k1 e b1 _ _ (by omega) he e2
      | ok ts2 k2 b2 => rw [e2] at h; exact absurd h (by simp [andR])
theorem ws_fine : ∀ (ats : List AT) (i : Nat), fineL (er ats) → i + ats.length ≤ 500 → wsR i ats = 0
  | [], i, _, _ => by simp [wsR]
  | .mk t v kv ks :: ts, i, h, hi => by
    simp only [er, fineL, fineT] at h
    rw [List.length_cons] at hi
    have hl : ks.length = 0 := by rw [← er_len ks, h.1.2]; rfl
    have hw : ws1 i (.mk t v kv ks) = 0 := by
      show (if 500 ≤ i then (93 : Int) else if t < 0 ∨ 99 < t ∨ 0 < ks.length then 90 else if 99 < v.size then 91 else if Go_.seen v < v.size then 11 else 0) = 0
      rw [if_neg (by omega), if_neg (by omega), if_neg (by omega), if_neg (by omega)]
    rw [wsR_cons _ hw]
    exact ws_fine ts (i + 1) h.2 (by omega)
theorem esS_en : ∀ ats : List AT, esS ats = esT (er ats)
  | [] => by simp [esS, er, esT]
  | .mk t v kv ks :: ts => by
    have := esS_en ts
    unfold esS at this ⊢
    simp only [List.flatMap_cons, er, esT, es1, AT.tag, AT.val, this]
theorem subs_again {s : ByteArray} {ts : List Tr} {k b : Nat} (h : parseS s = .ok ts k b) {ats : List AT} (he : er ats = ts) : bsE ats = 0 ∧ bsS ats = s := by
  unfold parseS at h
  split at h
  · rename_i h9
    obtain ⟨h1, h2, h3⟩ := subs_en _ _ _ _ _ _ _ (by omega) (Nat.le_refl _) (by omega) (by omega) h
    subst he
    rw [Nat.sub_zero, sl_all] at h3
    rw [er_len] at h2
    have hw := ws_fine ats 0 h1 h2
    have e0 : bsE ats = 0 := by
      unfold bsE
      rw [if_pos hw, esS_en, h3, if_neg (by simp; omega)]
    refine ⟨e0, ?_⟩
    unfold bsS
    rw [if_pos e0, esS_en, h3]
  · exact absurd h (by simp)
theorem parseS_bad {s : ByteArray} {y a : Int} (h : parseS s = .bad y a) : y ≠ 0 ∧ 0 ≤ a ∧ a ≤ (s.size : Int) := by
  unfold parseS at h
  split at h
  · exact subs_bad _ _ _ _ _ _ (by omega) (Nat.le_refl _) h
  · injection h with h1 h2; omega
end Go.Proofs.Ytgidjfhlooggkaa.Ag
