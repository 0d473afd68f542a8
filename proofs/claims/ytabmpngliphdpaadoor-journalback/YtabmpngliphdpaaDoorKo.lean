/- journal, plain: the bytes of entries; cut anywhere; one byte turned. -/
import Derived.Test.YtabmpngliphdpaaDoorKn
namespace Go.Proofs.YtabmpngliphdpaaDoor.Ko
set_option linter.unusedVariables false
set_option linter.unusedSimpArgs false
open Go.RowKit Ja Jb Jd Ji Jj Jk Jl Jn Jp Jq Jr Jx Kc Kd Ke Kf Kl Km Kn
/-- the record of the k-th entry (from 0) -/
def rb (k : Nat) (x : En) : List UInt8 := (recB (k + 1) x.body).data.toList
/-- the bytes of entries, the first of them the k-th -/
def jbF : Nat → List En → List UInt8
  | _, [] => []
  | k, x :: t => rb k x ++ jbF (k + 1) t
/-- entries that a journal holds -/
def Good (x : En) : Prop := x.ok ∧ Fits x
theorem rb_len (k : Nat) (x : En) : (rb k x).length = 12 + x.body.size := by unfold rb; rw [← size_list, recB_size]
/-- how a record stands -/
theorem rb_form {k : Nat} {x : En} (hk : k + 1 < 4294967296) (hf : Fits x) : ∃ B S, x.body.data.toList = B ∧ B.length = x.body.size ∧ S = sumN (w4 (k + 1) ++ w4 x.body.size ++ B) ∧ rb k x = w4 (k + 1) ++ w4 x.body.size ++ B ++ w4 S := by
  unfold Fits at hf
  refine ⟨_, _, rfl, (size_list _).symm, rfl, ?_⟩
  unfold rb
  rw [recB_list, Nat.mod_eq_of_lt hk, Nat.mod_eq_of_lt (by omega)]
theorem w4l (n : Nat) : (w4 n).length = 4 := rfl
theorem w4d (n : Nat) : (w4 n).drop 4 = [] := rfl
theorem w4e (n : Nat) : (w4 n).drop 8 = [] := rfl
/-- a record is taken, whatever stands behind it -/
theorem rcd_rb {k : Nat} {x : En} (hk : k + 1 < 4294967296) (hx : Good x) (t : List UInt8) : rcd (rb k x ++ t) ((k : Int) + 1) = some x.body.size := by
  obtain ⟨B, S, hB, hl, hS, hr⟩ := rb_form hk hx.2
  have hf := hx.2
  unfold Fits at hf
  have hlen := rb_len k x
  obtain ⟨m, hm⟩ : ∃ m, x.body.size = m := ⟨_, rfl⟩
  rw [hm] at hl hS hr hf hlen ⊢
  have hSl : S < 4294967296 := by rw [hS]; exact sum_lt _
  have e4 : (rb k x ++ t).drop 4 = w4 m ++ (B ++ w4 S ++ t) := by rw [hr]; simp [List.drop_append, w4l, w4d, w4e]
  have e8 : (rb k x ++ t).drop 8 = B ++ (w4 S ++ t) := by rw [hr]; simp [List.drop_append, w4l, w4d, w4e]
  have e9 : (rb k x ++ t).drop (8 + m) = w4 S ++ t := by
    rw [← List.drop_drop, e8, ← hl, List.drop_left]
  have eT : (rb k x ++ t).take (8 + m) = w4 (k + 1) ++ w4 m ++ B := by
    rw [hr, show w4 (k + 1) ++ w4 m ++ B ++ w4 S ++ t = (w4 (k + 1) ++ w4 m ++ B) ++ (w4 S ++ t) by simp]
    exact List.take_left' (by simp [w4l, hl]; omega)
  refine rcd_some.2 ⟨by rw [List.length_append]; omega, ?_, hf, ?_, ?_, ?_⟩
  · rw [hr, show w4 (k + 1) ++ w4 m ++ B ++ w4 S ++ t = w4 (k + 1) ++ (w4 m ++ B ++ w4 S ++ t) by simp, wl_w4 _ hk]
    omega
  · rw [e4, wl_w4 _ (by omega)]
  · rw [e8, ← hl, List.take_left, ← hB]
    exact isB_body x hx.1 hx.2
  · rw [e9, eT, wl_w4 _ hSl, hS]
/-- a beginning of a record is none -/
theorem rcd_part {k : Nat} {x : En} (hk : k + 1 < 4294967296) (hx : Good x) (t : List UInt8) (c : Nat) (hc : c < 12 + x.body.size) : rcd ((rb k x ++ t).take c) ((k : Int) + 1) = none := by
  cases h : rcd ((rb k x ++ t).take c) ((k : Int) + 1) with
  | none => rfl
  | some z =>
    exfalso
    obtain ⟨h1, h2, h3, h4, h5, h6⟩ := rcd_some.1 h
    have hlen := rb_len k x
    rw [List.length_take, List.length_append] at h1
    have hv := (rcd_some.1 (rcd_rb hk hx t)).2.2.2.1
    rw [List.drop_take, wl_take (by omega), hv] at h4
    omega
theorem set_getD (l : List UInt8) (i j : Nat) (d : UInt8) (hi : i < l.length) : (l.set i d).getD j 0 = if i = j then d else l.getD j 0 := by
  simp only [List.getD_eq_getElem?_getD, List.getElem?_set]
  split
  · rename_i e
    subst e
    rfl
  · rfl
theorem drop_getD (l : List UInt8) (a j : Nat) : (l.drop a).getD j 0 = l.getD (a + j) 0 := by
  simp [List.getD_eq_getElem?_getD, List.getElem?_drop]
/-- with one byte turned it is none -/
theorem rcd_turn {k : Nat} {x : En} (hk : k + 1 < 4294967296) (hx : Good x) (t : List UInt8) (i : Nat) (d : UInt8) (hi : i < 12 + x.body.size) (hd : d ≠ (rb k x ++ t).getD i 0) : rcd ((rb k x ++ t).set i d) ((k : Int) + 1) = none := by
  cases h : rcd ((rb k x ++ t).set i d) ((k : Int) + 1) with
  | none => rfl
  | some z =>
    exfalso
    have hv := rcd_some.1 (rcd_rb hk hx t)
    obtain ⟨B, S, hB, hl, hS, hr⟩ := rb_form hk hx.2
    have hbody : isB B = true := hB ▸ isB_body x hx.1 hx.2
    obtain ⟨m, hm⟩ : ∃ m, x.body.size = m := ⟨_, rfl⟩
    have hlen := rb_len k x
    rw [hm] at hv hi hl hr hlen
    have e8 : (rb k x ++ t).drop 8 = B ++ (w4 S ++ t) := by rw [hr]; simp [List.drop_append, w4l, w4d, w4e]
    clear hr hS
    obtain ⟨v, hvv⟩ : ∃ v, rb k x ++ t = v := ⟨_, rfl⟩
    have hvl : v.length = 12 + m + t.length := by rw [← hvv, List.length_append, hlen]
    rw [hvv] at h hv hd e8
    clear hvv hlen
    obtain ⟨-, v2, v3, v4, v5, v6⟩ := hv
    obtain ⟨h1, h2, h3, h4, h5, h6⟩ := rcd_some.1 h
    have hil : i < v.length := by omega
    have key : ∀ a, a ≤ i → i < a + 4 → wl ((v.set i d).drop a) ≠ wl (v.drop a) := fun a ha hia e => by
      have := wl_inj e (i - a) (by omega)
      rw [drop_getD, drop_getD, show a + (i - a) = i by omega, set_getD _ _ _ _ hil, if_pos rfl] at this
      exact hd this
    by_cases c1 : i < 4
    · have := key 0 (by omega) (by omega)
      rw [List.drop_zero, List.drop_zero] at this
      omega
    · by_cases c2 : i < 8
      · have hk4 := key 4 (by omega) (by omega)
        rw [h4, v4] at hk4
        rw [List.drop_set_of_lt (by omega), e8] at h5
        rw [List.length_set] at h1
        by_cases hzm : z < m
        · rw [List.take_append_of_le_length (by omega)] at h5
          have := isB_ext h5 (s := B.drop z) (fun e => by have := congrArg List.length e; rw [List.length_drop] at this; simp at this; omega)
          rw [List.take_append_drop, hbody] at this
          cases this
        · rw [show z = B.length + (z - m) by omega, List.take_length_add_append] at h5
          have := isB_ext hbody (s := (w4 S ++ t).take (z - m)) (fun e => by have := congrArg List.length e; rw [List.length_take, List.length_append, w4l] at this; simp at this; omega)
          rw [this] at h5
          cases h5
      · have hz : z = m := by
          rw [← h4, ← v4]
          have : wl ((v.set i d).drop 4) = wl (((v.set i d).take 8).drop 4) := by rw [List.drop_take, wl_take (by omega)]
          rw [this, List.take_set_of_le (by omega), List.drop_take, wl_take (by omega)]
        rw [hz] at h6
        by_cases c3 : i < 8 + m
        · rw [List.drop_set_of_lt (by omega), v6] at h6
          have hX : ∀ X : List UInt8, ∀ hiX : i < X.length, X = X.take i ++ X[i] :: X.drop (i + 1) ∧ X.set i d = X.take i ++ d :: X.drop (i + 1) := fun X hiX => ⟨by rw [List.getElem_cons_drop, List.take_append_drop], by rw [List.set_eq_take_append_cons_drop, if_pos hiX]⟩
          have hiT : i < (v.take (8 + m)).length := by rw [List.length_take]; omega
          obtain ⟨x1, x2⟩ := hX (v.take (8 + m)) hiT
          have h7 : sumN (v.take (8 + m)) = sumN ((v.take (8 + m)).set i d) := by rw [h6, List.take_set]
          rw [x2] at h7
          conv at h7 => lhs; rw [x1]
          have h8 := sum_turn _ _ _ _ h7
          refine hd ?_
          rw [← h8, List.getElem_take, List.getD_eq_getElem?_getD, List.getElem?_eq_getElem hil]; rfl
        · have hk9 := key (8 + m) (by omega) (by omega)
          rw [h6, v6, List.take_set_of_le (by omega)] at hk9
          exact hk9 rfl
theorem cuts_app (l : List UInt8) : ∀ (xs : List En) (a k : Nat) (t : List UInt8), l.drop a = jbF k xs ++ t → a ≤ l.length → (∀ x ∈ xs, Good x) → k + xs.length < 4294967295 →
    cuts l (l.length + 1) a k = cuts l (l.length + 1) (a + (jbF k xs).length) (k + xs.length) ∧ bods l (l.length + 1) a k = xs.map (fun x => x.body.data.toList) ++ bods l (l.length + 1) (a + (jbF k xs).length) (k + xs.length) ∧ l.drop (a + (jbF k xs).length) = t ∧ a + (jbF k xs).length ≤ l.length
  | [], a, k, t, h, ha, _, _ => by simp [jbF] at h ⊢; exact ⟨h, ha⟩
  | x :: xs, a, k, t, h, ha, hg, hk => by
    have hx := hg x (by simp)
    have h1 : l.drop a = rb k x ++ (jbF (k + 1) xs ++ t) := by rw [h]; simp [jbF]
    have hr : rcd (l.drop a) ((k : Int) + 1) = some x.body.size := by rw [h1]; exact rcd_rb (by rw [List.length_cons] at hk; omega) hx _
    have hfit := rcd_fit hr
    have hl := rb_len k x
    have h2 : l.drop (a + (12 + x.body.size)) = jbF (k + 1) xs ++ t := by
      rw [← List.drop_drop, h1, ← hl, List.drop_left]
    obtain ⟨i1, i2, i3, i4⟩ := cuts_app l xs (a + (12 + x.body.size)) (k + 1) t h2 hfit (fun y hy => hg y (by simp [hy])) (by rw [List.length_cons] at hk; omega)
    have hj : a + (jbF k (x :: xs)).length = a + (12 + x.body.size) + (jbF (k + 1) xs).length := by rw [jbF, List.length_append, hl]; omega
    have hn : k + (x :: xs).length = k + 1 + xs.length := by rw [List.length_cons]; omega
    rw [hj, hn]
    refine ⟨by rw [cuts_step hr ha, i1], ?_, i3, i4⟩
    rw [bods_step hr ha, i2, h1, List.map_cons, List.cons_append]
    congr 1
    obtain ⟨B, S, hB, hlB, hS, hrb⟩ := rb_form (k := k) (by rw [List.length_cons] at hk; omega) hx.2
    rw [hrb, hB, ← hlB]
    simp [List.drop_append, w4l, w4d, w4e]
/-- what is read of entries' bytes, where no record comes behind them -/
theorem ends_of (ys : List En) (t : List UInt8) (hg : ∀ x ∈ ys, Good x) (hn : ys.length < 4294967295) (ht : rcd t ((ys.length : Int) + 1) = none) :
    ends (jbF 0 ys ++ t) = ((jbF 0 ys).length, ys.length) ∧ bodies (jbF 0 ys ++ t) = ys.map (fun x => x.body.data.toList) := by
  obtain ⟨h1, h2, h3, h4⟩ := cuts_app (jbF 0 ys ++ t) ys 0 0 t (by rw [List.drop_zero]) (Nat.zero_le _) hg (by omega)
  simp only [Nat.zero_add] at h1 h2 h3
  rw [← h3] at ht
  unfold ends bodies
  rw [h1, h2, cuts_none ht, bods_none ht, List.append_nil]
  exact ⟨rfl, rfl⟩
theorem jbF_app : ∀ (xs ys : List En) (k : Nat), jbF k (xs ++ ys) = jbF k xs ++ jbF (k + xs.length) ys
  | [], ys, k => by simp [jbF]
  | x :: xs, ys, k => by
    rw [List.cons_append, jbF, jbF, jbF_app xs ys (k + 1), List.append_assoc, List.length_cons, show k + 1 + xs.length = k + (xs.length + 1) by omega]
/-- where the K-th entry begins -/
def pos (xs : List En) (K : Nat) : Nat := (jbF 0 (xs.take K)).length
theorem split_at (xs : List En) (K : Nat) (hK : K < xs.length) : jbF 0 xs = jbF 0 (xs.take K) ++ (rb K xs[K] ++ jbF (K + 1) (xs.drop (K + 1))) := by
  conv => lhs; rw [← List.take_append_drop K xs, jbF_app, List.drop_eq_getElem_cons hK, jbF]
  rw [List.length_take, Nat.min_eq_left (by omega), Nat.zero_add]
theorem pos_succ (xs : List En) (K : Nat) (hK : K < xs.length) : pos xs (K + 1) = pos xs K + (12 + xs[K].body.size) := by
  unfold pos
  rw [List.take_succ_eq_append_getElem hK, jbF_app, List.length_append, List.length_take, Nat.min_eq_left (by omega), Nat.zero_add]
  simp only [jbF, List.append_nil, rb_len]
theorem pos_all (xs : List En) : pos xs xs.length = (jbF 0 xs).length := by unfold pos; rw [List.take_length]
theorem good_take {xs : List En} (h : ∀ x ∈ xs, Good x) (K : Nat) : ∀ x ∈ xs.take K, Good x := fun x hx => h x (List.mem_of_mem_take hx)
/-- cut anywhere: those that are whole -/
theorem ends_cut (xs : List En) (hg : ∀ x ∈ xs, Good x) (hn : xs.length < 4294967295) (K c : Nat) (hK : K ≤ xs.length) (h1 : pos xs K ≤ c) (h2 : K = xs.length ∨ c < pos xs (K + 1)) (hc : c ≤ (jbF 0 xs).length) :
    ends ((jbF 0 xs).take c) = (pos xs K, K) ∧ bodies ((jbF 0 xs).take c) = (xs.take K).map (fun x => x.body.data.toList) := by
  have hlt : (xs.take K).length = K := by rw [List.length_take]; omega
  by_cases hlast : K = xs.length
  · subst hlast
    rw [pos_all] at h1 ⊢
    rw [List.take_of_length_le (by omega), List.take_length]
    have := ends_of xs [] hg hn (rcd_nil _)
    rw [List.append_nil] at this
    exact this
  · have hKl : K < xs.length := by omega
    have h3 : c < pos xs (K + 1) := h2.elim (fun e => absurd e hlast) id
    rw [pos_succ xs K hKl] at h3
    have e : (jbF 0 xs).take c = jbF 0 (xs.take K) ++ (rb K xs[K] ++ jbF (K + 1) (xs.drop (K + 1))).take (c - pos xs K) := by
      rw [split_at xs K hKl]
      unfold pos at h1 ⊢
      rw [List.take_append, List.take_of_length_le h1]
    have := ends_of (xs.take K) ((rb K xs[K] ++ jbF (K + 1) (xs.drop (K + 1))).take (c - pos xs K)) (good_take hg K) (by omega) (by
      rw [hlt]
      exact rcd_part (by omega) (hg _ (List.getElem_mem hKl)) _ _ (by omega))
    rw [e, this.1, this.2, hlt]
    exact ⟨rfl, rfl⟩
/-- one byte turned: those ahead of its record -/
theorem ends_turn (xs : List En) (hg : ∀ x ∈ xs, Good x) (hn : xs.length < 4294967295) (K a : Nat) (d : UInt8) (hK : K < xs.length) (h1 : pos xs K ≤ a) (h2 : a < pos xs (K + 1)) (hd : d ≠ (jbF 0 xs).getD a 0) :
    ends ((jbF 0 xs).set a d) = (pos xs K, K) ∧ bodies ((jbF 0 xs).set a d) = (xs.take K).map (fun x => x.body.data.toList) := by
  have hlt : (xs.take K).length = K := by rw [List.length_take]; omega
  rw [pos_succ xs K hK] at h2
  have e : (jbF 0 xs).set a d = jbF 0 (xs.take K) ++ (rb K xs[K] ++ jbF (K + 1) (xs.drop (K + 1))).set (a - pos xs K) d := by
    rw [split_at xs K hK]
    unfold pos at h1 ⊢
    rw [List.set_append_right _ _ h1]
  have hd2 : d ≠ (rb K xs[K] ++ jbF (K + 1) (xs.drop (K + 1))).getD (a - pos xs K) 0 := by
    intro hh
    refine hd ?_
    rw [split_at xs K hK, List.getD_eq_getElem?_getD, List.getElem?_append_right h1, ← List.getD_eq_getElem?_getD]
    exact hh
  have := ends_of (xs.take K) _ (good_take hg K) (by omega) (by
    rw [hlt]
    exact rcd_turn (by omega) (hg _ (List.getElem_mem hK)) _ (a - pos xs K) d (by omega) hd2)
  rw [e, this.1, this.2, hlt]
  exact ⟨rfl, rfl⟩
end Go.Proofs.YtabmpngliphdpaaDoor.Ko
