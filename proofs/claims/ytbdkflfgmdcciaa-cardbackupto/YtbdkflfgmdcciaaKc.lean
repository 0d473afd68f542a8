/- Tracks, plain: which parts make up a track. -/
import Derived.Test.YtbdkflfgmdcciaaKv
import Derived.Test.YtbdkflfgmdcciaaKr
import Derived.Test.YtbdkflfgmdcciaaKf
namespace Go.Proofs.Ytbdkflfgmdcciaa.Kc
set_option linter.unusedVariables false
open Go.RowKit Lib0 Kp Kb Kd Kt Ks Kw Ku Kx Kv Kq Km4 Kr Ke Kf
theorem gb_app (x y : ByteArray) (k : Nat) : gb (x ++ y) k = if k < x.size then gb x k else gb y (k - x.size) := by
  unfold gb
  rw [ByteArray.data_append, Array.toList_append, List.getD_eq_getElem?_getD, List.getElem?_append, List.getD_eq_getElem?_getD, List.getD_eq_getElem?_getD]
  by_cases h : k < x.data.toList.length
  · rw [if_pos h, if_pos (show k < x.size from h)]
  · rw [if_neg h, if_neg (show ¬ k < x.size from h)]; rfl
theorem tk_app (q : UInt8 → Bool) (x y : ByteArray) (k : Nat) : tk q (x ++ y) k = if k < x.size then tk q x k else tk q y (k - x.size) := by
  unfold tk
  rw [gb_app, ByteArray.size_append]
  by_cases h : k < x.size
  · rw [if_pos h, if_pos h, show decide (k < x.size + y.size) = true by simp; omega, show decide (k < x.size) = true by simpa using h]
  · rw [if_neg h, if_neg h, show decide (k < x.size + y.size) = decide (k - x.size < y.size) by rw [decide_eq_decide]; omega]
theorem tk_ext (q : UInt8 → Bool) (s : ByteArray) (i j k : Nat) (hj : j ≤ s.size) (h : i + k < j) : tk q (s.extract i j) k = tk q s (i + k) := by
  have hz : (s.extract i j).size = j - i := by rw [ByteArray.size_extract]; omega
  rw [tk_in _ _ _ (by omega), tk_in _ _ _ (by omega), ByteArray.getElem_extract]
theorem ad_tk (s : ByteArray) : ad s = true ↔ ∀ i, i < s.size → tk dig s i = true := by
  constructor
  · intro h i hi; rw [tk_in _ _ _ hi]; exact dig_at s h i hi
  · intro h
    unfold ad
    rw [List.all_eq_true]
    intro c hc
    obtain ⟨i, hi, rfl⟩ := List.getElem_of_mem hc
    have := h i hi
    rw [tk_in _ _ _ hi] at this
    exact this
/-- a month, or a = in its place -/
def Mth (s : ByteArray) (k x : Nat) : Prop := (tk eqs s k = true ∧ x = k + 1) ∨ (tk eqs s k = false ∧ (∀ j, j < 4 → fit4 s k j = true) ∧ x = k + 4)
def Svc (s : ByteArray) (x v : Nat) : Prop := (tk eqs s x = true ∧ v = x + 1) ∨ (tk eqs s x = false ∧ (∀ j, j < 3 → tk dig s (x + j) = true) ∧ v = x + 3)
structure Ok (s : ByteArray) (p x v : Nat) : Prop where
  p1 : 1 ≤ p
  p2 : p ≤ 19
  hp : ∀ i, i < p → tk dig s i = true
  he : tk eqs s p = true
  hm : Mth s (p + 1) x
  hs : Svc s x v
  hv : v ≤ s.size
  hr : ∀ i, v ≤ i → i < s.size → tk dig s i = true
theorem eq_dig {s : ByteArray} {k : Nat} (h : tk eqs s k = true) : tk dig s k = false := by
  have hk := tk_lt h
  rw [tk_in _ _ _ hk] at *
  unfold eqs at h
  rw [beq_iff_eq] at h
  rw [h]; rfl
theorem all_take {s : ByteArray} {k : Nat} (hk : k ≤ s.size) (h : ∀ i, i < k → tk dig s i = true) : (s.data.toList.take k).all dig = true := by
  rw [List.all_eq_true]
  intro c hc
  obtain ⟨i, hi, rfl⟩ := List.getElem_of_mem hc
  have hi' : i < k ∧ i < s.size := by rw [List.length_take, sz] at hi; omega
  have := h i hi'.1
  rw [tk_in _ _ _ hi'.2] at this
  rw [List.getElem_take]; exact this
theorem take_all' {s : ByteArray} {k : Nat} (hk : k ≤ s.size) (h : (s.data.toList.take k).all dig = true) : ∀ i, i < k → tk dig s i = true := by
  intro i hi
  rw [tk_in _ _ _ (by omega)]
  rw [List.all_eq_true] at h
  have hl : i < (s.data.toList.take k).length := by rw [List.length_take, sz]; omega
  have := h _ (List.getElem_mem hl)
  rw [List.getElem_take] at this
  exact this
theorem endK_ok {s : ByteArray} {p x v : Nat} (hv : v ≤ s.size) : endK s p x v v = .ok (p, x, v) ↔ ∀ i, v ≤ i → i < s.size → tk dig s i = true := by
  have key : ∀ n k, s.size - k = n → k ≤ s.size → (endK s p x v k = .ok (p, x, v) ↔ ∀ i, k ≤ i → i < s.size → tk dig s i = true) := by
    intro n
    induction n with
    | zero =>
      intro k hk hks
      have e : k = s.size := by omega
      rw [endK_stop hks (tk_end _ _ _ (by omega)), if_pos e]
      exact ⟨fun _ i h1 h2 => by omega, fun _ => rfl⟩
    | succ n ih =>
      intro k hk hks
      cases h : tk dig s k
      · rw [endK_stop hks h, if_neg (by omega)]
        constructor
        · intro hh; cases hh
        · intro hh; have := hh k (Nat.le_refl _) (by omega); rw [h] at this; cases this
      · rw [endK_step h, ih (k + 1) (by omega) (by omega)]
        constructor
        · intro hh i h1 h2
          rcases Nat.eq_or_lt_of_le h1 with e | e
          · subst e; exact h
          · exact hh i e h2
        · intro hh i h1 h2; exact hh i (by omega) h2
  exact key _ v rfl hv
theorem endK_form {s : ByteArray} {p x v k p' x' v' : Nat} (h : endK s p x v k = .ok (p', x', v')) : p' = p ∧ x' = x ∧ v' = v := by
  unfold endK at h
  split at h
  · simp only [Except.ok.injEq, Prod.mk.injEq] at h; omega
  · cases h
theorem svcS_ok {s : ByteArray} {p x v : Nat} : svcS s p x = .ok (p, x, v) ↔ Svc s x v ∧ v ≤ s.size ∧ ∀ i, v ≤ i → i < s.size → tk dig s i = true := by
  unfold svcS Svc
  have e2 : x + 1 + 1 = x + 2 := by omega
  have e3 : x + 1 + 1 + 1 = x + 3 := by omega
  rw [e3, e2]
  cases h0 : tk eqs s x
  · cases h1 : tk dig s x
    · simp only [Bool.false_eq_true, if_false, if_true, reduceCtorEq, false_iff, false_and, false_or, true_and, not_and]
      intro hh; have := hh.1 0 (by omega); rw [Nat.add_zero, h1] at this; cases this
    · cases h2 : tk dig s (x + 1)
      · simp only [Bool.false_eq_true, if_false, if_true, reduceCtorEq, false_iff, false_and, false_or, true_and, not_and]
        intro hh; have := hh.1 1 (by omega); rw [h2] at this; cases this
      · cases h3 : tk dig s (x + 2)
        · simp only [Bool.false_eq_true, if_false, if_true, reduceCtorEq, false_iff, false_and, false_or, true_and, not_and]
          intro hh; have := hh.1 2 (by omega); rw [h3] at this; cases this
        · have hl := tk_lt h3
          simp only [Bool.false_eq_true, if_false, reduceCtorEq, false_and, false_or, true_and]
          constructor
          · intro hh
            obtain ⟨_, _, rfl⟩ := endK_form hh
            refine ⟨⟨fun j hj => ?_, rfl⟩, by omega, (endK_ok (by omega)).1 hh⟩
            match j, hj with
            | 0, _ => exact h1
            | 1, _ => exact h2
            | 2, _ => exact h3
          · rintro ⟨⟨_, rfl⟩, h4, h5⟩
            exact (endK_ok h4).2 h5
  · have hl := tk_lt h0
    simp only [if_true, true_and, reduceCtorEq, false_and, or_false]
    constructor
    · intro hh
      obtain ⟨_, _, rfl⟩ := endK_form hh
      exact ⟨rfl, by omega, (endK_ok (by omega)).1 hh⟩
    · rintro ⟨rfl, h4, h5⟩
      exact (endK_ok h4).2 h5
theorem expS_ok {s : ByteArray} {p x v : Nat} : expS s p = .ok (p, x, v) ↔ Mth s (p + 1) x ∧ svcS s p x = .ok (p, x, v) := by
  have key : ∀ y, svcS s p y = .ok (p, x, v) → y = x := fun y h => (svc_ok h).2.1.symm
  have f0 : fit4 s (p + 1) 0 = tk dig s (p + 1) := rfl
  have f1 : fit4 s (p + 1) 1 = tk dig s (p + 1 + 1) := rfl
  have f2 : fit4 s (p + 1) 2 = (tk d0 s (p + 1 + 1 + 1) || tk d1 s (p + 1 + 1 + 1)) := rfl
  have f3 : fit4 s (p + 1) 3 = (tk d0 s (p + 1 + 1 + 1) && tk d19 s (p + 1 + 1 + 1 + 1) || tk d1 s (p + 1 + 1 + 1) && tk d02 s (p + 1 + 1 + 1 + 1)) := rfl
  have all4 : (∀ j, j < 4 → fit4 s (p + 1) j = true) ↔ fit4 s (p + 1) 0 = true ∧ fit4 s (p + 1) 1 = true ∧ fit4 s (p + 1) 2 = true ∧ fit4 s (p + 1) 3 = true := by
    constructor
    · intro h; exact ⟨h 0 (by omega), h 1 (by omega), h 2 (by omega), h 3 (by omega)⟩
    · rintro ⟨a, b, c, d⟩ j hj
      match j, hj with
      | 0, _ => exact a
      | 1, _ => exact b
      | 2, _ => exact c
      | 3, _ => exact d
  unfold expS Mth
  rw [all4, f0, f1, f2, f3]
  unfold nineS threeS
  have x01 : tk d0 s (p + 1 + 1 + 1) = true → tk d1 s (p + 1 + 1 + 1) = true → False := by
    intro a b
    unfold tk at a b
    simp only [Bool.and_eq_true, d0, d1, beq_iff_eq] at a b
    rw [a.2] at b
    exact absurd b.2 (by decide)
  cases h0 : tk eqs s (p + 1)
  · cases h1 : tk dig s (p + 1)
    · simp
    · cases h2 : tk dig s (p + 1 + 1)
      · simp
      · cases h3 : tk d0 s (p + 1 + 1 + 1)
        · cases h4 : tk d1 s (p + 1 + 1 + 1)
          · simp
          · cases h5 : tk d02 s (p + 1 + 1 + 1 + 1)
            · simp
            · simp only [Bool.false_eq_true, if_false, if_true, reduceCtorEq, false_and, false_or, true_and, Bool.or_true, Bool.and_self, Bool.false_and]
              exact ⟨fun h => ⟨(key _ h).symm, by rw [← key _ h]; rw [key _ h]; rw [key _ h] at h; exact h⟩, fun h => by rw [show p + 1 + 1 + 1 + 1 + 1 = x by omega]; exact h.2⟩
        · have h4 : tk d1 s (p + 1 + 1 + 1) = false := by
            cases h4 : tk d1 s (p + 1 + 1 + 1)
            · rfl
            · exact (x01 h3 h4).elim
          cases h5 : tk d19 s (p + 1 + 1 + 1 + 1)
          · simp [h4]
          · simp only [h4, Bool.false_eq_true, if_false, if_true, reduceCtorEq, false_and, false_or, true_and, Bool.or_false, Bool.and_self, Bool.false_and]
            exact ⟨fun h => ⟨(key _ h).symm, by rw [← key _ h]; rw [key _ h]; rw [key _ h] at h; exact h⟩, fun h => by rw [show p + 1 + 1 + 1 + 1 + 1 = x by omega]; exact h.2⟩
  · simp only [if_true, true_and, reduceCtorEq, false_and, or_false]
    exact ⟨fun h => ⟨(key _ h).symm, by rw [key _ h] at h; exact h⟩, fun h => by rw [← h.1]; exact h.2⟩
theorem tr_iff {s : ByteArray} {p x v : Nat} : tr s = .ok (p, x, v) ↔ Ok s p x v := by
  constructor
  · intro h
    have e := (tr_ok h).1
    unfold tr at h
    split at h
    · cases h
    · split at h
      · rename_i h0 h1
        rw [← e] at h h0 h1
        have h2 := expS_ok.1 h
        have h3 := svcS_ok.1 h2.2
        have hl := tk_lt h1
        refine ⟨by omega, by rw [e]; exact pan_le s, ?_, h1, h2.1, h3.1, h3.2.1, h3.2.2⟩
        apply take_all' (by omega)
        have := fuL_before dig (s.data.toList.take 19)
        have hp : fuL dig (s.data.toList.take 19) = p := e.symm
        rw [hp, take_list _ _ _ (by rw [e]; exact pan_le s)] at this
        exact this
      · cases h
  · intro h
    have hl := tk_lt h.he
    have e : pan s = p := pan_stop (by omega) h.p2 (all_take (by omega) h.hp) (.inr (eq_dig h.he))
    have hp1 := h.p1
    rw [tr, e, if_neg (by omega), if_pos h.he]
    exact expS_ok.2 ⟨h.hm, svcS_ok.2 ⟨h.hs, h.hv, h.hr⟩⟩
theorem isMon_iff (b : ByteArray) : isMon b = true ↔ b.size = 4 ∧ ∀ j, j < 4 → fit4 b 0 j = true := by
  have f0 : fit4 b 0 0 = tk dig b 0 := rfl
  have f1 : fit4 b 0 1 = tk dig b 1 := rfl
  have f2 : fit4 b 0 2 = (tk d0 b 2 || tk d1 b 2) := rfl
  have f3 : fit4 b 0 3 = (tk d0 b 2 && tk d19 b 3 || tk d1 b 2 && tk d02 b 3) := rfl
  constructor
  · intro h
    obtain ⟨h4, ha, hm1, hm2⟩ := mon_parts h
    obtain ⟨y1, y2, c, d, _, _, hc, hd, _, _, gc, gd⟩ := four h4 ha
    have eM : monOf b = 10 * c + d := by unfold monOf two; omega
    have t2 : ∀ q : UInt8 → Bool, tk q b 2 = q (gb b 2) := fun q => by rw [tk_in _ _ _ (by omega), gb_eq b 2 (by omega)]
    have t3 : ∀ q : UInt8 → Bool, tk q b 3 = q (gb b 3) := fun q => by rw [tk_in _ _ _ (by omega), gb_eq b 3 (by omega)]
    have hcd : (c = 0 ∧ 1 ≤ d) ∨ (c = 1 ∧ d ≤ 2) := by omega
    have hd9 : (tk d0 b 2 && tk d19 b 3 || tk d1 b 2 && tk d02 b 3) = true := by
      rw [t2, t2, t3, t3]
      have z0 : d0 (gb b 2) = decide (c = 0) := by rw [Bool.eq_iff_iff, d0, beq_iff_eq, decide_eq_true_eq, ← UInt8.toNat_inj]; have : (48 : UInt8).toNat = 48 := rfl; omega
      have z1 : d1 (gb b 2) = decide (c = 1) := by rw [Bool.eq_iff_iff, d1, beq_iff_eq, decide_eq_true_eq, ← UInt8.toNat_inj]; have : (49 : UInt8).toNat = 49 := rfl; omega
      rw [z0, z1]
      simp [d19, d02]
      omega
    refine ⟨h4, fun j hj => ?_⟩
    match j, hj with
    | 0, _ => exact (ad_tk b).1 ha 0 (by omega)
    | 1, _ => exact (ad_tk b).1 ha 1 (by omega)
    | 2, _ =>
      rw [f2]
      simp only [Bool.or_eq_true, Bool.and_eq_true] at hd9 ⊢
      rcases hd9 with h | h
      · exact .inl h.1
      · exact .inr h.1
    | 3, _ => rw [f3]; exact hd9
  · rintro ⟨h4, hf⟩
    have g0 := hf 0 (by omega); have g1 := hf 1 (by omega); have g3 := hf 3 (by omega)
    rw [f0] at g0
    rw [f1] at g1
    rw [f3] at g3
    have t2 : ∀ q : UInt8 → Bool, tk q b 2 = q (gb b 2) := fun q => by rw [tk_in _ _ _ (by omega), gb_eq b 2 (by omega)]
    have t3 : ∀ q : UInt8 → Bool, tk q b 3 = q (gb b 3) := fun q => by rw [tk_in _ _ _ (by omega), gb_eq b 3 (by omega)]
    rw [t2, t2, t3, t3] at g3
    simp only [Bool.or_eq_true, Bool.and_eq_true, d0, d1, d19, d02, beq_iff_eq, decide_eq_true_eq, ← UInt8.toNat_inj] at g3
    have k48 : (48 : UInt8).toNat = 48 := rfl
    have k49 : (49 : UInt8).toNat = 49 := rfl
    rw [k48, k49] at g3
    have ha : ad b = true := by
      rw [ad_tk]
      intro i hi
      have hi4 : i = 0 ∨ i = 1 ∨ i = 2 ∨ i = 3 := by omega
      rcases hi4 with rfl | rfl | rfl | rfl
      · exact g0
      · exact g1
      · rw [t2, dig_iff]; omega
      · rw [t3, dig_iff]; omega
    unfold isMon monOf two
    rw [h4, ha]
    simp
    omega
section
variable (a b c d : ByteArray) (q : UInt8 → Bool)
theorem cat_size : (cat a b c d).size = a.size + 1 + (om b).size + (om c).size + d.size := by
  unfold cat
  simp only [ByteArray.size_append]
  rfl
theorem cat_a (i : Nat) (h : i < a.size) : tk q (cat a b c d) i = tk q a i := by
  unfold cat
  rw [tk_app, if_pos (by simp only [ByteArray.size_append]; omega), tk_app, if_pos (by simp only [ByteArray.size_append]; omega), tk_app, if_pos (by simp only [ByteArray.size_append]; omega), tk_app, if_pos h]
theorem one_size : (⟨#[61]⟩ : ByteArray).size = 1 := rfl
theorem cat_e : tk q (cat a b c d) a.size = tk q ⟨#[61]⟩ 0 := by
  unfold cat
  rw [tk_app, if_pos (by simp only [ByteArray.size_append, one_size]; omega), tk_app, if_pos (by simp only [ByteArray.size_append, one_size]; omega), tk_app, if_pos (by simp only [ByteArray.size_append, one_size]; omega), tk_app, if_neg (by omega), Nat.sub_self]
theorem cat_b (j : Nat) (h : j < (om b).size) : tk q (cat a b c d) (a.size + 1 + j) = tk q (om b) j := by
  unfold cat
  rw [tk_app, if_pos (by simp only [ByteArray.size_append, one_size]; omega), tk_app, if_pos (by simp only [ByteArray.size_append, one_size]; omega), tk_app, if_neg (by simp only [ByteArray.size_append, one_size]; omega)]
  congr 1
  simp only [ByteArray.size_append, one_size]; omega
theorem cat_c (j : Nat) (h : j < (om c).size) : tk q (cat a b c d) (a.size + 1 + (om b).size + j) = tk q (om c) j := by
  unfold cat
  rw [tk_app, if_pos (by simp only [ByteArray.size_append, one_size]; omega), tk_app, if_neg (by simp only [ByteArray.size_append, one_size]; omega)]
  congr 1
  simp only [ByteArray.size_append, one_size]; omega
theorem cat_d (j : Nat) : tk q (cat a b c d) (a.size + 1 + (om b).size + (om c).size + j) = tk q d j := by
  unfold cat
  rw [tk_app, if_neg (by simp only [ByteArray.size_append, one_size]; omega)]
  congr 1
  simp only [ByteArray.size_append, one_size]; omega
theorem cat_list : (cat a b c d).data.toList = a.data.toList ++ [61] ++ (om b).data.toList ++ (om c).data.toList ++ d.data.toList := by
  unfold cat; simp
end
structure Vd (a b c d : ByteArray) : Prop where
  a1 : 1 ≤ a.size
  a2 : a.size ≤ 19
  ha : ad a = true
  hb : b = em ∨ isMon b = true
  hc : c = em ∨ (c.size = 3 ∧ ad c = true)
  hd : ad d = true
  hs : (cat a b c d).size ≤ 37
theorem om_em : om em = ⟨#[61]⟩ := by unfold om; rw [if_pos rfl]
theorem om_ne {b : ByteArray} (h : 0 < b.size) : om b = b := by
  unfold om; rw [if_neg]
  intro e; rw [e] at h; exact absurd h (by decide)
theorem um_om {b : ByteArray} (h : b = em ∨ 2 ≤ b.size) : um (om b) = b := by
  rcases h with rfl | h
  · rw [om_em]; unfold um; rw [if_pos rfl]
  · rw [om_ne (by omega)]
    unfold um; rw [if_neg]
    intro e; rw [e] at h; exact absurd h (by decide)
theorem ext_mid (x y z : List UInt8) {s : ByteArray} (h : s.data.toList = x ++ y ++ z) : (s.extract x.length (x.length + y.length)).data.toList = y := by
  rw [ext_toList, h, List.append_assoc, List.drop_left, Nat.add_sub_cancel_left, List.take_left]
theorem ext_mid2 (x y z : List UInt8) {s : ByteArray} (h : s.data.toList = x ++ y ++ z) {m n : Nat} (hm : x.length = m) (hn : m + y.length = n) : (s.extract m n).data.toList = y := by
  subst hm hn; exact ext_mid x y z h
theorem ba_ext' {a b : ByteArray} (h : a.data.toList = b.data.toList) : a = b := by
  cases a; cases b; simp only [ByteArray.mk.injEq]; exact Array.toList_inj.1 h
theorem ok_of_vd {a b c d : ByteArray} (h : Vd a b c d) : Ok (cat a b c d) a.size (a.size + 1 + (om b).size) (a.size + 1 + (om b).size + (om c).size) := by
  have hsz := cat_size a b c d
  refine ⟨h.a1, h.a2, fun i hi => by rw [cat_a _ _ _ _ _ _ hi]; exact (ad_tk a).1 h.ha i hi, by rw [cat_e]; rfl, ?_, ?_, by omega, ?_⟩
  · rcases h.hb with hb | hb
    · subst hb
      have e : (om em).size = 1 := by rw [om_em]; rfl
      refine .inl ⟨?_, by omega⟩
      have := cat_b a em c d eqs 0 (by omega)
      rw [Nat.add_zero] at this
      rw [this, om_em]; rfl
    · have h4 := (isMon_iff b).1 hb
      have e := om_ne (b := b) (by omega)
      have cb := fun q j (hj : j < 4) => cat_b a b c d q j (by rw [e]; omega)
      rw [e] at cb
      have c0 := fun q => cb q 0 (by omega)
      simp only [Nat.add_zero] at c0
      refine .inr ⟨?_, fun j hj => ?_, by rw [e, h4.1]⟩
      · rw [c0]
        have := h4.2 0 (by omega)
        change tk dig b 0 = true at this
        cases hh : tk eqs b 0
        · rfl
        · rw [eq_dig hh] at this; cases this
      · have := h4.2 j hj
        match j, hj with
        | 0, _ => rw [fit4, c0]; exact this
        | 1, _ => rw [fit4, cb _ 1 (by omega)]; exact this
        | 2, _ => rw [fit4, cb _ 2 (by omega), cb _ 2 (by omega)]; exact this
        | 3, _ => rw [fit4, cb _ 2 (by omega), cb _ 2 (by omega), cb _ 3 (by omega), cb _ 3 (by omega)]; exact this
  · rcases h.hc with hc | ⟨hc, hac⟩
    · subst hc
      have e : (om em).size = 1 := by rw [om_em]; rfl
      refine .inl ⟨?_, by omega⟩
      have := cat_c a b em d eqs 0 (by omega)
      rw [Nat.add_zero] at this
      rw [this, om_em]; rfl
    · have e := om_ne (b := c) (by omega)
      have cc := fun q j (hj : j < 3) => cat_c a b c d q j (by rw [e]; omega)
      rw [e] at cc
      refine .inr ⟨?_, fun j hj => ?_, by rw [e, hc]⟩
      · have c0 := cc eqs 0 (by omega)
        rw [Nat.add_zero] at c0
        rw [c0]
        have := (ad_tk c).1 hac 0 (by omega)
        cases hh : tk eqs c 0
        · rfl
        · rw [eq_dig hh] at this; cases this
      · rw [cc _ j hj]; exact (ad_tk c).1 hac j (by omega)
  · intro i h1 h2
    obtain ⟨j, rfl⟩ : ∃ j, i = a.size + 1 + (om b).size + (om c).size + j := ⟨i - (a.size + 1 + (om b).size + (om c).size), by omega⟩
    rw [cat_d]
    exact (ad_tk d).1 h.hd j (by omega)
theorem rt_of_vd {a b c d : ByteArray} (h : Vd a b c d) : rt (cat a b c d) = (trkV a b c d, 0, 0) := by
  have ht := tr_iff.2 (ok_of_vd h)
  have hs := h.hs
  have hl := cat_list a b c d
  rw [rt, if_neg (by omega), ht, rtP]
  have e1 : (cat a b c d).extract 0 a.size = a := by
    apply ba_ext'
    have := ext_mid [] a.data.toList ([61] ++ (om b).data.toList ++ (om c).data.toList ++ d.data.toList) (s := cat a b c d) (by rw [hl]; simp)
    simpa [sz] using this
  have e2 : (cat a b c d).extract (a.size + 1) (a.size + 1 + (om b).size) = om b := by
    apply ba_ext'
    have := ext_mid (a.data.toList ++ [61]) (om b).data.toList ((om c).data.toList ++ d.data.toList) (s := cat a b c d) (by rw [hl]; simp)
    simpa [sz] using this
  have e3 : (cat a b c d).extract (a.size + 1 + (om b).size) (a.size + 1 + (om b).size + (om c).size) = om c := by
    apply ba_ext'
    exact ext_mid2 (a.data.toList ++ [61] ++ (om b).data.toList) (om c).data.toList d.data.toList (by rw [hl]) (by simp only [List.length_append, List.length_cons, List.length_nil, sz]) (by rw [sz])
  have e4 : (cat a b c d).extract (a.size + 1 + (om b).size + (om c).size) (cat a b c d).size = d := by
    apply ba_ext'
    rw [cat_size]
    exact ext_mid2 (a.data.toList ++ [61] ++ (om b).data.toList ++ (om c).data.toList) d.data.toList [] (by rw [hl]; simp) (by simp only [List.length_append, List.length_cons, List.length_nil, sz]) (by rw [sz])
  rw [e1, e2, e3, e4, um_om, um_om]
  · rcases h.hc with h | h
    · exact .inl h
    · exact .inr (by omega)
  · rcases h.hb with h | h
    · exact .inl h
    · have := ((isMon_iff b).1 h).1; exact .inr (by omega)
theorem vd_of_rt {a b c d : ByteArray} (h : rt (cat a b c d) = (trkV a b c d, 0, 0)) : Vd a b c d := by
  have hz : (cat a b c d).size ≤ 37 := by
    rcases Nat.lt_or_ge 37 (cat a b c d).size with h1 | h1
    · rw [rt, if_pos h1] at h
      have := (Prod.mk.inj (Prod.mk.inj h).2).1
      omega
    · exact h1
  have hz' := hz
  generalize cat a b c d = s at h hz
  rw [rt, if_neg (by omega)] at h
  match ht : tr s with
  | .error k =>
    rw [ht] at h
    have := (Prod.mk.inj (Prod.mk.inj h).2).1
    omega
  | .ok (p, x, v) =>
    rw [ht, rtP] at h
    obtain ⟨ea, eb, ec, ed⟩ := trkV_inj (Prod.mk.inj h).1
    have o := tr_iff.1 ht
    have hpl := tk_lt o.he
    have hx : p + 1 ≤ x ∧ x ≤ v := by have := tr_ok ht; omega
    have hv := o.hv
    have za : a.size = p := by rw [← ea, ByteArray.size_extract]; omega
    refine ⟨by rw [za]; exact o.p1, by rw [za]; exact o.p2, ?_, ?_, ?_, ?_, hz'⟩
    · rw [ad_tk]
      intro i hi
      rw [← ea, tk_ext _ _ _ _ _ (by omega) (by omega), Nat.zero_add]
      exact o.hp i (by omega)
    · rcases o.hm with ⟨h1, h2⟩ | ⟨h1, h2, h3⟩
      · left
        rw [← eb, h2]; exact um_one h1
      · right
        have hb : b = s.extract (p + 1) (p + 1 + 4) := by rw [← eb, h3]; exact um_more (by omega) (by omega)
        have tb : ∀ q j, j < 4 → tk q b j = tk q s (p + 1 + j) := fun q j hj => by rw [hb, tk_ext _ _ _ _ _ (by omega) (by omega)]
        rw [isMon_iff]
        refine ⟨by rw [hb, ByteArray.size_extract]; omega, fun j hj => ?_⟩
        have := h2 j hj
        match j, hj with
        | 0, _ => rw [fit4, tb _ 0 (by omega)]; exact this
        | 1, _ => rw [fit4, tb _ (0 + 1) (by omega)]; exact this
        | 2, _ => rw [fit4, tb _ (0 + 2) (by omega), tb _ (0 + 2) (by omega)]; exact this
        | 3, _ => rw [fit4, tb _ (0 + 2) (by omega), tb _ (0 + 2) (by omega), tb _ (0 + 3) (by omega), tb _ (0 + 3) (by omega)]; exact this
    · rcases o.hs with ⟨h1, h2⟩ | ⟨h1, h2, h3⟩
      · left
        rw [← ec, h2]; exact um_one h1
      · right
        have hc : c = s.extract x (x + 3) := by rw [← ec, h3]; exact um_more (by omega) (by omega)
        have zc : c.size = 3 := by rw [hc, ByteArray.size_extract]; omega
        refine ⟨zc, ?_⟩
        rw [ad_tk]
        intro i hi
        rw [hc, tk_ext _ _ _ _ _ (by omega) (by omega)]
        exact h2 i (by omega)
    · rw [ad_tk]
      intro i hi
      have zd : d.size = s.size - v := by rw [← ed, ByteArray.size_extract]; omega
      rw [← ed, tk_ext _ _ _ _ _ (by omega) (by omega)]
      exact o.hr _ (by omega) (by omega)
open Classical in
theorem wtP_eq (a b c d : ByteArray) : wtP a b c d = if Vd a b c d then (cat a b c d, 0) else (em, 52) := by
  unfold wtP
  by_cases h : Vd a b c d
  · rw [if_pos h, if_pos (rt_of_vd h)]
  · rw [if_neg h, if_neg (fun hh => h (vd_of_rt hh))]
end Go.Proofs.Ytbdkflfgmdcciaa.Kc
