/- Tracks, plain: what is read makes up what was read; an error's place lies within. -/
import Derived.Test.YtbdkflfgmdcciabKv
namespace Go.Proofs.Ytbdkflfgmdcciab.Ka
set_option linter.unusedVariables false
open Go.RowKit Lib0 Kp Kb Kd Kt Ks Kw Ku Kx Kv
theorem endK_form {s : ByteArray} {p x v k p' x' v' : Nat} (h : endK s p x v k = .ok (p', x', v')) : p' = p ∧ x' = x ∧ v' = v := by
  unfold endK at h
  split at h
  · simp only [Except.ok.injEq, Prod.mk.injEq] at h; omega
  · cases h
theorem endK_err {s : ByteArray} {p x v k e : Nat} (hk : k ≤ s.size) (h : endK s p x v k = .error e) : e ≤ s.size := by
  unfold endK at h
  split at h
  · cases h
  · have := fuL_le dig (s.data.toList.drop k)
    rw [List.length_drop, sz] at this
    simp only [Except.error.injEq] at h
    omega
theorem svc_st {s : ByteArray} {p x p' x' v' : Nat} (h : svcS s p x = .ok (p', x', v')) : x' = x ∧ x < v' := by
  unfold svcS at h
  split at h
  · have := endK_form h; omega
  · split at h
    · cases h
    · split at h
      · cases h
      · split at h
        · cases h
        · have := endK_form h; omega
theorem svc_err {s : ByteArray} {p x e : Nat} (hx : x ≤ s.size) (h : svcS s p x = .error e) : e ≤ s.size := by
  unfold svcS at h
  split at h
  · rename_i h1; exact endK_err (tk_lt h1) h
  · split at h
    · simp only [Except.error.injEq] at h; omega
    · rename_i h1
      simp only [Bool.not_eq_false] at h1
      have := tk_lt h1
      split at h
      · simp only [Except.error.injEq] at h; omega
      · rename_i h2
        simp only [Bool.not_eq_false] at h2
        have := tk_lt h2
        split at h
        · simp only [Except.error.injEq] at h; omega
        · rename_i h3
          simp only [Bool.not_eq_false] at h3
          exact endK_err (tk_lt h3) h
theorem tr_st {s : ByteArray} {p x v : Nat} (h : tr s = .ok (p, x, v)) : p + 1 < x ∧ x < v ∧ tk eqs s p = true := by
  have e := (tr_ok h).1
  unfold tr at h
  split at h
  · cases h
  · split at h
    · rename_i h0 h1
      rw [← e] at h h1
      refine (fun hh => ⟨hh.1, hh.2, h1⟩ : (p + 1 < x ∧ x < v) → _) ?_
      unfold expS at h
      split at h
      · have := svc_st h; omega
      · split at h
        · cases h
        · split at h
          · cases h
          · split at h
            · unfold nineS at h
              split at h
              · have := svc_st h; omega
              · cases h
            · split at h
              · unfold threeS at h
                split at h
                · have := svc_st h; omega
                · cases h
              · cases h
    · cases h
theorem pan_le2 (s : ByteArray) : pan s ≤ s.size := by
  have := fuL_le dig (s.data.toList.take 19)
  rw [List.length_take, sz] at this
  unfold pan; omega
theorem tr_err {s : ByteArray} {k : Nat} (h : tr s = .error k) : k ≤ s.size := by
  unfold tr at h
  split at h
  · simp only [Except.error.injEq] at h; omega
  · split at h
    · rename_i h0 h1
      have l1 := tk_lt h1
      unfold expS at h
      split at h
      · rename_i h2; exact svc_err (tk_lt h2) h
      · split at h
        · simp only [Except.error.injEq] at h; omega
        · rename_i h2
          simp only [Bool.not_eq_false] at h2
          have l2 := tk_lt h2
          split at h
          · simp only [Except.error.injEq] at h; omega
          · rename_i h3
            simp only [Bool.not_eq_false] at h3
            have l3 := tk_lt h3
            split at h
            · rename_i h4
              have l4 := tk_lt h4
              unfold nineS at h
              split at h
              · rename_i h5; exact svc_err (tk_lt h5) h
              · simp only [Except.error.injEq] at h; omega
            · split at h
              · rename_i h4
                have l4 := tk_lt h4
                unfold threeS at h
                split at h
                · rename_i h5; exact svc_err (tk_lt h5) h
                · simp only [Except.error.injEq] at h; omega
              · simp only [Except.error.injEq] at h; omega
    · simp only [Except.error.injEq] at h
      have := pan_le2 s; omega
theorem om_um {t : ByteArray} (h : 0 < t.size) : om (um t) = t := by
  unfold um
  split
  · rename_i e; rw [e]; unfold om; rw [if_pos rfl]
  · unfold om; rw [if_neg]
    intro e; rw [e] at h; exact absurd h (by decide)
theorem ext_toList (s : ByteArray) (a b : Nat) : (s.extract a b).data.toList = (s.data.toList.drop a).take (b - a) := by
  rw [ByteArray.data_extract, Array.toList_extract, List.extract_eq_take_drop]
theorem split_at (l : List UInt8) (a b : Nat) (h : a ≤ b) : l.drop a = (l.drop a).take (b - a) ++ l.drop b := by
  conv => lhs; rw [← List.take_append_drop (b - a) (l.drop a)]
  rw [List.drop_drop, Nat.add_sub_cancel' h]
theorem rt_err {s : ByteArray} {A B C D : ByteArray} {k : Int} (h : rt s = (trkV A B C D, 52, k)) : A = em ∧ B = em ∧ C = em ∧ D = em ∧ 0 ≤ k ∧ k ≤ s.size := by
  unfold rt at h
  split at h
  · obtain ⟨h1, h2⟩ := Prod.mk.inj h
    have := trkV_inj h1
    have h3 := (Prod.mk.inj h2).2
    exact ⟨this.1.symm, this.2.1.symm, this.2.2.1.symm, this.2.2.2.symm, by omega, by omega⟩
  · match ht : tr s with
    | .ok (p, x, v) => rw [ht] at h; have := (Prod.mk.inj (Prod.mk.inj h).2).1; omega
    | .error e =>
      rw [ht, rtP] at h
      obtain ⟨h1, h2⟩ := Prod.mk.inj h
      have := trkV_inj h1
      have h3 := (Prod.mk.inj h2).2
      have hle := tr_err ht
      exact ⟨this.1.symm, this.2.1.symm, this.2.2.1.symm, this.2.2.2.symm, by omega, by omega⟩
theorem rt_again {s A B C D : ByteArray} (h : rt s = (trkV A B C D, 0, 0)) : cat A B C D = s ∧ A.size ≤ 37 ∧ B.size ≤ 37 ∧ C.size ≤ 37 ∧ D.size ≤ 37 := by
  have hz : s.size ≤ 37 := by
    rcases Nat.lt_or_ge 37 s.size with h1 | h1
    · rw [rt, if_pos h1] at h
      have := (Prod.mk.inj (Prod.mk.inj h).2).1
      omega
    · exact h1
  rw [rt, if_neg (by omega)] at h
  match ht : tr s with
  | .error k =>
    rw [ht] at h
    have := (Prod.mk.inj (Prod.mk.inj h).2).1
    omega
  | .ok (p, x, v) =>
    rw [ht, rtP] at h
    obtain ⟨ea, eb, ec, ed⟩ := trkV_inj (Prod.mk.inj h).1
    obtain ⟨h1, h2, h3⟩ := tr_st ht
    obtain ⟨_, _, _, h4⟩ := tr_ok ht
    have hp := tk_lt h3
    have z1 : (s.extract (p + 1) x).size = x - (p + 1) := by rw [ByteArray.size_extract]; omega
    have z2 : (s.extract x v).size = v - x := by rw [ByteArray.size_extract]; omega
    have um_le : ∀ t : ByteArray, (um t).size ≤ t.size := by
      intro t; unfold um; split
      · exact Nat.zero_le _
      · exact Nat.le_refl _
    have u1 := um_le (s.extract (p + 1) x)
    have u2 := um_le (s.extract x v)
    have s1 : (s.extract 0 p).size ≤ s.size := by rw [ByteArray.size_extract]; omega
    have s4 : (s.extract v s.size).size ≤ s.size := by rw [ByteArray.size_extract]; omega
    refine ⟨?_, by rw [← ea]; omega, by rw [← eb]; omega, by rw [← ec]; omega, by rw [← ed]; omega⟩
    rw [← ea, ← eb, ← ec, ← ed]
    unfold cat
    rw [om_um (by omega), om_um (by omega)]
    have hq : s.data.toList.drop p = [61] ++ s.data.toList.drop (p + 1) := by
      rw [List.drop_eq_getElem_cons (show p < s.data.toList.length from hp)]
      rw [tk_in _ _ _ hp, eqs, beq_iff_eq] at h3
      show s[p] :: _ = _
      rw [h3]; rfl
    have key : (s.extract 0 p ++ ⟨#[61]⟩ ++ s.extract (p + 1) x ++ s.extract x v ++ s.extract v s.size).data.toList = s.data.toList := by
      simp only [ByteArray.data_append, Array.toList_append, ext_toList]
      have e0 : s.data.toList = (s.data.toList.drop 0).take (p - 0) ++ s.data.toList.drop p := by have := split_at s.data.toList 0 p (by omega); rwa [List.drop_zero] at this ⊢
      have e1 := split_at s.data.toList (p + 1) x (by omega)
      have e2 := split_at s.data.toList x v (by omega)
      have e3 : (s.data.toList.drop v).take (s.size - v) = s.data.toList.drop v := List.take_of_length_le (by rw [List.length_drop, sz]; omega)
      rw [e3]
      conv => rhs; rw [e0, hq, e1, e2]
      simp
    cases s with
    | mk d =>
      generalize hX : ((ByteArray.mk d).extract 0 p ++ ⟨#[61]⟩ ++ (ByteArray.mk d).extract (p + 1) x ++ (ByteArray.mk d).extract x v ++ (ByteArray.mk d).extract v (ByteArray.mk d).size) = X at key ⊢
      cases X
      simp only [ByteArray.mk.injEq]; exact Array.toList_inj.1 key
end Go.Proofs.Ytbdkflfgmdcciab.Ka
