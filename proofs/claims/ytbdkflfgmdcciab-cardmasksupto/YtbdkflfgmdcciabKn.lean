/- Masks, plain: a mask of a mask; how much is shown. -/
import Derived.Test.YtbdkflfgmdcciabKm
namespace Go.Proofs.Ytbdkflfgmdcciab.Kn
set_option linter.unusedVariables false
open Go.RowKit Lib0 Kp Kb Kd Ki Km
theorem maskL_at (l : List UInt8) (i : Nat) (h : i < l.length) : (maskL l)[i]'(by rw [maskL_length]; exact h) = if 10 < l.length ∧ (i < 6 ∨ l.length - 4 ≤ i) then l[i] else 42 := by
  have := maskL_get l i h
  rw [List.getElem?_eq_getElem (by rw [maskL_length]; exact h)] at this
  exact Option.some.inj this
theorem maskL_twice (l : List UInt8) : maskL (maskL l) = maskL l := by
  apply List.ext_getElem (by rw [maskL_length])
  intro i h1 h2
  have hl := maskL_length l
  have hi : i < l.length := by rw [hl] at h2; exact h2
  rw [maskL_at _ _ (by rw [hl]; exact hi), maskL_at _ _ hi, hl]
  by_cases h : 10 < l.length ∧ (i < 6 ∨ l.length - 4 ≤ i)
  · rw [if_pos h, if_pos h]
  · rw [if_neg h, if_neg h]
/-- how many of the first k are shown -/
def shw (l : List UInt8) : Nat → Nat
  | 0 => 0
  | k + 1 => shw l k + if ((maskL l).getD k 42) != 42 then 1 else 0
theorem shw_le (l : List UInt8) : ∀ k, k ≤ l.length → shw l k ≤ min k 6 + (k - (l.length - 4)) ∧ (l.length ≤ 10 → shw l k = 0)
  | 0, _ => ⟨by simp [shw], fun _ => rfl⟩
  | k + 1, hk => by
    have ih := shw_le l k (by omega)
    have hg := maskL_get l k (by omega)
    have e : (maskL l).getD k 42 = if 10 < l.length ∧ (k < 6 ∨ l.length - 4 ≤ k) then l[k] else 42 := by
      rw [List.getD_eq_getElem?_getD, hg, Option.getD_some]
    unfold shw
    by_cases h : 10 < l.length ∧ (k < 6 ∨ l.length - 4 ≤ k)
    · refine ⟨?_, fun h' => by omega⟩
      have : (if ((maskL l).getD k 42 != 42) then 1 else 0) ≤ 1 := by split <;> omega
      omega
    · rw [e, if_neg h]
      simp only [bne_self_eq_false, Bool.false_eq_true, if_false, Nat.add_zero]
      exact ⟨by omega, ih.2⟩
theorem shw_ten (l : List UInt8) : ∀ k, k ≤ l.length → shw l k ≤ 10 := by
  intro k hk
  have := shw_le l k hk
  by_cases h : l.length ≤ 10
  · rw [this.2 h]; omega
  · omega
end Go.Proofs.Ytbdkflfgmdcciab.Kn
