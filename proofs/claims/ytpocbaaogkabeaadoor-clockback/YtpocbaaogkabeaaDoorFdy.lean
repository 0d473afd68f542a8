/- What follows of days: plain. -/
import Derived.Test.YtpocbaaogkabeaaDoorLw
namespace Go.Proofs.YtpocbaaogkabeaaDoor.Fdy
set_option linter.unusedVariables false
set_option linter.unusedSimpArgs false
open Go.RowKit Ca Oe Lw
theorem day_rise {n n' Y M D Y' M' D' : Int} (a : IsDay n Y M D) (b : IsDay n' Y' M' D') :
    (Y < Y' → n < n') ∧ (Y = Y' → M < M' → n < n') ∧ (Y = Y' → M = M' → n - D = n' - D') := by
  have a0 := a.y0; have a1 := a.y1; have b0 := b.y0; have b1 := b.y1
  have ai := a.in_year; have bi := b.in_year
  have am' := a.in_month; have bm' := b.in_month
  refine ⟨fun h => ?_, fun e h => ?_, fun e h => ?_⟩
  · have := ay_mono (y := Y + 1) (z := Y') (by omega) (by omega); omega
  · subst e
    have := am_lt Y a.m0 h (by have := b.m1; omega); omega
  · subst e; subst h
    have := a.is; have := b.is; omega
theorem day_ex (n : Int) (h0 : 0 ≤ n) (h1 : n < 36525) : ∃ Y M D, IsDay n Y M D := by
  have hy : ∃ Y, 2000 ≤ Y ∧ Y ≤ 2099 ∧ ay Y ≤ n ∧ n < ay (Y + 1) := by
    have : ∀ k : Nat, (k : Int) ≤ 100 → n < ay (2000 + k) → ∃ Y, 2000 ≤ Y ∧ Y ≤ 2099 ∧ ay Y ≤ n ∧ n < ay (Y + 1) := by
      intro k
      induction k with
      | zero => intro _ h; rw [show (2000 : Int) + ((0 : Nat) : Int) = 2000 by rfl, ay_2000] at h; omega
      | succ k ih =>
        intro hk h
        by_cases hl : n < ay (2000 + k)
        · exact ih (by omega) hl
        · refine ⟨2000 + k, by omega, by omega, by omega, ?_⟩
          rw [show (2000 : Int) + k + 1 = 2000 + ((k + 1 : Nat) : Int) by omega]
          exact h
    exact this 100 (by decide) (by rw [show (2000 : Int) + ((100 : Nat) : Int) = 2100 by rfl, ay_2100]; exact h1)
  obtain ⟨Y, y0, y1, a, b⟩ := hy
  have s := ay_succ (y := Y) (by omega) y1
  have hm : ∃ M, 1 ≤ M ∧ M ≤ 12 ∧ am Y M ≤ n - ay Y ∧ n - ay Y < am Y (M + 1) := by
    have : ∀ k : Nat, (k : Int) ≤ 12 → n - ay Y < am Y (1 + k) → ∃ M, 1 ≤ M ∧ M ≤ 12 ∧ am Y M ≤ n - ay Y ∧ n - ay Y < am Y (M + 1) := by
      intro k
      induction k with
      | zero => intro _ h; rw [show (1 : Int) + ((0 : Nat) : Int) = 1 by rfl, am_one] at h; omega
      | succ k ih =>
        intro hk h
        by_cases hl : n - ay Y < am Y (1 + k)
        · exact ih (by omega) hl
        · refine ⟨1 + k, by omega, by omega, by omega, ?_⟩
          rw [show (1 : Int) + k + 1 = 1 + ((k + 1 : Nat) : Int) by omega]
          exact h
    exact this 12 (by decide) (by rw [show (1 : Int) + ((12 : Nat) : Int) = 13 by rfl]; omega)
  obtain ⟨M, m0, m1, c, d⟩ := hm
  have st := am_step Y (m := M)
  exact ⟨Y, M, n - ay Y - am Y M + 1, y0, y1, m0, m1, by omega, by omega, by omega⟩
end Go.Proofs.YtpocbaaogkabeaaDoor.Fdy
