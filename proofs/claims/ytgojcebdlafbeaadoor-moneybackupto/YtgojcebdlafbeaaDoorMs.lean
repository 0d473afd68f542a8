/- Amounts and sums: the program's and the document's. -/
import Derived.Test.YtgojcebdlafbeaaDoorKb
import Derived.Test.YtgojcebdlafbeaaDoorMp
namespace Go.Proofs.YtgojcebdlafbeaaDoor.Ms
set_option linter.unusedVariables false
open Go.RowKit Mp Kb
set_option maxRecDepth 100000 in
set_option maxHeartbeats 400000 in
theorem isAmount_any (n : Int) (w : World) : Calls Tryd.prog 12 #[.int .i64 n] w fun e w' => e = .returned (.bool (isA n)) ∧ w' = w := by
  by_cases h0 : (0 : Int) ≤ n
  · by_cases h1 : n ≤ 999999999999
    · have e : isA n = true := (isA_iff n).2 ⟨h0, h1⟩
      rw [e]
      go_enter Tryd.func12, Tryd.ntmps12
      go_wp2
      go_ret
      exact ⟨rfl, rfl⟩
    · have e : isA n = false := by simp [isA, h1]
      rw [e]
      go_enter Tryd.func12, Tryd.ntmps12
      go_wp2
      go_ret
      exact ⟨rfl, rfl⟩
  · have e : isA n = false := by simp [isA, h0]
    rw [e]
    go_enter Tryd.func12, Tryd.ntmps12
    go_wp2
    go_ret
    exact ⟨rfl, rfl⟩
set_option maxRecDepth 100000 in
set_option maxHeartbeats 400000 in
theorem amount_any (n : Int) (w : World) : Calls Tryd.prog 16 #[.int .i64 n] w fun e w' => e = .returned (.bool (isA n)) ∧ w' = w := by
  by_cases h0 : (0 : Int) ≤ n
  · by_cases h1 : n ≤ 999999999999
    · have e : isA n = true := (isA_iff n).2 ⟨h0, h1⟩
      rw [e]
      go_enter Tryd.func16, Tryd.ntmps16
      go_wp2
      go_ret
      exact ⟨rfl, rfl⟩
    · have e : isA n = false := by simp [isA, h1]
      rw [e]
      go_enter Tryd.func16, Tryd.ntmps16
      go_wp2
      go_ret
      exact ⟨rfl, rfl⟩
  · have e : isA n = false := by simp [isA, h0]
    rw [e]
    go_enter Tryd.func16, Tryd.ntmps16
    go_wp2
    go_ret
    exact ⟨rfl, rfl⟩
end Go.Proofs.YtgojcebdlafbeaaDoor.Ms
