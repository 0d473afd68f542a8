/- Amounts and sums: the program's and the document's. -/
import Derived.Test.YtaacocliclibgaaSl
import Derived.Test.YtaacocliclibgaaMp
import Derived.Deep.QuietTactic
namespace Go.Proofs.Ytaacocliclibgaa.Ms
set_option linter.unusedVariables false
open Go.RowKit Mp Sl
set_option maxRecDepth 100000 in
set_option maxHeartbeats 400000 in
theorem isAmount_any (n : Int) (w : World) : Calls Try.prog 19 #[.int .i64 n] w fun e w' => e = .returned (.bool (isA n)) ∧ w' = w := by
  by_cases h0 : (0 : Int) ≤ n
  · by_cases h1 : n ≤ 999999999999
    · have e : isA n = true := (isA_iff n).2 ⟨h0, h1⟩
      rw [e]
      go_enter Try.func19, Try.ntmps19
      go_wp2
      go_ret
      exact ⟨rfl, rfl⟩
    · have e : isA n = false := by simp [isA, h1]
      rw [e]
      go_enter Try.func19, Try.ntmps19
      go_wp2
      go_ret
      exact ⟨rfl, rfl⟩
  · have e : isA n = false := by simp [isA, h0]
    rw [e]
    go_enter Try.func19, Try.ntmps19
    go_wp2
    go_ret
    exact ⟨rfl, rfl⟩
set_option maxRecDepth 100000 in
set_option maxHeartbeats 400000 in
theorem amount_any (n : Int) (w : World) : Calls Try.prog 22 #[.int .i64 n] w fun e w' => e = .returned (.bool (isA n)) ∧ w' = w := by
  by_cases h0 : (0 : Int) ≤ n
  · by_cases h1 : n ≤ 999999999999
    · have e : isA n = true := (isA_iff n).2 ⟨h0, h1⟩
      rw [e]
      go_enter Try.func22, Try.ntmps22
      go_wp2
      go_ret
      exact ⟨rfl, rfl⟩
    · have e : isA n = false := by simp [isA, h1]
      rw [e]
      go_enter Try.func22, Try.ntmps22
      go_wp2
      go_ret
      exact ⟨rfl, rfl⟩
  · have e : isA n = false := by simp [isA, h0]
    rw [e]
    go_enter Try.func22, Try.ntmps22
    go_wp2
    go_ret
    exact ⟨rfl, rfl⟩
/-! allAmounts -/
end Go.Proofs.Ytaacocliclibgaa.Ms
