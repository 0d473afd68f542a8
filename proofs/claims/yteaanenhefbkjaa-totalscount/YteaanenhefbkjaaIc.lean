/- Small functions of messages: Clone, isDigit, isCodeByte, isCode. -/
import Derived.Test.YteaanenhefbkjaaKb
import Derived.Test.YteaanenhefbkjaaShelf
namespace Go.Proofs.Yteaanenhefbkjaa.Ic
set_option linter.unusedVariables false
set_option linter.unusedSimpArgs false
open Go.RowKit Kb
theorem clone_any (s : ByteArray) (w : World) (hs : s.size ≤ 281474976710656) : Calls Try.prog 32 #[.string s] w fun e w' => e = .returned (.string s) ∧ Below w.heap.size w w' := by
  have p := fun y => Try.stringslite_Clone s y hs
  go_enter Try.func32, Try.ntmps32
  go_wp2_with fail
  refine (p _).mono ?_
  rintro e y ⟨rfl, hy⟩
  go_wp2_with fail
  go_ret
  exact ⟨rfl, hy⟩
end Go.Proofs.Yteaanenhefbkjaa.Ic
