/- Small functions of messages: Clone, isDigit, isCodeByte, isCode. -/
import Derived.Test.YtabmpngliphdpaaDoorKb
import Derived.Test.YtabmpngliphdpaaDoorShelf
namespace Go.Proofs.YtabmpngliphdpaaDoor.Ic
set_option linter.unusedVariables false
set_option linter.unusedSimpArgs false
open Go.RowKit Kb
theorem clone_any (s : ByteArray) (w : World) (hs : s.size ≤ 281474976710656) : Calls Tryd.prog 42 #[.string s] w fun e w' => e = .returned (.string s) ∧ Below w.heap.size w w' := by
  have p := fun y => Tryd.stringslite_Clone s y hs
  go_enter Tryd.func42, Tryd.ntmps42
  go_wp2_with fail
  refine (p _).mono ?_
  rintro e y ⟨rfl, hy⟩
  go_wp2_with fail
  go_ret
  exact ⟨rfl, hy⟩
end Go.Proofs.YtabmpngliphdpaaDoor.Ic
