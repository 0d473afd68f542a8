/- Small functions of messages: Clone, isDigit, isCodeByte, isCode. -/
import Derived.Test.YtmnoplaepjaokaaGreatDoorHr
import Derived.Test.YtmnoplaepjaokaaGreatDoorKb
import Derived.Test.YtmnoplaepjaokaaGreatDoorShelf
namespace Go.Proofs.YtmnoplaepjaokaaGreatDoor.Ic
set_option linter.unusedVariables false
set_option linter.unusedSimpArgs false
open Go.RowKit Hp Hr Kb
theorem clone_any (s : ByteArray) (w : World) (hs : s.size ≤ 281474976710656) : Calls Tryz.prog 122 #[.string s] w fun e w' => e = .returned (.string s) ∧ Below w.heap.size w w' := by
  have p := fun y => Tryz.stringslite_Clone s y hs
  go_enter Tryz.func122, Tryz.ntmps122
  go_wp2_with fail
  refine (p _).mono ?_
  rintro e y ⟨rfl, hy⟩
  go_wp2_with fail
  go_ret
  exact ⟨rfl, hy⟩
end Go.Proofs.YtmnoplaepjaokaaGreatDoor.Ic
