/- roomBehind of nothing. -/
import Derived.Test.YtmnoplaepjaokaaGreatDoorIx
namespace Go.Proofs.YtmnoplaepjaokaaGreatDoor.Ie
set_option linter.unusedVariables false
set_option linter.unusedSimpArgs false
open Go.RowKit Hp Hr Kb Ic Ix
set_option maxRecDepth 100000 in
theorem roomBehind_nil (d r : Int) (w : World) : Calls Tryz.prog 146 #[.slice none 0 0, .int .i64 d, .int .i64 r] w fun e w' => e = .returned (.tuple #[.int .i64 r, .bool true]) ∧ w' = w := by
  go_enter Tryz.func146, Tryz.ntmps146
  go_wp2_with fail
  go_loopw [2, 20] (fun c i wr => c = .int .i64 r ∧ i = .int .i64 0 ∧ wr = w) (fun _ _ _ => 0)
  · exact ⟨rfl, rfl, rfl⟩
  · obtain ⟨rfl, rfl, rfl⟩ := hrel
    go_wp2_with fail
    go_ret2
    exact ⟨rfl, rfl⟩
end Go.Proofs.YtmnoplaepjaokaaGreatDoor.Ie
