import Derived.Test.YtmnoplaepjaokaaGreatDoorQs29
import Derived.Test.YtmnoplaepjaokaaGreatDoorQs01
/- The tables, out of what is laid: with that of the months. -/
namespace Go.Proofs.YtmnoplaepjaokaaGreatDoor.Yz
set_option linter.unusedVariables false
open Go.RowKit
structure Tb4 (w : World) : Prop where
  tb : Yg.Tb w
  ah : Ld.Tab w
theorem gTab : Tryz.prog.globalNamed "turnstile/clock.ahead" = some 0 := by kernel_rfl
theorem gTabType : (Tryz.prog.globals[0]?).map (·.type) = some 154 := by kernel_rfl
theorem cellsT : Tryz.prog.cellsOf 154 = 13 := by kernel_rfl
theorem cellsE : Tryz.prog.cellsOf 3 = 1 := by kernel_rfl
theorem tabs {W : World} {a : String × DataW Unit} (h : laidMet Tryz.prog (a :: ("math/bits.deBruijn64tab", Lib.tabData .u8 Tz.zs) :: ("internal/strconv.uint64pow10", Lib.tabData .u64 Lib.pow10Tab) :: ("turnstile/clock.ahead", Lib.tabData .i64 Ca.tab) :: []) W) : Tb4 W :=
  ⟨Yy.tabs h, Ld.Tab.of_var gTab (Lib.tabIs_of_head (rest := []) gTab gTabType Tryz.underlying154 Tryz.underlying3 cellsE cellsT (Yy.tl (Yy.tl (Yy.tl h))))⟩
end Go.Proofs.YtmnoplaepjaokaaGreatDoor.Yz
