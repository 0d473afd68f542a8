/- The tables, out of what is laid. -/
import Derived.Test.YtmnoplaepjaokaaGreatDoorYg
import Derived.Lib.LaidTab
import Derived.Deep.DeepHandedRow
import Derived.Stop.LaidErr
namespace Go.Proofs.YtmnoplaepjaokaaGreatDoor.Yy
set_option linter.unusedVariables false
open Go.RowKit
theorem gP : Tryz.prog.globalNamed "internal/strconv.uint64pow10" = some 2 := by kernel_rfl
theorem gPT : (Tryz.prog.globals[2]?).map (·.type) = some 208 := by kernel_rfl
theorem cellsP : Tryz.prog.cellsOf 208 = 20 := by kernel_rfl
theorem cellsU : Tryz.prog.cellsOf 104 = 1 := by kernel_rfl
theorem gZ : Tryz.prog.globalNamed "math/bits.deBruijn64tab" = some 1 := by kernel_rfl
theorem gZT : (Tryz.prog.globals[1]?).map (·.type) = some 158 := by kernel_rfl
theorem cellsZ : Tryz.prog.cellsOf 158 = 64 := by kernel_rfl
theorem cellsB : Tryz.prog.cellsOf 5 = 1 := by kernel_rfl
theorem tl {P : Program} {W : World} {a : String × DataW Unit} {r : List (String × DataW Unit)} (h : laidMet P (a :: r) W) : laidMet P r W := h.tail
/-- the two tables of a row that lays them second and third -/
theorem tabs {W : World} {a : String × DataW Unit} {r : List (String × DataW Unit)} (h : laidMet Tryz.prog (a :: ("math/bits.deBruijn64tab", Lib.tabData .u8 Tz.zs) :: ("internal/strconv.uint64pow10", Lib.tabData .u64 Lib.pow10Tab) :: r) W) : Yg.Tb W :=
  ⟨Lib.tabIs_of_head (rest := r) gP gPT Tryz.underlying208 Tryz.underlying104 cellsU cellsP (tl (tl h)),
   Tz.Tab.of_var gZ (Lib.tabIs_of_head (rest := ("internal/strconv.uint64pow10", Lib.tabData .u64 Lib.pow10Tab) :: r) gZ gZT Tryz.underlying158 Tryz.underlying5 cellsB cellsZ (tl h))⟩
end Go.Proofs.YtmnoplaepjaokaaGreatDoor.Yy
