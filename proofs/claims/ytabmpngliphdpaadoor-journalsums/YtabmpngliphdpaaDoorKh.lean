/- JournalSums: its walk. -/
import Derived.Test.YtabmpngliphdpaaDoorKg
namespace Go.Proofs.YtabmpngliphdpaaDoor.Kh
set_option linter.unusedVariables false
set_option linter.unusedSimpArgs false
open Go.RowKit Lib0 Kb Ja Jb Jc Kg
attribute [local go_sem] Oper.semAt_some
theorem walk (b : ByteArray) (w : World) (hb : b.size ≤ 140737488351232) (h : Lv w) : Calls Tryd.prog 3 #[.string b] w fun e w' => e = .returned (.bool true) ∧ Below w.heap.size w w' := by
  have HL : Hid (Lv w) := h
  have HB : Hid (b.size ≤ 4611686018427387904) := Nat.le_trans hb (by decide)
  clear h hb
  go_enter Tryd.func3, Tryd.ntmps3
  go_wp2_with fail
  refine (examples_any w HL.out).mono ?_
  rintro e y ⟨rfl, hy⟩
  have HY : Hid (Below w.heap.size w y) := hy
  have HS : Hid (Calls _ _ _ _ _) := sum_any b y HB.out (HL.out.next hy).hal
  clear hy
  go_wp2_with fail
  refine HS.out.mono ?_
  rintro e y2 ⟨rfl, rfl⟩
  have HR : Hid (Calls _ _ _ _ _) := sumr_any b y2 HB.out
  go_wp2_with fail
  refine HR.out.mono ?_
  rintro e y3 ⟨rfl, rfl⟩
  go_wp2_with fail
  go_ret
  exact ⟨rfl, HY.out⟩
end Go.Proofs.YtabmpngliphdpaaDoor.Kh
