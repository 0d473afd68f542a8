/- stan.Field, and the tables. -/
import Derived.Test.YtmnoplaepjaokaaGreatDoorNum
import Derived.Test.YtmnoplaepjaokaaGreatDoorYc
namespace Go.Proofs.YtmnoplaepjaokaaGreatDoor.Yg
set_option linter.unusedVariables false
set_option linter.unusedSimpArgs false
open Go.RowKit Lib0 Kb Xp Num Ya Yb Yc
abbrev Pow (w : World) : Prop := Lib.TabIs Tryz.prog w "internal/strconv.uint64pow10" .u64 Lib.pow10Tab
theorem gPow : Tryz.prog.globalNamed "internal/strconv.uint64pow10" = some 2 := by kernel_rfl
theorem Pow.next {w w' : World} (h : Pow w) (hb : Below w.heap.size w w') : Pow w' := by
  unfold Pow Lib.TabIs World.var? at *
  rw [gPow] at *
  simp only [Option.bind_some] at *
  cases ho : w.heap[2]? with
  | none => rw [ho] at h; simp at h
  | some o => rw [hb.block _ (Array.getElem?_eq_some_iff.1 ho).1]; exact h
/-- the tables that are laid -/
structure Tb (w : World) : Prop where
  pow : Pow w
  tz : Tz.Tab w
theorem Tb.next {w w' : World} (h : Tb w) (hb : Below w.heap.size w w') : Tb w' := ⟨Pow.next h.pow hb, h.tz.next hb⟩
def fieldR (n : Int) : List UInt8 × Int := if isNum n then (dgs 6 n.toNat, 0) else ([], 1)
theorem write6 (n : Int) (h : isNum n = true) : writeR n 6 = (dgs 6 n.toNat, 0) := by
  simp [isNum] at h
  rw [writeR, if_neg (by omega), if_pos (by show n.toNat < 10 ^ 6; omega)]
  rfl
theorem field_any (n : Int) (w : World) (hT : Tb w) : Calls Tryz.prog 14 #[.int .i64 n] w fun e w' => e = .returned (.tuple #[.string ⟨(fieldR n).1.toArray⟩, .int .i64 (fieldR n).2]) ∧ Below w.heap.size w w' := by
  have HI := isNumber_any n w
  cases h : isNum n with
  | false =>
    rw [h] at HI
    have e : fieldR n = ([], 1) := by rw [fieldR, h]; rfl
    rw [e]
    go_enter Tryz.func14, Tryz.ntmps14
    go_wp2_with fail
    refine HI.mono ?_
    rintro e y ⟨rfl, hy⟩
    rw [hy]
    clear hy HI
    go_wp2_with fail
    go_ret2
    exact ⟨rfl, Below.refl _ _⟩
  | true =>
    rw [h] at HI
    have e : fieldR n = (dgs 6 n.toNat, 0) := by rw [fieldR, h]; rfl
    have HW := write_any n 6 w (by simp [isNum] at h; omega) hT.pow
    rw [write6 n h] at HW
    rw [e]
    dsimp only at HW ⊢
    clear hT h e
    generalize (⟨(dgs 6 n.toNat).toArray⟩ : ByteArray) = s at *
    go_enter Tryz.func14, Tryz.ntmps14
    go_wp2_with fail
    refine HI.mono ?_
    rintro e y ⟨rfl, hy⟩
    rw [hy]
    clear hy HI
    go_wp2_with fail
    refine HW.mono ?_
    rintro e y ⟨rfl, hy⟩
    have HB : Hid (Below w.heap.size w y) := hy
    clear hy HW
    go_wp2_with fail
    go_ret2
    exact ⟨rfl, HB.out⟩
end Go.Proofs.YtmnoplaepjaokaaGreatDoor.Yg
