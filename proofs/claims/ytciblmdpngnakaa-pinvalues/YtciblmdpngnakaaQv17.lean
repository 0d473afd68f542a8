import Derived.Test.YtciblmdpngnakaaQv16
import Derived.Test.YtciblmdpngnakaaQv12
/- PINs: the chapter's first example. -/
namespace Go.Proofs.Ytciblmdpngnakaa.Py
set_option linter.unusedVariables false
set_option linter.unusedSimpArgs false
open Go.RowKit Lib0 Six Pp Cb Pq
def s1234 : ByteArray := ⟨#[49, 50, 51, 52]⟩
def sPan : ByteArray := ⟨#[52, 51, 50, 49, 57, 56, 55, 54, 53, 52, 51, 50, 49, 48, 57, 56, 55]⟩
def sFill : ByteArray := ⟨#[48, 49, 50, 51, 52, 53, 54, 55, 56, 57]⟩
def b0 : ByteArray := ⟨#[4, 18, 172, 137, 171, 205, 239, 103]⟩
def b1 : ByteArray := ⟨#[20, 18, 52, 1, 35, 69, 103, 137]⟩
theorem v1 : blockR 0 s1234 sPan ⟨#[]⟩ = (b0, 0) := by kernel_rfl
theorem v2 : openR 0 b0 sPan = (s1234, 0) := by kernel_rfl
theorem v3 : blockR 1 s1234 ⟨#[]⟩ sFill = (b1, 0) := by kernel_rfl
theorem block_bd (f : Int) (p q fill : ByteArray) : 0 ≤ (blockR f p q fill).2 ∧ (blockR f p q fill).2 ≤ 100 := by
  unfold blockR
  repeat' split
  all_goals simp
theorem open_bd (f : Int) (b q : ByteArray) : 0 ≤ (openR f b q).2 ∧ (openR f b q).2 ≤ 100 := by
  unfold openR readR
  repeat' split
  all_goals simp
set_option maxRecDepth 100000 in
theorem known_any (w : World) : Calls Try.prog 7 #[] w fun e w' => e = .returned (.bool true) ∧ Below w.heap.size w w' := by
  have B1 := fun u => block_any 0 s1234 sPan ⟨#[]⟩ (by decide) (by decide) (by decide) u
  have O1 := fun u => open_any 0 b0 sPan (by decide) (by decide) u
  have B2 := fun u => block_any 1 s1234 ⟨#[]⟩ sFill (by decide) (by decide) (by decide) u
  rw [v1] at B1
  rw [v2] at O1
  rw [v3] at B2
  unfold b0 s1234 sPan at *
  unfold b1 sFill at B2
  go_enter Try.func7, Try.ntmps7
  go_wp2_with fail
  refine (B1 _).mono ?_
  rintro e x1 ⟨rfl, h1⟩
  go_wp2_with fail
  refine (O1 _).mono ?_
  rintro e x2 ⟨rfl, h2⟩
  go_wp2_with fail
  refine (B2 _).mono ?_
  rintro e x3 ⟨rfl, h3⟩
  go_wp2
  go_ret
  exact ⟨by simp [b0, b1, s1234], keepB (keepB h1 h2) h3⟩
end Go.Proofs.Ytciblmdpngnakaa.Py
/- eachBlock, over a function value. -/
namespace Go.Proofs.Ytciblmdpngnakaa.Ec
set_option linter.unusedVariables false
open Go.RowKit Pla Cb Tk Wd Nw Bk Aw Eb
open Lib0 (bs bs_length bs_append owns_len run_str own_ge)
end Go.Proofs.Ytciblmdpngnakaa.Ec
