/- The chapter's examples. -/
import Derived.Test.YtbekjlinnbmpgaaKv
import Derived.Test.YtbekjlinnbmpgaaKg
namespace Go.Proofs.Ytbekjlinnbmpgaa.Kz
set_option linter.unusedVariables false
open Go.RowKit Lib0 Kp Kb Kd Ki Kt Ks Kw Ku Kx Kv Kg
theorem rt0 : rt ⟨#[52, 49, 49, 49, 49, 49, 49, 49, 49, 49, 49, 49, 49, 49, 49, 49, 61, 51, 48, 49, 50, 50, 48, 49, 49, 50, 51, 52]⟩ = (trkV ⟨#[52, 49, 49, 49, 49, 49, 49, 49, 49, 49, 49, 49, 49, 49, 49, 49]⟩ ⟨#[51, 48, 49, 50]⟩ ⟨#[50, 48, 49]⟩ ⟨#[49, 50, 51, 52]⟩, 0, 0) := by kernel_rfl
theorem cat0 : cat ⟨#[52, 49, 49, 49, 49, 49, 49, 49, 49, 49, 49, 49, 49, 49, 49, 49]⟩ ⟨#[51, 48, 49, 50]⟩ ⟨#[50, 48, 49]⟩ ⟨#[49, 50, 51, 52]⟩ = ⟨#[52, 49, 49, 49, 49, 49, 49, 49, 49, 49, 49, 49, 49, 49, 49, 49, 61, 51, 48, 49, 50, 50, 48, 49, 49, 50, 51, 52]⟩ := by kernel_rfl
theorem rt1 : rt ⟨#[52, 49, 61, 51, 48, 49, 51, 50, 48, 49]⟩ = (trkV em em em em, 52, 6) := by kernel_rfl
theorem rtV0 : rtV ⟨#[52, 49, 49, 49, 49, 49, 49, 49, 49, 49, 49, 49, 49, 49, 49, 49, 61, 51, 48, 49, 50, 50, 48, 49, 49, 50, 51, 52]⟩ = .tuple #[.agg #[.string ⟨#[52, 49, 49, 49, 49, 49, 49, 49, 49, 49, 49, 49, 49, 49, 49, 49]⟩, .string ⟨#[51, 48, 49, 50]⟩, .string ⟨#[50, 48, 49]⟩, .string ⟨#[49, 50, 51, 52]⟩], .int .i64 0, .int .i64 0] := by rw [rtV, rt0]; rfl
theorem rtV1 : rtV ⟨#[52, 49, 61, 51, 48, 49, 51, 50, 48, 49]⟩ = .tuple #[.agg #[.string em, .string em, .string em, .string em], .int .i64 52, .int .i64 6] := by rw [rtV, rt1]; rfl
theorem wtV0 : wtV ⟨#[52, 49, 49, 49, 49, 49, 49, 49, 49, 49, 49, 49, 49, 49, 49, 49]⟩ ⟨#[51, 48, 49, 50]⟩ ⟨#[50, 48, 49]⟩ ⟨#[49, 50, 51, 52]⟩ = .tuple #[.string ⟨#[52, 49, 49, 49, 49, 49, 49, 49, 49, 49, 49, 49, 49, 49, 49, 49, 61, 51, 48, 49, 50, 50, 48, 49, 49, 50, 51, 52]⟩, .int .i64 0] := by
  rw [wtV, wtP, if_pos (by rw [cat0]; exact rt0), cat0]
theorem ms : miss (⟨#[52, 49, 49, 49, 49, 49, 49, 49, 49, 49, 49, 49, 49, 49, 49]⟩ : ByteArray).data.toList = 1 := by kernel_rfl
theorem rg : rightR (⟨#[52, 49, 49, 49, 49, 49, 49, 49, 49, 49, 49, 49, 49, 49, 49, 49]⟩ : ByteArray).data.toList = 0 := by kernel_rfl
theorem ad0 : ad ⟨#[52, 49, 49, 49, 49, 49, 49, 49, 49, 49, 49, 49, 49, 49, 49]⟩ = true := by kernel_rfl
set_option maxRecDepth 100000 in
set_option maxHeartbeats 1600000 in
theorem examples_any (w : World) : Calls Try.prog 4 #[] w fun e w' => e = .returned (.bool true) ∧ Below w.heap.size w w' := by
  have p1 := fun y => read_any ⟨#[52, 49, 49, 49, 49, 49, 49, 49, 49, 49, 49, 49, 49, 49, 49, 49, 61, 51, 48, 49, 50, 50, 48, 49, 49, 50, 51, 52]⟩ y
  rw [rtV0] at p1
  have p2 := fun y => write_any ⟨#[52, 49, 49, 49, 49, 49, 49, 49, 49, 49, 49, 49, 49, 49, 49, 49]⟩ ⟨#[51, 48, 49, 50]⟩ ⟨#[50, 48, 49]⟩ ⟨#[49, 50, 51, 52]⟩ y (by decide) (by decide) (by decide) (by decide)
  rw [wtV0] at p2
  have p3 := fun y => digit_good ⟨#[52, 49, 49, 49, 49, 49, 49, 49, 49, 49, 49, 49, 49, 49, 49]⟩ y (by decide) (by decide) ad0
  rw [ms] at p3
  have p4 := fun y => right_any ⟨#[52, 49, 49, 49, 49, 49, 49, 49, 49, 49, 49, 49, 49, 49, 49, 49]⟩ y (by decide)
  rw [rg] at p4
  have p5 := fun y => read_any ⟨#[52, 49, 61, 51, 48, 49, 51, 50, 48, 49]⟩ y
  rw [rtV1] at p5
  unfold trkV at p2
  go_enter Try.func4, Try.ntmps4
  go_wp2_with fail
  refine (p1 _).mono ?_
  rintro e y1 ⟨rfl, h1⟩
  have m1 := h1_0 y1 (Obj.cells #[.string ⟨#[52, 49, 49, 49, 49, 49, 49, 49, 49, 49, 49, 49, 49, 49, 49, 49]⟩, .string ⟨#[51, 48, 49, 50]⟩, .string ⟨#[50, 48, 49]⟩, .string ⟨#[49, 50, 51, 52]⟩] 35)
  have b1 := keepB h1 (below_one y1 (Obj.cells #[.string ⟨#[52, 49, 49, 49, 49, 49, 49, 49, 49, 49, 49, 49, 49, 49, 49, 49]⟩, .string ⟨#[51, 48, 49, 50]⟩, .string ⟨#[50, 48, 49]⟩, .string ⟨#[49, 50, 51, 52]⟩] 35))
  clear h1
  obtain ⟨⟨c0, c1, c2, c3⟩, ⟨f0, f1, f2, f3⟩⟩ := held4 m1
  go_wp2_with fail
  refine (p2 _).mono ?_
  rintro e y2 ⟨rfl, h2⟩
  have m2 := kept h2 m1
  have b2 := keepB b1 h2
  clear c0 c1 c2 c3 f0 f1 f2 f3 m1 b1 h2
  go_wp2_with fail
  refine (p3 _).mono ?_
  rintro e y3 ⟨rfl, h3⟩
  have m3 := kept h3 m2
  have b3 := keepB b2 h3
  clear m2 b2 h3
  go_wp2_with fail
  refine (p4 _).mono ?_
  rintro e y4 ⟨rfl, rfl⟩
  go_wp2_with fail
  refine (p5 _).mono ?_
  rintro e y5 ⟨rfl, h5⟩
  have m5 := kept1 (kept h5 m3) (Obj.cells #[.string em, .string em, .string em, .string em] 35)
  have b5 := keepB (keepB b3 h5) (below_one y5 (Obj.cells #[.string em, .string em, .string em, .string em] 35))
  clear m3 b3 h5
  obtain ⟨⟨c0, c1, c2, c3⟩, ⟨f0, f1, f2, f3⟩⟩ := held4 m5
  go_wp2
  go_ret
  exact ⟨rfl, b5⟩
end Go.Proofs.Ytbekjlinnbmpgaa.Kz
