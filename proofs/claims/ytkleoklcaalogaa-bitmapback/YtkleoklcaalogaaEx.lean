/- examples. -/
import Derived.Test.YtkleoklcaalogaaOf
import Derived.Test.YtkleoklcaalogaaEo
import Derived.Test.YtkleoklcaalogaaDv
namespace Go.Proofs.Ytkleoklcaalogaa.Ex
set_option linter.unusedVariables false
open Go.RowKit Pla Bm Bn Of Hf Wr Wt En Eo Rd Rs Rb De Dv
def exL : List UInt8 := [67, 48, 48, 48, 48, 48, 48, 48, 48, 48, 48, 48, 48, 48, 48, 48, 48, 48, 48, 48, 48, 48, 48, 48, 48, 48, 48, 48, 48, 48, 48, 49]
theorem ex_of : ofV [2, 128] = (4611686018427387904, 1, 0) := by decide +kernel
theorem ex_enc : encV 1 4611686018427387904 1 = (exL, 0) := by decide +kernel
theorem ex_dec : decV 1 ⟨(exL ++ [120]).toArray⟩ = (4611686018427387904, 1, 0, 32) := by decide +kernel
theorem of_ex (b : Nat) (cap : Nat) (w : World) (h0 : w.cell? ⟨b, 0, none⟩ = some (.int .i64 2)) (h1 : w.cell? ⟨b, 1, none⟩ = some (.int .i64 128)) (hb : b < w.heap.size) :
    Calls Try.prog 17 #[.slice (some ⟨b, 0, none⟩) 2 cap] w fun e w' => e = .returned (.tuple #[.agg #[.int .u64 4611686018427387904, .int .u64 1], .int .i64 0]) ∧ Below w.heap.size w w' := by
  have h := of_any [2, 128] b 0 cap w (by decide) (fun i hi => by
    match i, hi with
    | 0, _ => exact h0
    | 1, _ => exact h1) (by intro z hz; simp at hz; omega) hb
  rw [ex_of] at h
  exact h
theorem enc_ex (w : World) : Calls Try.prog 19 #[.int .i64 1, .agg #[.int .u64 4611686018427387904, .int .u64 1]] w fun e w' => e = .returned (.tuple #[.string ⟨#[67, 48, 48, 48, 48, 48, 48, 48, 48, 48, 48, 48, 48, 48, 48, 48, 48, 48, 48, 48, 48, 48, 48, 48, 48, 48, 48, 48, 48, 48, 48, 49]⟩, .int .i64 0]) ∧ Below w.heap.size w w' := by
  have h := encode_any 1 4611686018427387904 1 (by decide) (by decide) w
  rw [ex_enc] at h
  exact h
theorem dec_ex (w : World) : Calls Try.prog 20 #[.int .i64 1, .string ⟨#[67, 48, 48, 48, 48, 48, 48, 48, 48, 48, 48, 48, 48, 48, 48, 48, 48, 48, 48, 48, 48, 48, 48, 48, 48, 48, 48, 48, 48, 48, 48, 49, 120]⟩] w fun e w' => e = .returned (.tuple #[.agg #[.int .u64 4611686018427387904, .int .u64 1], .int .i64 0, .int .i64 32]) ∧ Below w.heap.size w w' := by
  have h := decode_any 1 ⟨(exL ++ [120]).toArray⟩ (by decide +kernel) w
  rw [ex_dec] at h
  exact h
set_option maxRecDepth 100000 in
set_option maxHeartbeats 1600000 in
theorem examples_any (w : World) : Calls Try.prog 5 #[] w fun e w' => e = .returned (.bool true) ∧ Below w.heap.size w w' := by
  have p2 := fun w => enc_ex w
  have p3 := fun w => dec_ex w
  go_enter Try.func5, Try.ntmps5
  go_wp2_with (first
    | (go_at_call 17; refine (of_ex w.heap.size 2 _ (by simp) (by simp) (by simp)).mono ?_; rintro e x ⟨rfl, hb⟩)
    | (go_at_call 19; refine (p2 _).mono ?_; rintro e y ⟨rfl, hc⟩; obtain ⟨c0, c1, f0, f1⟩ := held2 hc (h1_0 x _); have k1 := kept hc (h1_0 x _))
    | (go_at_call 20; refine (p3 _).mono ?_; rintro e z ⟨rfl, hd⟩; obtain ⟨d0, d1, g0, g1⟩ := and4 (held2a hd k1); have k2 := kept hd k1))
  go_ret
  exact ⟨rfl, keepB (keepB (keepB (keepB (keepB (below_one w _) hb) (below_one x _)) hc) hd) (below_one z _)⟩
end Go.Proofs.Ytkleoklcaalogaa.Ex
