/- The document's rows: Halves. -/
import Derived.Test.YtkleoklcaalogaaBr
namespace Go.Proofs.Ytkleoklcaalogaa.Bv
set_option linter.unusedVariables false
open Go.RowKit Pla Bm Br
theorem halfN_b (f : Nat → Bool) (b j : Nat) (hj : j < 64) : (halfN f b j : Int) ≤ 9223372036854775807 := by
  have h := halfN_lt f b j
  have := Nat.pow_le_pow_right (n := 2) (by decide) (show j ≤ 63 by omega)
  omega
set_option maxHeartbeats 1600000 in
theorem halves_any (f : Nat → Bool) (w : World) :
    Calls Try.prog 28 #[.agg (rowC f)] w fun e w' => e = .returned (.tuple #[.int .u64 (halfN f 0 64 : Int), .int .u64 (halfN f 64 64 : Int)]) ∧ Below w.heap.size w w' := by
  have hs := hsz f
  have hone := rowC_one f
  have hsize := rowC_size f
  go_enter Try.func28, Try.ntmps28
  go_wp2_with fail
  clear hs hone hsize
  go_loopw [4, 5, 6] (fun a b i wr => ∃ j : Nat, j ≤ 64 ∧ i = .int .i64 ((j : Int) + 1) ∧ a = .int .u64 (halfN f 0 j : Int) ∧ b = .int .u64 (halfN f 64 j : Int) ∧ wr = w.alloc (Obj.cells (rowC f) 30)) (fun _ _ i _ => 65 - (intOf i).toNat)
  case atStart => exact ⟨0, by omega, rfl, rfl, rfl, rfl⟩
  case round =>
    obtain ⟨j, hj, rfl, rfl, rfl, rfl⟩ := hrel
    by_cases hj2 : j < 64
    · have q : (j : Int) + 1 ≤ 64 := by omega
      have q0 : (0 : Int) ≤ (j : Int) := by omega
      have b1 := halfN_b f 0 j hj2
      have b2 := halfN_b f 64 j hj2
      have k1 := rowC_get f (j + 1) (by omega)
      have k2 := rowC_get f (64 + (j + 1)) (by omega)
      have HA : Hid (halfN f 0 (j + 1) = 2 * halfN f 0 j + (f (0 + (j + 1))).toNat) := rfl
      have HB : Hid (halfN f 64 (j + 1) = 2 * halfN f 64 j + (f (64 + (j + 1))).toNat) := rfl
      rw [Nat.zero_add] at HA
      generalize hx : halfN f 0 j = x at *
      generalize hy : halfN f 64 j = y at *
      generalize hu : halfN f 0 (j + 1) = x' at *
      generalize hv : halfN f 64 (j + 1) = y' at *
      cases h1 : f (j + 1) <;> cases h2 : f (64 + (j + 1)) <;> rw [h1] at k1 HA <;> rw [h2] at k2 HB <;> clear h1 h2
      all_goals
        go_wp2
        refine ⟨⟨j + 1, by omega, by simp, ?_, ?_, trivial⟩, ?_⟩
        · rw [hu]; have := HA.out; congr 1; simp at this; omega
        · rw [hv]; have := HB.out; congr 1; simp at this; omega
        · simp only [intOf]; omega
    · obtain rfl : j = 64 := by omega
      have q : ¬ ((64 : Nat) : Int) + 1 ≤ 64 := by omega
      generalize hx : halfN f 0 64 = x at *
      generalize hy : halfN f 64 64 = y at *
      go_wp2
      go_ret2
      exact ⟨rfl, below_one w _⟩
end Go.Proofs.Ytkleoklcaalogaa.Bv
