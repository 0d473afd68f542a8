/- Has. -/
import Derived.Test.YtkleoklcaalogaaBn
namespace Go.Proofs.Ytkleoklcaalogaa.Bh
set_option linter.unusedVariables false
open Go.RowKit Pla Bm Bn
set_option maxHeartbeats 1600000 in
theorem has_any (F S : Nat) (n : Int) (hF : F < 18446744073709551616) (hS : S < 18446744073709551616) (h1 : -9223372036854775808 ≤ n) (h2 : n ≤ 9223372036854775807) (w : World) :
    Calls Try.prog 22 #[.agg #[.int .u64 (F : Int), .int .u64 (S : Int)], .int .i64 n] w fun e w' => e = .returned (.bool (hasB F S n)) ∧ Below w.heap.size w w' := by
  rw [← has_is]
  cases hx : (((fld (F &&& onlyF n) : Nat) : Int) == 0) <;> cases hy : (((fld (S &&& onlyS n) : Nat) : Int) == 0)
  all_goals
    go_enter Try.func22, Try.ntmps22
    go_wp2_with fail
    have x0 := h1_0 w (Obj.cells #[Value.int IntKind.u64 ↑F, Value.int IntKind.u64 ↑S] 24)
    go_region_with (first
      | (go_at_call 32; refine (only_any n h1 h2 _).mono ?_; rintro e y ⟨rfl, hc⟩; obtain ⟨i0, i1, j0, j1⟩ := held2 hc x0)
      | (go_at_call 9; refine (and_any _ _ _ _ hF hS (onlyF_lt n) (onlyS_lt n) _).mono ?_; rintro e z ⟨rfl, hd⟩))
  all_goals
    go_wp2
    go_ret
    exact ⟨rfl, keepB (keepB (below_one w _).drew hc) hd⟩
end Go.Proofs.Ytkleoklcaalogaa.Bh
