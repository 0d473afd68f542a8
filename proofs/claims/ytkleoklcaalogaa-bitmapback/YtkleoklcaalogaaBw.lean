/- The document's rows: Right, Has, With, Without, like, row. -/
import Derived.Test.YtkleoklcaalogaaBv
namespace Go.Proofs.Ytkleoklcaalogaa.Bw
set_option linter.unusedVariables false
open Go.RowKit Pla Bm Br Bv
set_option maxHeartbeats 1600000 in
theorem row_any (F S : Nat) (hF : F < 18446744073709551616) (hS : S < 18446744073709551616) (w : World) :
    Calls Try.prog 7 #[.agg #[.int .u64 (F : Int), .int .u64 (S : Int)]] w fun e w' => e = .returned (.agg (rowC (rowF F S))) ∧ Below w.heap.size w w' := by
  have hz := (zero_of_info zrow).1
  go_enter Try.func7, Try.ntmps7
  go_wp2_with (first
    | (go_at_call 27; refine (rowOf_any F S hF hS _).mono ?_; rintro e x ⟨rfl, hb⟩; have g1 := kept hb (h2_1 w _ _))
    | (refine wpList_store_row rfl 30 _ _ rfl (w.heap.size + 1) _ rfl rfl _ _ g1 (hsz _) (by rw [rowC_size, rowC_size]) (rowC_one _) ?_))
  exact bodyPost_ret (v := .agg (rowC (rowF F S))) (results_cell_row rfl _ _ (w.heap.size + 1) _ _ _ _ rfl (setRow_at g1 _) Try.underlying30 rfl (hsz _)) rfl ⟨rfl, below_setRow (keepB (below_two w _ _) hb) (by simp) _⟩
set_option maxHeartbeats 1600000 in
theorem like_any (F S : Nat) (f : Nat → Bool) (w : World) :
    Calls Try.prog 8 #[.agg #[.int .u64 (F : Int), .int .u64 (S : Int)], .agg (rowC f)] w fun e w' => e = .returned (.bool ((F : Int) == (halfN f 0 64 : Int) && (S : Int) == (halfN f 64 64 : Int))) ∧ Below w.heap.size w w' := by
  generalize hx : halfN f 0 64 = x at *
  generalize hy : halfN f 64 64 = y at *
  go_enter Try.func8, Try.ntmps8
  go_wp2_with (first
      | (refine wpList_load_row rfl 30 _ rfl (w.heap.size + 1) rfl _ _ _ _ (h2_1 w _ _) Try.underlying30 rfl (hsz _) ?_)
      | (go_at_call 28; refine (halves_any f _).mono ?_; rintro e z ⟨rfl, hb⟩; rw [hx, hy]; obtain ⟨c0, c1, f0, f1⟩ := held2 hb (h2_0 w _ _)))
  · rename_i h
    go_ret
    exact ⟨by simp [h], keepB (below_two w _ _) hb⟩
  · rename_i h
    go_ret
    exact ⟨by simp [h], keepB (below_two w _ _) hb⟩
end Go.Proofs.Ytkleoklcaalogaa.Bw
