/- The document's rows: Right, Has, With, Without, like, row. -/
import Derived.Test.YtiepchghlopfnaaBv
namespace Go.Proofs.Ytiepchghlopfnaa.Bw
set_option linter.unusedVariables false
open Go.RowKit Pla Bm Br Bv
theorem refField_any (n : Int) (w : World) : Calls Try.prog 42 #[.int .i64 n] w fun e w' => e = .returned (.bool (field n)) ∧ w' = w := by
  go_enter Try.func42, Try.ntmps42
  go_wp2
  all_goals
    go_ret
    refine ⟨?_, rfl⟩
    congr 2
    simp [field, bne, *]
    try omega
set_option maxHeartbeats 1600000 in
theorem refRight_any (f : Nat → Bool) (w : World) : Calls Try.prog 21 #[.agg (rowC f)] w fun e w' => e = .returned (.bool (!f 1 && !f 65)) ∧ Below w.heap.size w w' := by
  have k1 := rowC_get f 1 (by omega)
  have k2 := rowC_get f 65 (by omega)
  cases h1 : f 1 <;> cases h2 : f 65 <;> rw [h1] at k1 <;> rw [h2] at k2
  all_goals
    go_enter Try.func21, Try.ntmps21
    go_wp2
    go_ret
    exact ⟨rfl, below_one w _⟩
set_option maxHeartbeats 1600000 in
theorem refHas_any (f : Nat → Bool) (n : Int) (w : World) : Calls Try.prog 23 #[.agg (rowC f), .int .i64 n] w fun e w' => e = .returned (.bool (field n && f n.toNat)) ∧ Below w.heap.size w w' := by
  cases hf : field n
  · go_enter Try.func23, Try.ntmps23
    go_wp2_with (go_at_call 42; refine (refField_any _ _).mono ?_; rintro e x ⟨rfl, rfl⟩; rw [hf])
    go_ret
    exact ⟨rfl, below_one w _⟩
  · have hf' := hf
    simp only [field, Bool.and_eq_true, decide_eq_true_eq, Bool.not_eq_true', beq_eq_false_iff_ne] at hf'
    obtain ⟨⟨b1, b2⟩, b3⟩ := hf'
    have k1 := rowC_get f n.toNat (by omega)
    cases h1 : f n.toNat <;> rw [h1] at k1
    all_goals
      go_enter Try.func23, Try.ntmps23
      go_wp2_with (go_at_call 42; refine (refField_any _ _).mono ?_; rintro e x ⟨rfl, rfl⟩; rw [hf])
      go_ret
      exact ⟨rfl, below_one w _⟩
set_option maxHeartbeats 1600000 in
theorem row_any (F S : Nat) (hF : F < 18446744073709551616) (hS : S < 18446744073709551616) (w : World) :
    Calls Try.prog 15 #[.agg #[.int .u64 (F : Int), .int .u64 (S : Int)]] w fun e w' => e = .returned (.agg (rowC (rowF F S))) ∧ Below w.heap.size w w' := by
  have hz := (zero_of_info zrow).1
  go_enter Try.func15, Try.ntmps15
  go_wp2_with (first
    | (go_at_call 44; refine (rowOf_any F S hF hS _).mono ?_; rintro e x ⟨rfl, hb⟩; have g1 := kept hb (h2_1 w _ _))
    | (refine wpList_store_row rfl 33 _ _ rfl (w.heap.size + 1) _ rfl rfl _ _ g1 (hsz _) (by rw [rowC_size, rowC_size]) (rowC_one _) ?_))
  exact bodyPost_ret (v := .agg (rowC (rowF F S))) (results_cell_row rfl _ _ (w.heap.size + 1) _ _ _ _ rfl (setRow_at g1 _) Try.underlying33 rfl (hsz _)) rfl ⟨rfl, below_setRow (keepB (below_two w _ _) hb) (by simp) _⟩
set_option maxHeartbeats 1600000 in
theorem like_any (F S : Nat) (f : Nat → Bool) (w : World) :
    Calls Try.prog 14 #[.agg #[.int .u64 (F : Int), .int .u64 (S : Int)], .agg (rowC f)] w fun e w' => e = .returned (.bool ((F : Int) == (halfN f 0 64 : Int) && (S : Int) == (halfN f 64 64 : Int))) ∧ Below w.heap.size w w' := by
  generalize hx : halfN f 0 64 = x at *
  generalize hy : halfN f 64 64 = y at *
  go_enter Try.func14, Try.ntmps14
  go_wp2_with (first
      | (refine wpList_load_row rfl 33 _ rfl (w.heap.size + 1) rfl _ _ _ _ (h2_1 w _ _) Try.underlying33 rfl (hsz _) ?_)
      | (go_at_call 43; refine (halves_any f _).mono ?_; rintro e z ⟨rfl, hb⟩; rw [hx, hy]; obtain ⟨c0, c1, f0, f1⟩ := held2 hb (h2_0 w _ _)))
  · rename_i h
    go_ret
    exact ⟨by simp [h], keepB (below_two w _ _) hb⟩
  · rename_i h
    go_ret
    exact ⟨by simp [h], keepB (below_two w _ _) hb⟩
end Go.Proofs.Ytiepchghlopfnaa.Bw
