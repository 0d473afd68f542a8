/- The document's rows: With, Without. -/
import Derived.Test.YtiepchghlopfnaaBw
import Derived.Great.BuildSlice
namespace Go.Proofs.Ytiepchghlopfnaa.Bx
set_option linter.unusedVariables false
open Go.RowKit Pla Bm Br Bv Bw
theorem res_row_tmp {P : Program} {fn : Func} {p u : Tmp} {ty : TypeId} (h : fn.results = #[.cell p ty, .tmp u]) (tmps : Array Value) (w : World) (g : Nat) (t : TypeId) (cs : Array Value) (fr : Nat × Nat) (d : TypeDesc)
    (hp : tmps.getD p undef = .pointer (some ⟨g, 0, none⟩)) (hg : w.heap[g]? = some (.cells cs t fr))
    (hu : P.underlying ty = some d) (hd : (match d with | .struct _ | .array _ _ => true | _ => false) = true) (hi : (P.info? ty).map (·.size) = some cs.size) :
    (results fn tmps).run P w = .ok (.tuple #[.agg cs, tmps.getD u undef]) w := by
  rw [results_cell_tmp h, hp]
  simp only [asAddr, Sem.run_pure, Result.andThen_ok, run_loadVar_row w g t ty cs fr d hg hu hd hi]
theorem zbuilt : Try.prog.built 33 [] = some (rowC fun _ => false) := by kernel_rfl
theorem wpList_zrow {ops : Array Oper} {rest : List Oper} {o : Oper} {a : Act} {w : World} {Q : Exit → Act → World → Prop} (hg : o.guard = none) (ho : o.op = .build 33 #[])
    (h : wpList Try.prog ops Q rest (a.put o.dst (.agg (rowC fun _ => false))) w) : wpList Try.prog ops Q (o :: rest) a w := by
  refine wpList_build hg 33 #[] ho (by rw [Array.map_empty, zbuilt]; rfl) ?_
  rw [Array.map_empty, zbuilt]
  exact h
theorem setCell_row {x : World} {g n : Nat} {f : Nat → Bool} {t : TypeId} (b : Bool) (h : x.heap[g]? = some (.cells (rowC f) t (0, 0))) (hn : n < 129) : (x.setCell ⟨g, n, none⟩ (.bool b)).heap[g]? = some (.cells (rowC (upd f n b)) t (0, 0)) := by
  rw [heap_setCell_same x g _ _ t _ h, rowC_set _ _ _ hn]
theorem setCell_ne {x : World} {g k n : Nat} (v : Value) (h : k ≠ g) : (x.setCell ⟨g, n, none⟩ v).heap[k]? = x.heap[k]? := Below.heap_setCell x ⟨g, n, none⟩ v k h
theorem row_cell {x : World} {g : Nat} {f : Nat → Bool} {t : TypeId} {fr : Nat × Nat} (h : x.heap[g]? = some (.cells (rowC f) t fr)) (n : Nat) (hn : n < 129) : x.cell? ⟨g, n, none⟩ = some (.bool (f n)) := by
  rw [cell_of_row x g n _ t fr h, rowC_get _ _ hn]
set_option maxHeartbeats 1600000 in
theorem refWith_ok (f : Nat → Bool) (n : Int) (hf : field n = true) (hr : (!f 1 && !f 65) = true) (w : World) : Calls Try.prog 17 #[.agg (rowC f), .int .i64 n] w fun e w' => e = .returned (.tuple #[.agg (rowC (upd f n.toNat true)), .int .i64 0]) ∧ Below w.heap.size w w' := by
  have hf' := hf
  simp only [field, Bool.and_eq_true, decide_eq_true_eq, Bool.not_eq_true', beq_eq_false_iff_ne] at hf'
  obtain ⟨⟨b1, b2⟩, b3⟩ := hf'
  have hz := (zero_of_info zrow).1
  go_enter Try.func17, Try.ntmps17
  go_wp2_with (first
    | (go_at_call 42; refine (refField_any _ _).mono ?_; rintro e x ⟨rfl, rfl⟩; rw [hf])
    | (refine wpList_load_row rfl 33 _ rfl w.heap.size rfl _ _ _ _ (h2_0 w _ _) Try.underlying33 rfl (hsz _) ?_)
    | (go_at_call 21; refine (refRight_any f _).mono ?_; rintro e x ⟨rfl, hb⟩; rw [hr]; have g0 := kept hb (h2_0 w _ _); have g1 := kept hb (h2_1 w _ _); have c0 := row_cell g0 n.toNat (by omega); have c1 : x.frozen? ⟨w.heap.size, n.toNat, none⟩ = false := frozen_of_row _ _ _ _ _ g0; have s0 := setCell_row true g0 (show n.toNat < 129 by omega); have s1 := (setCell_ne (n := n.toNat) (.bool true) (show w.heap.size + 1 ≠ w.heap.size by omega)).trans g1)
    | (refine wpList_load_row rfl 33 _ rfl w.heap.size rfl _ _ _ _ s0 Try.underlying33 rfl (hsz _) ?_)
    | (refine wpList_store_row rfl 33 _ _ rfl (w.heap.size + 1) _ rfl rfl _ _ s1 (hsz _) (by rw [rowC_size, rowC_size]) (rowC_one _) ?_))
  exact bodyPost_ret (v := .tuple #[.agg (rowC (upd f n.toNat true)), .int .i64 0]) (res_row_tmp (fn := Try.f17) (p := 4) (u := 5) rfl _ _ (w.heap.size + 1) _ _ _ _ rfl (setRow_at s1 _) Try.underlying33 rfl (hsz _)) rfl ⟨rfl, below_setRow ((keepB (below_two w _ _) hb).setCell (Nat.le_refl _) _) (by simp) _⟩
set_option maxRecDepth 100000 in
set_option maxHeartbeats 1600000 in
theorem refWith_bad (f : Nat → Bool) (n : Int) (hn : (field n && (!f 1 && !f 65)) = false) (w : World) : Calls Try.prog 17 #[.agg (rowC f), .int .i64 n] w fun e w' => e = .returned (.tuple #[.agg (rowC fun _ => false), .int .i64 1]) ∧ Below w.heap.size w w' := by
  have hz := (zero_of_info zrow).1
  cases hf : field n <;> cases hr : (!f 1 && !f 65)
  case true.true => rw [hf, hr] at hn; cases hn
  all_goals
    go_enter Try.func17, Try.ntmps17
    go_wp2_with (first
      | (refine wpList_zrow rfl rfl ?_)
      | (go_at_call 42; refine (refField_any _ _).mono ?_; rintro e x ⟨rfl, rfl⟩; rw [hf])
      | (refine wpList_load_row rfl 33 _ rfl w.heap.size rfl _ _ _ _ (h2_0 w _ _) Try.underlying33 rfl (hsz _) ?_)
      | (go_at_call 21; refine (refRight_any f _).mono ?_; rintro e x ⟨rfl, hb⟩; rw [hr]; have g1 := kept hb (h2_1 w _ _))
      | (refine wpList_store_row rfl 33 _ _ rfl (w.heap.size + 1) (rowC fun _ => false) rfl rfl _ _ g1 (hsz fun _ => false) rfl (rowC_one fun _ => false) ?_))
    exact bodyPost_ret (v := .tuple #[.agg (rowC fun _ => false), .int .i64 1]) (res_row_tmp (fn := Try.f17) (p := 4) (u := 5) rfl _ _ (w.heap.size + 1) _ _ _ _ rfl (setRow_at g1 _) Try.underlying33 rfl (hsz _)) rfl ⟨rfl, below_setRow (keepB (below_two w _ _) hb) (by simp) _⟩
/-- Without's row -/
def withoutF (f : Nat → Bool) (n : Int) : Nat → Bool := if field n then upd f n.toNat false else f
set_option maxRecDepth 100000 in
set_option maxHeartbeats 1600000 in
theorem refWithout_any (f : Nat → Bool) (n : Int) (w : World) : Calls Try.prog 19 #[.agg (rowC f), .int .i64 n] w fun e w' => e = .returned (.agg (rowC (withoutF f n))) ∧ Below w.heap.size w w' := by
  have hz := (zero_of_info zrow).1
  cases hf : field n
  · rw [withoutF, hf]
    have g0 := h2_0 w (Obj.cells (rowC f) 33) (Obj.cells (rowC fun _ => false) 33)
    have g1 := h2_1 w (Obj.cells (rowC f) 33) (Obj.cells (rowC fun _ => false) 33)
    go_enter Try.func19, Try.ntmps19
    go_wp2_with (first
      | (go_at_call 42; refine (refField_any _ _).mono ?_; rintro e x ⟨rfl, rfl⟩; rw [hf])
      | (refine wpList_load_row rfl 33 _ rfl w.heap.size rfl _ _ _ _ g0 Try.underlying33 rfl (hsz f) ?_)
      | (refine wpList_store_row rfl 33 _ _ rfl (w.heap.size + 1) (rowC f) rfl rfl _ _ g1 (hsz f) (by rw [rowC_size, rowC_size]) (rowC_one f) ?_))
    exact bodyPost_ret (v := .agg (rowC f)) (results_cell_row rfl _ _ (w.heap.size + 1) _ _ _ _ rfl (setRow_at g1 _) Try.underlying33 rfl (hsz _)) rfl ⟨rfl, below_setRow (below_two w _ _) (by simp) _⟩
  · have hf' := hf
    simp only [field, Bool.and_eq_true, decide_eq_true_eq, Bool.not_eq_true', beq_eq_false_iff_ne] at hf'
    obtain ⟨⟨b1, b2⟩, b3⟩ := hf'
    rw [withoutF, hf, if_pos rfl]
    have k1 := rowC_get f n.toNat (by omega)
    have e1 : (rowC f).setIfInBounds n.toNat (.bool false) = rowC (upd f n.toNat false) := rowC_set f _ _ (by omega)
    generalize hu : upd f n.toNat false = f' at *
    go_enter Try.func19, Try.ntmps19
    go_wp2_with (first
      | (go_at_call 42; refine (refField_any _ _).mono ?_; rintro e x ⟨rfl, rfl⟩; rw [hf])
      | (refine wpList_load_row rfl 33 _ rfl w.heap.size rfl _ _ _ _ (h2_0 w _ _) Try.underlying33 rfl (hsz f') ?_)
      | (refine wpList_store_row rfl 33 _ _ rfl (w.heap.size + 1) (rowC f') rfl rfl _ _ (h2_1 w _ _) (hsz f') (by rw [rowC_size, rowC_size]) (rowC_one f') ?_))
    trace_state
    exact bodyPost_ret (v := .agg (rowC f')) (results_cell_row rfl _ _ (w.heap.size + 1) _ _ _ _ rfl (setRow_at (h2_1 w _ _) _) Try.underlying33 rfl (hsz _)) rfl ⟨rfl, below_setRow (below_two w _ _) (by simp) _⟩
end Go.Proofs.Ytiepchghlopfnaa.Bx
