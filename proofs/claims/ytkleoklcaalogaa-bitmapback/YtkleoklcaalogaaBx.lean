/- The document's rows: With, Without. -/
import Derived.Test.YtkleoklcaalogaaBw
import Derived.Great.BuildSlice
namespace Go.Proofs.Ytkleoklcaalogaa.Bx
set_option linter.unusedVariables false
open Go.RowKit Pla Bm Br Bv Bw
theorem res_row_tmp {P : Program} {fn : Func} {p u : Tmp} {ty : TypeId} (h : fn.results = #[.cell p ty, .tmp u]) (tmps : Array Value) (w : World) (g : Nat) (t : TypeId) (cs : Array Value) (fr : Nat × Nat) (d : TypeDesc)
    (hp : tmps.getD p undef = .pointer (some ⟨g, 0, none⟩)) (hg : w.heap[g]? = some (.cells cs t fr))
    (hu : P.underlying ty = some d) (hd : (match d with | .struct _ | .array _ _ => true | _ => false) = true) (hi : (P.info? ty).map (·.size) = some cs.size) :
    (results fn tmps).run P w = .ok (.tuple #[.agg cs, tmps.getD u undef]) w := by
  rw [results_cell_tmp h, hp]
  simp only [asAddr, Sem.run_pure, Result.andThen_ok, run_loadVar_row w g t ty cs fr d hg hu hd hi]
theorem zbuilt : Try.prog.built 30 [] = some (rowC fun _ => false) := by kernel_rfl
theorem wpList_zrow {ops : Array Oper} {rest : List Oper} {o : Oper} {a : Act} {w : World} {Q : Exit → Act → World → Prop} (hg : o.guard = none) (ho : o.op = .build 30 #[])
    (h : wpList Try.prog ops Q rest (a.put o.dst (.agg (rowC fun _ => false))) w) : wpList Try.prog ops Q (o :: rest) a w := by
  refine wpList_build hg 30 #[] ho (by rw [Array.map_empty, zbuilt]; rfl) ?_
  rw [Array.map_empty, zbuilt]
  exact h
theorem setCell_row {x : World} {g n : Nat} {f : Nat → Bool} {t : TypeId} (b : Bool) (h : x.heap[g]? = some (.cells (rowC f) t (0, 0))) (hn : n < 129) : (x.setCell ⟨g, n, none⟩ (.bool b)).heap[g]? = some (.cells (rowC (upd f n b)) t (0, 0)) := by
  rw [heap_setCell_same x g _ _ t _ h, rowC_set _ _ _ hn]
theorem setCell_ne {x : World} {g k n : Nat} (v : Value) (h : k ≠ g) : (x.setCell ⟨g, n, none⟩ v).heap[k]? = x.heap[k]? := Below.heap_setCell x ⟨g, n, none⟩ v k h
theorem row_cell {x : World} {g : Nat} {f : Nat → Bool} {t : TypeId} {fr : Nat × Nat} (h : x.heap[g]? = some (.cells (rowC f) t fr)) (n : Nat) (hn : n < 129) : x.cell? ⟨g, n, none⟩ = some (.bool (f n)) := by
  rw [cell_of_row x g n _ t fr h, rowC_get _ _ hn]
/-- Without's row -/
def withoutF (f : Nat → Bool) (n : Int) : Nat → Bool := if field n then upd f n.toNat false else f
end Go.Proofs.Ytkleoklcaalogaa.Bx
