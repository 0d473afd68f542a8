/- Small words on rows. -/
import Derived.Test.YtiepchghlopfnabBm
import Derived.Deep.WholeRow
import Derived.Great.BuildSlice
namespace Go.Proofs.Ytiepchghlopfnab.Br
open Go.RowKit
theorem setRow_at {w : World} {g : Nat} {c : Array Value} {t : TypeId} {fr : Nat × Nat} (h : w.heap[g]? = some (.cells c t fr)) (c' : Array Value) : (w.setRow g c').heap[g]? = some (.cells c' t fr) := by
  show (w.heap.modify g _)[g]? = _
  rw [Array.getElem?_modify]; simp [h]
theorem setRow_ne {w : World} {g k : Nat} (h : g ≠ k) (c' : Array Value) : (w.setRow g c').heap[k]? = w.heap[k]? := by
  show (w.heap.modify g _)[k]? = _
  rw [Array.getElem?_modify]; simp [h]
theorem below_setRow {B : Nat} {a w : World} (h : Below B a w) {g : Nat} (hg : B ≤ g) (c' : Array Value) : Below B a (w.setRow g c') :=
  ⟨h.os, h.tape, h.output, by have := h.size; simpa [World.setRow] using this, fun k hk => (setRow_ne (by omega) c').trans (h.block k hk)⟩
end Go.Proofs.Ytiepchghlopfnab.Br
namespace Go.Proofs.Ytiepchghlopfnab.Bv
theorem here : True := trivial
end Go.Proofs.Ytiepchghlopfnab.Bv
namespace Go.Proofs.Ytiepchghlopfnab.Bw
theorem here : True := trivial
end Go.Proofs.Ytiepchghlopfnab.Bw
namespace Go.Proofs.Ytiepchghlopfnab.Bx
open Go.RowKit
theorem res_row_tmp {P : Program} {fn : Func} {p u : Tmp} {ty : TypeId} (h : fn.results = #[.cell p ty, .tmp u]) (tmps : Array Value) (w : World) (g : Nat) (t : TypeId) (cs : Array Value) (fr : Nat × Nat) (d : TypeDesc)
    (hp : tmps.getD p undef = .pointer (some ⟨g, 0, none⟩)) (hg : w.heap[g]? = some (.cells cs t fr))
    (hu : P.underlying ty = some d) (hd : (match d with | .struct _ | .array _ _ => true | _ => false) = true) (hi : (P.info? ty).map (·.size) = some cs.size) :
    (results fn tmps).run P w = .ok (.tuple #[.agg cs, tmps.getD u undef]) w := by
  rw [results_cell_tmp h, hp]
  simp only [asAddr, Sem.run_pure, Result.andThen_ok, run_loadVar_row w g t ty cs fr d hg hu hd hi]
theorem setCell_ne {x : World} {g k n : Nat} (v : Value) (h : k ≠ g) : (x.setCell ⟨g, n, none⟩ v).heap[k]? = x.heap[k]? := Below.heap_setCell x ⟨g, n, none⟩ v k h
end Go.Proofs.Ytiepchghlopfnab.Bx
