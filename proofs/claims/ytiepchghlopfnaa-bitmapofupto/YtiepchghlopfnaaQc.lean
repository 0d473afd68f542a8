/- Regions that draw their order, with calls that lay new blocks alone: one walk, in the order of the text. -/
import Derived.Test.YtiepchghlopfnaaLw
import Derived.Deep.QuietTactic
namespace Go.Proofs.Ytiepchghlopfnaa.Qc
set_option linter.unusedVariables false
open Go.RowKit Pla Bm Br

/-- the worlds behind x: below its size as x is -/
def Cl (x : World) : World → Prop := fun y => Below x.heap.size x y
theorem region_cl {P : Program} {id : Nat} {Q : Exit → Act → World → Prop} {a : Act} {x : World} {l : List Oper} (hm : P.follows .mixedOrders = true) (hB : Region.lexB .any l.toArray = true)
    (h : wpQuiet P l.toArray (Cl x) (fun a' => ∀ y, Cl x y → Q .normal a' y) l a) : (Code.region id l.toArray true).wp P Q a x :=
  wp_region_quiet (C := Cl x) hm hB ((Below.refl _ _).drew : Below x.heap.size x x.drew) (by simpa using h)
theorem q_row {P : Program} {ops : Array Oper} {o : Oper} {a : Act} {x : World} {K : Act → Prop} (hw : Region.wanted o (yielded ops a.tmps) = true) (ty : TypeId) (xo : Operand) (ho : o.op = .load ty xo)
    (g : Nat) (hx : a.eval xo = .pointer (some ⟨g, 0, none⟩)) (t : TypeId) (cs : Array Value) (fr : Nat × Nat) (d : TypeDesc) (hg : x.heap[g]? = some (.cells cs t fr))
    (hu : P.underlying ty = some d) (hd : (match d with | .struct _ | .array _ _ => true | _ => false) = true) (hi : (P.info? ty).map (·.size) = some cs.size)
    (h : K (a.put o.dst (.agg cs))) : if Region.wanted o (yielded ops a.tmps) then o.quiet P a (Cl x) K else K (a.put o.dst undef) := by
  rw [if_pos hw]
  refine ⟨.agg cs, fun y hy => ?_, h⟩
  unfold Oper.quietAt execOp
  have hl := run_loadVar_row (P := P) y g t ty cs fr d (kept hy hg) hu hd hi
  simp only [ho, hx, Instr.loadAt, Instr.sureAddr, Sem.run_bind, Sem.run_pure, Result.andThen_ok, hl]
  exact ⟨rfl, rfl⟩
theorem q_call {P : Program} {ops : Array Oper} {o : Oper} {a : Act} {x : World} {K : Act → Prop} {f : FuncId} {args : Array Value} {v : Value}
    (hc : ∀ y, Calls P f args y fun e y' => e = .returned v ∧ Below y.heap.size y y') (hw : Region.wanted o (yielded ops a.tmps) = true)
    (he : ∀ y, (execOp a.eval o).run P y = .ok (.enter f args) y)
    (h : K (a.put o.dst v)) : if Region.wanted o (yielded ops a.tmps) then o.quiet P a (Cl x) K else K (a.put o.dst undef) := by
  rw [if_pos hw]
  refine ⟨v, fun y hy => ?_, h⟩
  unfold Oper.quietAt
  rw [he y]
  exact ⟨rfl, (hc y).mono fun e y' hh => ⟨hh.1, keepB hy hh.2⟩⟩
theorem cl_of {P : Program} {f : FuncId} {args : Array Value} {x y : World} {v : Value} (hy : Cl x y) (h : Calls P f args y fun e y' => e = .returned v ∧ Below y.heap.size y y') :
    Calls P f args y fun e y' => e = .returned v ∧ Cl x y' := h.mono fun e y' hh => ⟨hh.1, keepB hy hh.2⟩
theorem cl_same {P : Program} {f : FuncId} {args : Array Value} {x y : World} {v : Value} (hy : Cl x y) (h : Calls P f args y fun e y' => e = .returned v ∧ y' = y) :
    Calls P f args y fun e y' => e = .returned v ∧ Cl x y' := h.mono fun e y' hh => ⟨hh.1, hh.2 ▸ hy⟩
end Go.Proofs.Ytiepchghlopfnaa.Qc
