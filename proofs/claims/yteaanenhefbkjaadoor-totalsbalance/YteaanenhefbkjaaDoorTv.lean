/- TotalsCount: what its walk wants besides. -/
import Derived.Test.YteaanenhefbkjaaDoorTu

import Derived.OwnWalk
namespace Go.Proofs.YteaanenhefbkjaaDoor.Tv
set_option linter.unusedVariables false
set_option linter.unusedSimpArgs false
open Go.RowKit Lib0 Kb Xp Ic Ta Hp Hr Ht Hu Hx Tb Tc Td Te Tf Tg Tn Num Chars Tj Tk Tl Tp Tr Tu
attribute [local go_sem] Oper.semAt_some
abbrev tCo : TypeId := 28
theorem run_loadVar_at {P : Program} (w : World) (p : Addr) (ty : TypeId) (cs : List Value) (d : TypeDesc) (hc : ∀ j v, cs[j]? = some v → w.cell? (p.add j) = some v)
    (hu : P.underlying ty = some d) (hd : d.isRow = true) (hi : (P.info? ty).map (·.size) = some cs.length) :
    (loadVar ty p).run P w = .ok (.agg cs.toArray) w := by
  have hl : (loadCells p cs.length).run P w = .ok cs.toArray w := run_loadCells_list (P := P) w p cs hc
  cases hq : P.info? ty with
  | none => simp [hq] at hi
  | some i =>
    have hs : i.size = cs.length := by simpa [hq] using hi
    have hagg : (isAgg ty).run P w = .ok true w := by
      unfold isAgg
      rw [Sem.run_bind, run_underlying hu w]
      cases d <;> simp_all
    simp [loadVar, Sem.run_bind, hagg, sizeOf, typeInfo, hq, hs, hl]
theorem q_at {P : Program} {ops : Array Oper} {o : Oper} {a : Act} {x : World} {K : Act → Prop} (hw : Region.wanted o (yielded ops a.tmps) = true) (ty : TypeId) (xo : Operand) (ho : o.op = .load ty xo)
    (p : Addr) (hx : a.eval xo = .pointer (some p)) (cs : List Value) (hc : ∀ j v, cs[j]? = some v → x.cell? (p.add j) = some v) (d : TypeDesc) (hu : P.underlying ty = some d) (hd : d.isRow = true) (hi : (P.info? ty).map (·.size) = some cs.length)
    (h : K (a.put o.dst (.agg cs.toArray))) : if Region.wanted o (yielded ops a.tmps) then o.quiet P a (Ql.Cl x) K else K (a.put o.dst undef) := by
  rw [if_pos hw]
  refine ⟨.agg cs.toArray, fun y hy => ?_, h⟩
  unfold Oper.quietAt execOp
  have hl := run_loadVar_at (P := P) y p ty cs d (fun j v hv => (Below.cell hy (World.block_lt_of_cell? x _ (hc j v hv))).trans (hc j v hv)) hu hd hi
  simp only [ho, hx, Instr.loadAt, Instr.sureAddr, Sem.run_bind, Sem.run_pure, Result.andThen_ok, hl]
  exact ⟨rfl, rfl⟩
set_option maxRecDepth 100000 in
theorem equal_co (f : Nat → Int) (w : World) : (Op.equalIn 10000 tCo (.agg (ta f)) (.agg (ta f))).run Tryd.prog w = .ok true w := by
  unfold ta
  go_simp
theorem q_neq {ops : Array Oper} {o : Oper} {a : Act} {x : World} {K : Act → Prop} (hw : Region.wanted o (yielded ops a.tmps) = true) (xo yo : Operand) (t2 : TypeId) (ho : o.op = .binOp .neq tCo xo yo t2)
    (cs : Array Value) (hx : a.eval xo = .agg cs) (hy : a.eval yo = .agg cs) (he : ∀ w, (Op.equalIn 10000 tCo (.agg cs) (.agg cs)).run Tryd.prog w = .ok true w)
    (h : K (a.put o.dst (.bool false))) : if Region.wanted o (yielded ops a.tmps) then o.quiet Tryd.prog a (Ql.Cl x) K else K (a.put o.dst undef) := by
  rw [if_pos hw]
  refine ⟨.bool false, fun y hy' => ?_, h⟩
  have hm : Tryd.prog.eqGuardType Tryd.prog.depth tCo = false := by kernel_rfl
  unfold Oper.quietAt execOp
  simp [ho, hx, hy, run_eqGuard_agg, hm, run_neq_struct, he, Result.andThen, Oper.quietUpon]
/-- a row of counts of the law's own -/
structure Rw (x : World) (base g n : Nat) (F : Nat → Nat → Int) : Prop where
  rows : ∀ k, k < n → x.rangeAt g (k * 12) (ta (F k)).toList
  there : ∀ k, k < n → x.there g (k * 12) 12
  lowg : base ≤ g
  ltg : g < x.heap.size
theorem Rw.below {x y : World} {base g n : Nat} {F : Nat → Nat → Int} (h : Rw x base g n F) (k : Below x.heap.size x y) : Rw y base g n F :=
  ⟨fun i hi j v hv => (k.cell h.ltg).trans (h.rows i hi j v hv), fun i hi j hj => by
    have h1 := h.there i hi j hj
    have h2 := k.block g h.ltg
    exact ⟨by rw [show y.cell? ⟨g, i * 12 + j, none⟩ = x.cell? ⟨g, i * 12 + j, none⟩ from k.cell h.ltg]; exact h1.1, by have h3 := h1.2; unfold World.frozen? at h3 ⊢; rw [h2]; exact h3⟩, h.lowg, Nat.lt_of_lt_of_le h.ltg k.size⟩
theorem rw_store {x : World} {base g n : Nat} {F : Nat → Nat → Int} (h : Rw x base g n F) (k : Nat) (hk : k < n) (f : Nat → Int) : Rw (x.setCells g (k * 12) (ta f).toList) base g n (updF F k f) := by
  have hl : ∀ f : Nat → Int, (ta f).toList.length = 12 := fun _ => rfl
  refine ⟨fun i hi => ?_, fun i hi => World.there_setCells (h.there i hi) _ _ _, h.lowg, Nat.lt_of_lt_of_le h.ltg (setCells_size ..)⟩
  unfold updF
  by_cases e : i = k
  · subst e
    rw [if_pos rfl]
    exact World.rangeAt_setCells_same x g (i * 12) (ta f).toList (by rw [hl]; exact h.there i hi)
  · rw [if_neg e]
    exact World.rangeAt_setCells_apart (h.rows i hi) g (k * 12) (ta f).toList (.inr (by rw [hl, hl]; omega))
theorem infoC : ∃ i, Tryd.prog.info? tCo = some i ∧ i.zero = some (.agg (ta fun _ => 0)) ∧ i.size = 12 ∧ i.bytes = 96 := by
  have h : (Tryd.prog.info? tCo).map (fun i => (i.zero, i.size, i.bytes)) = some (some (.agg (ta fun _ => 0)), 12, 96) := by kernel_rfl
  cases e : Tryd.prog.info? tCo with
  | none => rw [e] at h; cases h
  | some i => rw [e] at h; simp at h; exact ⟨i, rfl, h.1, h.2.1, h.2.2⟩
theorem rw_made {w x : World} {n : Nat} (hn : 0 < n ∧ n ≤ 32) (ho : x.ownsRow w.heap.size tCo 12 (.slice (some ⟨w.heap.size, 0, none⟩) n n) n (madeCells (Value.agg (ta fun _ => 0)).cells (n * 12)).toList) (hg : w.grownBy x none) : Rw x w.heap.size w.heap.size n (fun _ _ => 0) ∧ Below w.heap.size w x := by
  have hlt := (ho.lt w.heap.size rfl).2
  have hb : Below w.heap.size w x := (Below.refl _ _).grown hg (Nat.le_refl _) (fun k hk => by cases hk)
  have hc : ∀ j, j < n * 12 → x.cell? ⟨w.heap.size, j, none⟩ = some (.int .i64 0) := fun j hj => by
    have := ho.cells (g := w.heap.size) rfl j _ (made_at (n * 12) j hj)
    rw [add_zero] at this
    exact this
  obtain ⟨cc, hcc⟩ := own_ty ho rfl
  refine ⟨⟨fun k hk j v hv => ?_, fun k hk j hj => ⟨by rw [hc _ (by omega)]; rfl, by simp [World.frozen?, hcc]⟩, Nat.le_refl _, hlt⟩, hb⟩
  have hj : j < 12 := (List.getElem?_eq_some_iff.1 hv).1
  have : v = .int .i64 0 := by
    have h9 : (ta fun _ => 0).toList[j]? = some (.int .i64 0) := by
      have := ta_at (fun _ => 0) j hj
      rw [← Array.getElem?_toList] at this
      exact this
    rw [h9] at hv
    exact (Option.some.inj hv).symm
  rw [this]
  exact hc _ (by omega)
end Go.Proofs.YteaanenhefbkjaaDoor.Tv
