/- Tick: the first loop. -/
import Derived.Test.YtgchdjjafgkcbaaPm
namespace Go.Proofs.Ytgchdjjafgkcbaa.Pn
set_option linter.unusedVariables false
set_option linter.unusedSimpArgs false
open Go.RowKit Go.Maps Lib0 Kb Xp Za Ze Ih Fh Hh Pa Pb Pc Pe Pf Pg Pl Pm
attribute [local go_sem] Oper.semAt_some
attribute [local irreducible] Pb.nl Pb.kl
def ptr (x : XQ) : Value := .pointer (some ⟨x.2.2.1, 0, none⟩)
theorem filter_tx (L : List XQ) (now : Int) : (L.map tx).filter (fun x => x.2.1 == now + 1) = (L.filter (dueX now)).map tx := by
  rw [List.filter_map]; rfl
theorem filter_tx2 (L : List XQ) (now : Int) : (L.map tx).filter (fun x => !(x.2.1 == now + 1)) = (L.filter (fun x => !dueX now x)).map tx := by
  rw [List.filter_map]; rfl
theorem thgs_tx (L : List XQ) : Jh.thgs (L.map tx) = L.map ptr := by
  unfold Jh.thgs
  rw [List.map_map]; rfl
theorem cell_ptr {w : World} {lo : Nat} {o : Option Addr} {n cap : Nat} {E : List XQ} (h : w.ownsRow lo Jh.tT 1 (.slice o n cap) E.length (E.map ptr)) {i : Nat} (hi : i < E.length) : ∃ g, o = some ⟨g, 0, none⟩ ∧ w.cell? ⟨g, i, none⟩ = some (ptr E[i]) := by
  obtain ⟨g, c2, e, -, -⟩ := h.form (by omega)
  injection e with e1 e2 e3
  refine ⟨g, e1, ?_⟩
  subst e1
  have := h.cells (g := g) rfl i (ptr E[i]) (by simp [hi])
  rwa [add_zero] at this
/-- the first loop: i of those that are over are forgotten -/
structure J1 (w wr : World) (base b wb rb kb hb : Nat) (Bw Br : Nat → Prop) (ck ch : Nat) (Dk : DataW Value) (C : Cf) (S : St) (E : List XQ) (v gv : Value) (i : Nat) : Prop where
  tm : ∃ Dh, Tm wr base b wb rb kb hb Bw Br ck ch Dk Dh C S.old (S.LW.map tx) ((S.LR.filter (fun x => !dueX S.now x)).map tx) S.now (S.now + 1) S.lw S.lr ∧ Mt Dk Dh (KPs S.LW) (fun k q => HPs (S.LW ++ S.LR) k q ∧ ∀ x ∈ E.take i, nl q ≠ nl x.2.2.2)
  hw : ∀ x ∈ S.LW, Hd wr base x.2.2.1 x.2.2.2 x.1 false
  hr : ∀ x ∈ S.LR, Hd wr base x.2.2.1 x.2.2.2 x.1 true
  gone : Lst wr base w.heap.size gv ((E.take i).map (·.2.2.2))
  row : wr.ownsRow w.heap.size Jh.tT 1 v E.length (E.map ptr)
  kt : Kt w wr
  bel : Below base w wr
  bas : base ≤ w.heap.size
section
variable {w wr y z1 : World} {base b wb rb kb hb : Nat} {Bw Br : Nat → Prop} {ck ch : Nat} {Dk Dh : DataW Value} {C : Cf} {S : St} {E : List XQ} {v gv : Value} {i : Nat}
theorem J1.step (h : J1 w wr base b wb rb kb hb Bw Br ck ch Dk C S E v gv i) (hi : i < E.length) (hE : ∀ x ∈ E, x ∈ S.LR)
    (hM : Mt Dk Dh (KPs S.LW) (fun k q => HPs (S.LW ++ S.LR) k q ∧ ∀ x ∈ E.take i, nl q ≠ nl x.2.2.2))
    (hT : Tm y base b wb rb kb hb Bw Br ck ch Dk (Dh.del (nl E[i].2.2.2)) C S.old (S.LW.map tx) ((S.LR.filter (fun x => !dueX S.now x)).map tx) S.now (S.now + 1) S.lw S.lr)
    {v1 v2 : Value} (h1 : y.ownsRow base tF 3 v1 E[i].2.2.2.L1.length (fc E[i].2.2.2.L1)) (h2 : y.ownsRow base tF 3 v2 E[i].2.2.2.L2.length (fc E[i].2.2.2.L2)) (kx : Kx wr y) (bl : Below base wr y)
    {ps : List PT} (hps : ps.map Prod.fst = (E.take i).map (·.2.2.2)) (hown : wr.ownsRow w.heap.size tP 12 gv ps.length (pl ps)) (hrows : ∀ p ∈ ps, wr.ownsRow base tF 3 p.2.1 p.1.L1.length (fc p.1.L1) ∧ wr.ownsRow base tF 3 p.2.2 p.1.L2.length (fc p.1.L2))
    {gg cap : Nat} (ho : z1.ownsRow w.heap.size tP 12 (.slice (some ⟨gg, 0, none⟩) (ps.length + 1) cap) (ps.length + 1) (pl ps ++ (pcs E[i].2.2.2 v1 v2).toList)) (hg : (y.alloc (.cells (pcs E[i].2.2.2 v1 v2) tP)).grownBy z1 gv.ownBlock) :
    J1 w z1 base b wb rb kb hb Bw Br ck ch Dk C S E v (.slice (some ⟨gg, 0, none⟩) (ps.length + 1) cap) (i + 1) := by
  have hbz := below_one y (.cells (pcs E[i].2.2.2 v1 v2) tP)
  have kxz : Kx wr (y.alloc (.cells (pcs E[i].2.2.2 v1 v2) tP)) := kx.trans (Kx.of hbz)
  have hoz := Kx.rowP kxz hown
  have kg := kg_of hoz hg
  have htz := hT.below hbz
  have hb0 := htz.base_
  have ht : E.take (i + 1) = E.take i ++ [E[i]] := List.take_succ_eq_append_getElem hi
  refine ⟨⟨_, kg.tm hg.size htz, (hM.delH E[i].2.2.2).congr (fun r => Iff.rfl) (fun k q => ?_)⟩, fun x hx => kg.hd ((h.hw x hx).keep kxz), fun x hx => kg.hd ((h.hr x hx).keep kxz), ?_, kg.row (by decide) ?_, Kt.grown (h.kt.trans kxz.kt) hoz (Nat.le_refl _) hg, below_grown ((h.bel.trans bl).trans (hbz.mono hT.base_)) hoz h.bas hb0 hg, h.bas⟩
  · rw [ht]
    constructor
    · rintro ⟨⟨a, b⟩, c⟩
      refine ⟨a, fun x hx => ?_⟩
      rcases List.mem_append.1 hx with hx | hx
      · exact b x hx
      · rw [List.mem_singleton.1 hx]; exact c
    · rintro ⟨a, b⟩
      exact ⟨⟨a, fun x hx => b x (List.mem_append.2 (.inl hx))⟩, b E[i] (List.mem_append.2 (.inr (List.mem_singleton.2 rfl)))⟩
  · refine ⟨ps ++ [(E[i].2.2.2, v1, v2)], ?_, ?_, fun p hp => ?_⟩
    · rw [ht, List.map_append, List.map_append, hps]; rfl
    · rw [List.length_append, pl_append, pl_one]; exact ho
    · rcases List.mem_append.1 hp with hp | hp
      · exact ⟨kg.row (by decide) (kxz.row (hrows p hp).1), kg.row (by decide) (kxz.row (hrows p hp).2)⟩
      · rw [List.mem_singleton.1 hp]; exact ⟨kg.row (by decide) ((Kx.of hbz).row h1), kg.row (by decide) ((Kx.of hbz).row h2)⟩
  · refine own_keep h.row fun g hgg => ?_
    obtain ⟨c, hc⟩ := own_ty h.row hgg
    exact kxz.block g c _ _ hc (by decide) (by decide) (by decide) (by decide)
end
end Go.Proofs.Ytgchdjjafgkcbaa.Pn
