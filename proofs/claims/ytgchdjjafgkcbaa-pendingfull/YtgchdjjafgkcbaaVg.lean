/- Table.All: what holds along the range. -/
import Derived.Test.YtgchdjjafgkcbaaVf
namespace Go.Proofs.Ytgchdjjafgkcbaa.Vg
set_option linter.unusedVariables false
set_option linter.unusedSimpArgs false
open Go.RowKit Go.Maps Go.Shelf Lib0 Kb Xp Za Ze Ih Fh Hh Va Vb Vc Vd Ve Vf Pa Pb Pc Pe Pf Pg Pl
abbrev tSP : TypeId := 53
def Old (y : World) (b : Nat) (W : World) : Prop := y.heap.size ≤ W.heap.size ∧ ∀ g, g < y.heap.size → g ≠ b → W.heap[g]? = y.heap[g]?
theorem lst_rows {x y : World} {base lo : Nat} {u : Value} {qs : List Rq} (h : Lst x base lo u qs) (k : ∀ (g : Nat) (c : Array Value) (t : TypeId) (fr : Nat × Nat), (t = tP ∨ t = tF) → x.heap[g]? = some (.cells c t fr) → y.heap[g]? = x.heap[g]?) : Lst y base lo u qs := by
  obtain ⟨ps, h1, h2, h3⟩ := h.row
  refine ⟨ps, h1, own_keep h2 fun g hg => ?_, fun p hp => ⟨own_keep (h3 p hp).1 fun g hg => ?_, own_keep (h3 p hp).2 fun g hg => ?_⟩⟩
  · obtain ⟨c, hc⟩ := own_ty h2 hg
    exact k g _ _ _ (.inl rfl) hc
  · obtain ⟨c, hc⟩ := own_ty (h3 p hp).1 hg
    exact k g _ _ _ (.inr rfl) hc
  · obtain ⟨c, hc⟩ := own_ty (h3 p hp).2 hg
    exact k g _ _ _ (.inr rfl) hc
def IA (w y : World) (lb : Nat) (Q : List Rq) (pre : List T3) (W : World) : Prop := ∃ lv, W.heap[lb]? = some (.cells #[lv] tSP) ∧ Lst W y.heap.size y.heap.size lv (Q.take pre.length) ∧ Old y lb W ∧ Below w.heap.size w W
theorem IA_own {w y : World} {lb : Nat} {Q : List Rq} (hw : w.heap.size ≤ y.heap.size) : OwnFrom y.heap.size (fun pre W => IA w y lb Q pre W) := fun s A B row hs hg hr => by
  obtain ⟨lv, a1, a2, a3, a4⟩ := hs
  refine ⟨lv, cells_grown hg (fun r e => (hr r e).2) a1, lst_rows a2 fun g c t fr _ hc => ?_, ⟨Nat.le_trans a3.1 hg.size, fun g h1 h2 => ?_⟩, a4.grown hg a4.size (fun k e => by have := (hr k e).1; omega)⟩
  · rw [cells_grown hg (fun r e => (hr r e).2) hc, hc]
  · exact (hg.block g (Nat.lt_of_lt_of_le h1 a3.1) (fun e => by have := (hr g e.symm).1; omega)).trans (a3.2 g h1 h2)
theorem IA_step {w y W W1 w1 : World} {lb : Nat} {Q : List Rq} {pre : List T3} {x : T3} {r : Rq} {lv v' u1 u2 : Value} {ps : List PT} (hw : w.heap.size ≤ lb) (hlb : lb < y.heap.size) (a1 : W.heap[lb]? = some (.cells #[lv] tSP)) (hps : ps.map Prod.fst = Q.take pre.length) (a2 : W.ownsRow y.heap.size tP 12 lv ps.length (pl ps))
    (a2p : ∀ p ∈ ps, W.ownsRow y.heap.size tF 3 p.2.1 p.1.L1.length (fc p.1.L1) ∧ W.ownsRow y.heap.size tF 3 p.2.2 p.1.L2.length (fc p.1.L2)) (a3 : Old y lb W) (a4 : Below w.heap.size w W)
    (kb : Below W.heap.size W W1) (o1 : W1.ownsRow y.heap.size tF 3 u1 r.L1.length (fc r.L1)) (o2 : W1.ownsRow y.heap.size tF 3 u2 r.L2.length (fc r.L2)) (hQ : Q[pre.length]? = some r)
    (h1 : w1.ownsRow y.heap.size tP 12 v' (ps.length + 1) (pl ps ++ (pcs r u1 u2).toList)) (h2 : W1.grownBy w1 lv.ownBlock) :
    KeepsFrom y.heap.size W (w1.setCell ⟨lb, 0, none⟩ v') ∧ KL W (w1.setCell ⟨lb, 0, none⟩ v') ∧ IA w y lb Q (pre ++ [x]) (w1.setCell ⟨lb, 0, none⟩ v') := by
  have hne : ∀ g, lv.ownBlock = some g → y.heap.size ≤ g := fun g hg => (a2.lt g hg).1
  have e1 : w1.heap[lb]? = some (.cells #[lv] tSP) := gk h2 (kept kb a1) (fun e => by have := hne lb e; omega)
  have hty : ∀ q, lv.ownBlock = some q → ∃ c t fr, W1.heap[q]? = some (.cells c t fr) ∧ t ≠ tL := fun q hq => by
    obtain ⟨c, hc⟩ := own_ty a2 hq
    exact ⟨c, tP, (0, 0), kept kb hc, by decide⟩
  have hrow : ∀ {u : Value} {n : Nat} {xs : List Value}, W1.ownsRow y.heap.size tF 3 u n xs → (w1.setCell ⟨lb, 0, none⟩ v').ownsRow y.heap.size tF 3 u n xs := fun {u n xs} ho => own_keep ho fun g hg => by
    obtain ⟨c, hc⟩ := own_ty ho hg
    have hge := (ho.lt g hg).1
    rw [setCell_ne (p := ⟨lb, 0, none⟩) (fun e : lb = g => by omega) v']
    refine (gk h2 hc (fun e => ?_)).trans hc.symm
    obtain ⟨c2, hc2⟩ := own_ty a2 e
    rw [kept kb hc2] at hc
    injection hc with hc
    injection hc with _ hc
    exact absurd hc (by decide)
  refine ⟨?_, ?_, v', ?_, ⟨ps ++ [(r, u1, u2)], ?_, ?_, ?_⟩, ?_, ?_⟩
  · refine ((kf_below kb).trans (kf_grown h2 fun q hq => ?_)).trans (kf_set e1 0 v')
    obtain ⟨c, t, fr, h, _⟩ := hty q hq
    exact ⟨c, t, fr, h⟩
  · exact kl_t (kl_t (kl_below kb) (kl_grown h2 hty)) (kl_set e1 (by decide) 0 v')
  · rw [setCell_heap e1]; rfl
  · rw [List.map_append, hps, List.length_append, List.length_singleton, List.take_add_one, hQ]; rfl
  · rw [List.length_append, pl_append, pl_one]
    refine own_keep h1 fun g hg => setCell_ne (p := ⟨lb, 0, none⟩) (fun e : lb = g => ?_) v'
    have := (h1.lt g hg).1
    omega
  · intro p hp
    rcases List.mem_append.1 hp with hp | hp
    · obtain ⟨b1, b2⟩ := a2p p hp
      exact ⟨hrow (own_keep b1 fun g hg => by obtain ⟨c, hc⟩ := own_ty b1 hg; exact (kept kb hc).trans hc.symm), hrow (own_keep b2 fun g hg => by obtain ⟨c, hc⟩ := own_ty b2 hg; exact (kept kb hc).trans hc.symm)⟩
    · rw [List.mem_singleton.1 hp]
      exact ⟨hrow o1, hrow o2⟩
  · refine ⟨?_, fun g hg hg2 => ?_⟩
    · rw [setCell_size]
      exact Nat.le_trans a3.1 (Nat.le_trans kb.size h2.size)
    · rw [setCell_ne (p := ⟨lb, 0, none⟩) (fun e : lb = g => hg2 e.symm) v']
      have hgW : g < W.heap.size := Nat.lt_of_lt_of_le hg a3.1
      exact (h2.block g (Nat.lt_of_lt_of_le hgW kb.size) (fun e => by have := hne g e.symm; omega)).trans ((kb.block g hgW).trans (a3.2 g hg hg2))
  · exact ((keepB a4 kb).grown h2 (by have := a4.size; have := kb.size; omega) (fun k hk => by have := hne k hk; omega)).setCell (p := ⟨lb, 0, none⟩) (by simp; omega) v'
end Go.Proofs.Ytgchdjjafgkcbaa.Vg
