import Derived.Test.YtgchdjjafgkcbaaQf19
/- Tick: the first loop. -/
namespace Go.Proofs.Ytgchdjjafgkcbaa.Pn
set_option linter.unusedVariables false
set_option linter.unusedSimpArgs false
open Go.RowKit Go.Maps Lib0 Kb Xp Za Ze Ih Fh Hh Pa Pb Pc Pe Pf Pg Pl Pm
attribute [local go_sem] Oper.semAt_some
attribute [local irreducible] Pb.nl Pb.kl
def ptr (x : XQ) : Value := .pointer (some ⟨x.2.2.1, 0, none⟩)
theorem filter_tx (L : List XQ) (now : Int) : (L.map tx).filter (fun x => x.2.1 == now + 1) = (L.filter (dueX now)).map tx := by
  rw [List.filter_map]; rfl
theorem filter_tx2 (L : List XQ) (now : Int) : (L.map tx).filter (fun x => !(x.2.1 == now + 1)) = (L.filter (fun x => !dueX now x)).map tx := by
  rw [List.filter_map]; rfl
theorem thgs_tx (L : List XQ) : Jh.thgs (L.map tx) = L.map ptr := by
  unfold Jh.thgs
  rw [List.map_map]; rfl
theorem cell_ptr {w : World} {lo : Nat} {o : Option Addr} {n cap : Nat} {E : List XQ} (h : w.ownsRow lo Jh.tT 1 (.slice o n cap) E.length (E.map ptr)) {i : Nat} (hi : i < E.length) : ∃ g, o = some ⟨g, 0, none⟩ ∧ w.cell? ⟨g, i, none⟩ = some (ptr E[i]) := by
  obtain ⟨g, c2, e, -, -⟩ := h.form (by omega)
  injection e with e1 e2 e3
  refine ⟨g, e1, ?_⟩
  subst e1
  have := h.cells (g := g) rfl i (ptr E[i]) (by simp [hi])
  rwa [add_zero] at this
/-- the first loop: i of those that are over are forgotten -/
structure J1 (w wr : World) (base b wb rb kb hb : Nat) (Bw Br : Nat → Prop) (ck ch : Nat) (Dk : DataW Value) (C : Cf) (S : St) (E : List XQ) (v gv : Value) (i : Nat) : Prop where
  tm : ∃ Dh, Tm wr base b wb rb kb hb Bw Br ck ch Dk Dh C S.old (S.LW.map tx) ((S.LR.filter (fun x => !dueX S.now x)).map tx) S.now (S.now + 1) S.lw S.lr ∧ Mt Dk Dh (KPs S.LW) (fun k q => HPs (S.LW ++ S.LR) k q ∧ ∀ x ∈ E.take i, nl q ≠ nl x.2.2.2)
  hw : ∀ x ∈ S.LW, Hd wr base x.2.2.1 x.2.2.2 x.1 false
  hr : ∀ x ∈ S.LR, Hd wr base x.2.2.1 x.2.2.2 x.1 true
  gone : Lst wr base w.heap.size gv ((E.take i).map (·.2.2.2))
  row : wr.ownsRow w.heap.size Jh.tT 1 v E.length (E.map ptr)
  kt : Kt w wr
  bel : Below base w wr
  bas : base ≤ w.heap.size
section
variable {w wr y z1 : World} {base b wb rb kb hb : Nat} {Bw Br : Nat → Prop} {ck ch : Nat} {Dk Dh : DataW Value} {C : Cf} {S : St} {E : List XQ} {v gv : Value} {i : Nat}
theorem J1.step (h : J1 w wr base b wb rb kb hb Bw Br ck ch Dk C S E v gv i) (hi : i < E.length) (hE : ∀ x ∈ E, x ∈ S.LR)
    (hM : Mt Dk Dh (KPs S.LW) (fun k q => HPs (S.LW ++ S.LR) k q ∧ ∀ x ∈ E.take i, nl q ≠ nl x.2.2.2))
    (hT : Tm y base b wb rb kb hb Bw Br ck ch Dk (Dh.del (nl E[i].2.2.2)) C S.old (S.LW.map tx) ((S.LR.filter (fun x => !dueX S.now x)).map tx) S.now (S.now + 1) S.lw S.lr)
    {v1 v2 : Value} (h1 : y.ownsRow base tF 3 v1 E[i].2.2.2.L1.length (fc E[i].2.2.2.L1)) (h2 : y.ownsRow base tF 3 v2 E[i].2.2.2.L2.length (fc E[i].2.2.2.L2)) (kx : Kx wr y) (bl : Below base wr y)
    {ps : List PT} (hps : ps.map Prod.fst = (E.take i).map (·.2.2.2)) (hown : wr.ownsRow w.heap.size tP 12 gv ps.length (pl ps)) (hrows : ∀ p ∈ ps, wr.ownsRow base tF 3 p.2.1 p.1.L1.length (fc p.1.L1) ∧ wr.ownsRow base tF 3 p.2.2 p.1.L2.length (fc p.1.L2))
    {gg cap : Nat} (ho : z1.ownsRow w.heap.size tP 12 (.slice (some ⟨gg, 0, none⟩) (ps.length + 1) cap) (ps.length + 1) (pl ps ++ (pcs E[i].2.2.2 v1 v2).toList)) (hg : (y.alloc (.cells (pcs E[i].2.2.2 v1 v2) tP)).grownBy z1 gv.ownBlock) :
    J1 w z1 base b wb rb kb hb Bw Br ck ch Dk C S E v (.slice (some ⟨gg, 0, none⟩) (ps.length + 1) cap) (i + 1) := by
  have hbz := below_one y (.cells (pcs E[i].2.2.2 v1 v2) tP)
  have kxz : Kx wr (y.alloc (.cells (pcs E[i].2.2.2 v1 v2) tP)) := kx.trans (Kx.of hbz)
  have hoz := Kx.rowP kxz hown
  have kg := kg_of hoz hg
  have htz := hT.below hbz
  have hb0 := htz.base_
  have ht : E.take (i + 1) = E.take i ++ [E[i]] := List.take_succ_eq_append_getElem hi
  refine ⟨⟨_, kg.tm hg.size htz, (hM.delH E[i].2.2.2).congr (fun r => Iff.rfl) (fun k q => ?_)⟩, fun x hx => kg.hd ((h.hw x hx).keep kxz), fun x hx => kg.hd ((h.hr x hx).keep kxz), ?_, kg.row (by decide) ?_, Kt.grown (h.kt.trans kxz.kt) hoz (Nat.le_refl _) hg, below_grown ((h.bel.trans bl).trans (hbz.mono hT.base_)) hoz h.bas hb0 hg, h.bas⟩
  · rw [ht]
    constructor
    · rintro ⟨⟨a, b⟩, c⟩
      refine ⟨a, fun x hx => ?_⟩
      rcases List.mem_append.1 hx with hx | hx
      · exact b x hx
      · rw [List.mem_singleton.1 hx]; exact c
    · rintro ⟨a, b⟩
      exact ⟨⟨a, fun x hx => b x (List.mem_append.2 (.inl hx))⟩, b E[i] (List.mem_append.2 (.inr (List.mem_singleton.2 rfl)))⟩
  · refine ⟨ps ++ [(E[i].2.2.2, v1, v2)], ?_, ?_, fun p hp => ?_⟩
    · rw [ht, List.map_append, List.map_append, hps]; rfl
    · rw [List.length_append, pl_append, pl_one]; exact ho
    · rcases List.mem_append.1 hp with hp | hp
      · exact ⟨kg.row (by decide) (kxz.row (hrows p hp).1), kg.row (by decide) (kxz.row (hrows p hp).2)⟩
      · rw [List.mem_singleton.1 hp]; exact ⟨kg.row (by decide) ((Kx.of hbz).row h1), kg.row (by decide) ((Kx.of hbz).row h2)⟩
  · refine own_keep h.row fun g hgg => ?_
    obtain ⟨c, hc⟩ := own_ty h.row hgg
    exact kxz.block g c _ _ hc (by decide) (by decide) (by decide) (by decide)
end
end Go.Proofs.Ytgchdjjafgkcbaa.Pn
/- Tick: what stands along the second loop. -/
namespace Go.Proofs.Ytgchdjjafgkcbaa.Po
set_option linter.unusedVariables false
set_option linter.unusedSimpArgs false
open Go.RowKit Go.Maps Lib0 Kb Xp Za Ze Ih Fh Hh Pa Pb Pc Pe Pf Pg Pl Pm Pn
attribute [local irreducible] Pb.nl Pb.kl
structure Zs (w wr : World) (base b wb rb kb hb ck ch : Nat) (C : Cf) (now lw : Int) (XW : LT) (KL Q R : List XQ) (lr old : Int) (ls gs : List Rq) (lv gv : Value) (F : List XQ) (v : Value) : Prop where
  tm : ∃ Bw Br Dk Dh, Tm wr base b wb rb kb hb Bw Br ck ch Dk Dh C old XW (R.map tx) now now lw lr ∧ Mt Dk Dh (KPs KL) (HPs (Q ++ R))
  hq : ∀ x ∈ Q, Hd wr base x.2.2.1 x.2.2.2 x.1 false
  hr : ∀ x ∈ R, Hd wr base x.2.2.1 x.2.2.2 x.1 true
  late : Lst wr base w.heap.size lv ls
  gone : Lst wr base w.heap.size gv gs
  apart : ∀ k, lv.ownBlock = some k → gv.ownBlock ≠ some k
  row : wr.ownsRow w.heap.size Jh.tT 1 v F.length (F.map ptr)
  kt : Kt w wr
  bel : Below base w wr
  bas : base ≤ w.heap.size
theorem Kx.rowH {w x : World} (h : Kx w x) {lo n : Nat} {v : Value} {xs : List Value} (ho : w.ownsRow lo Jh.tT 1 v n xs) : x.ownsRow lo Jh.tT 1 v n xs := own_keep ho fun g hg => by
  obtain ⟨c, hc⟩ := own_ty ho hg
  exact h.block g c _ _ hc (by decide) (by decide) (by decide) (by decide)
theorem Kt.rowH {w x : World} (h : Kt w x) {lo n : Nat} {v : Value} {xs : List Value} (ho : w.ownsRow lo Jh.tT 1 v n xs) : x.ownsRow lo Jh.tT 1 v n xs := own_keep ho fun g hg => by
  obtain ⟨c, hc⟩ := own_ty ho hg
  exact h.block g c _ _ hc (by decide) (by decide) (by decide) (by decide) (by decide)
theorem own_lt' {w : World} {lo e size n : Nat} {v : Value} {xs : List Value} (h : w.ownsRow lo e size v n xs) {g : Nat} (hg : v.ownBlock = some g) : g < w.heap.size := by
  obtain ⟨c, hc⟩ := own_ty h hg
  exact (Array.getElem?_eq_some_iff.1 hc).1
section
variable {w wr y z1 : World} {base b wb rb kb hb ck ch : Nat} {Bw Br : Nat → Prop} {Dk Dh : DataW Value} {C : Cf} {now lw : Int} {XW : LT} {KL Q R : List XQ} {lr old : Int} {ls gs : List Rq} {lv gv : Value} {F : List XQ} {v : Value}
theorem Zs.below (h : Zs w wr base b wb rb kb hb ck ch C now lw XW KL Q R lr old ls gs lv gv F v) (k : Below wr.heap.size wr y) : Zs w y base b wb rb kb hb ck ch C now lw XW KL Q R lr old ls gs lv gv F v := by
  obtain ⟨Bw, Br, Dk, Dh, h1, h2⟩ := h.tm
  have kx := Kx.of k
  exact ⟨⟨Bw, Br, Dk, Dh, h1.below k, h2⟩, fun x hx => (h.hq x hx).keep kx, fun x hx => (h.hr x hx).keep kx, h.late.keep kx.kt, h.gone.keep kx.kt, h.apart, Kx.rowH kx h.row, h.kt.trans kx.kt, h.bel.trans (k.mono h1.base_), h.bas⟩
/-- a late one is told -/
theorem Zs.tell (h : Zs w wr base b wb rb kb hb ck ch C now lw XW KL Q R lr old ls gs lv gv F v) (hb1 : Below wr.heap.size wr y) {r : Rq} {v1 v2 : Value} (h1 : y.ownsRow base tF 3 v1 r.L1.length (fc r.L1)) (h2 : y.ownsRow base tF 3 v2 r.L2.length (fc r.L2))
    {ps : List PT} (hps : ps.map Prod.fst = ls) (hown : wr.ownsRow w.heap.size tP 12 lv ps.length (pl ps)) (hrows : ∀ p ∈ ps, wr.ownsRow base tF 3 p.2.1 p.1.L1.length (fc p.1.L1) ∧ wr.ownsRow base tF 3 p.2.2 p.1.L2.length (fc p.1.L2))
    {gg cap : Nat} (ho : z1.ownsRow w.heap.size tP 12 (.slice (some ⟨gg, 0, none⟩) (ps.length + 1) cap) (ps.length + 1) (pl ps ++ (pcs r v1 v2).toList)) (hg : (y.alloc (.cells (pcs r v1 v2) tP)).grownBy z1 lv.ownBlock) (hat : lv.ownBlock = some gg ∨ gg = (y.alloc (.cells (pcs r v1 v2) tP)).heap.size) :
    Zs w z1 base b wb rb kb hb ck ch C now lw XW KL Q R lr old (ls ++ [r]) gs (.slice (some ⟨gg, 0, none⟩) (ps.length + 1) cap) gv F v := by
  have hbz : Below wr.heap.size wr (y.alloc (.cells (pcs r v1 v2) tP)) := keepB hb1 (below_one y _)
  have hz := h.below hbz
  have kxz := Kx.of hbz
  have kxy := Kx.of (below_one y (.cells (pcs r v1 v2) tP))
  have hoz := Kx.rowP kxz hown
  have kg := kg_of hoz hg
  obtain ⟨Bw, Br, Dk, Dh, t1, t2⟩ := hz.tm
  refine ⟨⟨Bw, Br, Dk, Dh, kg.tm hg.size t1, t2⟩, fun x hx => kg.hd (hz.hq x hx), fun x hx => kg.hd (hz.hr x hx), ?_, hz.gone.other hoz hg (fun k hk e => h.apart k e hk), fun k hk e => ?_, kg.row (by decide) hz.row, Kt.grown hz.kt hoz (Nat.le_refl _) hg, below_grown hz.bel hoz h.bas t1.base_ hg, h.bas⟩
  · refine ⟨ps ++ [(r, v1, v2)], ?_, ?_, fun p hp => ?_⟩
    · rw [List.map_append, hps]; rfl
    · rw [List.length_append, pl_append, pl_one]; exact ho
    · rcases List.mem_append.1 hp with hp | hp
      · exact ⟨kg.row (by decide) (kxz.row (hrows p hp).1), kg.row (by decide) (kxz.row (hrows p hp).2)⟩
      · rw [List.mem_singleton.1 hp]; exact ⟨kg.row (by decide) (kxy.row h1), kg.row (by decide) (kxy.row h2)⟩
  · have hk2 : gg = k := by simpa [Value.ownBlock] using hk
    subst hk2
    rcases hat with hat | hat
    · exact h.apart gg hat e
    · obtain ⟨ps2, -, hp2, -⟩ := hz.gone.row
      have := own_lt' hp2 e
      omega
/-- its key waits no more -/
theorem Zs.key (h : Zs w wr base b wb rb kb hb ck ch C now lw XW KL Q R lr old ls gs lv gv F v) (t1 : Tm wr base b wb rb kb hb Bw Br ck ch Dk Dh C old XW (R.map tx) now now lw lr) (t2 : Mt Dk Dh (KPs KL) (HPs (Q ++ R))) {r : Rq} (ho : y.ownsMap Try.prog tK unitElem kb ck (Dk.del (kl r))) (ht : wr.mapTurned y kb) {KL' : List XQ} (hk : ∀ q, (KPs KL q ∧ kl q ≠ kl r) ↔ KPs KL' q) :
    Zs w y base b wb rb kb hb ck ch C now lw XW KL' Q R lr old ls gs lv gv F v := by
  have kx := kx_of_map ht
  exact ⟨⟨Bw, Br, _, Dh, t1.key ho ht, (t2.delK r).congr hk (fun _ _ => Iff.rfl)⟩, fun x hx => (h.hq x hx).keep kx, fun x hx => (h.hr x hx).keep kx, h.late.keep kx.kt, h.gone.keep kx.kt, h.apart, Kx.rowH kx h.row, h.kt.trans kx.kt, h.bel.trans (turned_below ht t1.low.2.1 t1.base_), h.bas⟩
/-- it is remembered -/
theorem Zs.rem {x : XQ} (h : Zs w wr base b wb rb kb hb ck ch C now lw XW KL (x :: Q) R lr old ls gs lv gv F v) (t2 : Mt Dk Dh (KPs KL) (HPs (x :: Q ++ R))) {Br' : Nat → Prop} (t1 : Tm y base b wb rb kb hb Bw Br' ck ch Dk Dh C old XW (R.map tx ++ [(lr + 1, now + C.late, .pointer (some ⟨x.2.2.1, 0, none⟩))]) now now lw (lr + 1)) (hd : Hd y base x.2.2.1 x.2.2.2 (lr + 1) true) (kt : Kt wr y) (ko : Ko base x.2.2.1 wr y) (bl : Below base wr y) (hne : ∀ z ∈ Q ++ R, z.2.2.1 ≠ x.2.2.1) :
    Zs w y base b wb rb kb hb ck ch C now lw XW KL Q (R ++ [(lr + 1, now + C.late, x.2.2.1, x.2.2.2)]) (lr + 1) old ls gs lv gv F v := by
  refine ⟨⟨Bw, Br', Dk, Dh, ?_, t2.congr (fun _ => Iff.rfl) (fun k q => ?_)⟩, fun z hz => ko _ _ _ _ (hne z (List.mem_append.2 (.inl hz))) (h.hq z (List.mem_cons_of_mem _ hz)), fun z hz => ?_, h.late.keep kt, h.gone.keep kt, h.apart, Kt.rowH kt h.row, h.kt.trans kt, h.bel.trans bl, h.bas⟩
  · rw [List.map_append]; exact t1
  · constructor
    · rintro ⟨z, hz, e⟩
      rcases List.mem_append.1 hz with hz | hz
      · rcases List.mem_cons.1 hz with rfl | hz
        · exact ⟨_, List.mem_append.2 (.inr (List.mem_append.2 (.inr (List.mem_singleton.2 rfl)))), e⟩
        · exact ⟨z, List.mem_append.2 (.inl hz), e⟩
      · exact ⟨z, List.mem_append.2 (.inr (List.mem_append.2 (.inl hz))), e⟩
    · rintro ⟨z, hz, e⟩
      rcases List.mem_append.1 hz with hz | hz
      · exact ⟨z, List.mem_append.2 (.inl (List.mem_cons_of_mem _ hz)), e⟩
      · rcases List.mem_append.1 hz with hz | hz
        · exact ⟨z, List.mem_append.2 (.inr hz), e⟩
        · rw [List.mem_singleton.1 hz] at e; exact ⟨x, List.mem_append.2 (.inl (List.mem_cons_self ..)), e⟩
  · rcases List.mem_append.1 hz with hz | hz
    · exact ko _ _ _ _ (hne z (List.mem_append.2 (.inr hz))) (h.hr z hz)
    · rw [List.mem_singleton.1 hz]; exact hd
/-- the oldest is forgotten -/
theorem Zs.drop {x : XQ} (h : Zs w wr base b wb rb kb hb ck ch C now lw XW KL Q (x :: R) lr old ls gs lv gv F v) (t2 : Mt Dk Dh (KPs KL) (HPs (Q ++ x :: R))) (t1 : Tm y base b wb rb kb hb Bw Br ck ch Dk (Dh.del (nl x.2.2.2)) C x.1 XW (R.map tx) now now lw lr) {v1 v2 : Value} (h1 : y.ownsRow base tF 3 v1 x.2.2.2.L1.length (fc x.2.2.2.L1)) (h2 : y.ownsRow base tF 3 v2 x.2.2.2.L2.length (fc x.2.2.2.L2)) (kx : Kx wr y) (bl : Below base wr y) (hne : ∀ z ∈ Q ++ R, nl z.2.2.2 ≠ nl x.2.2.2)
    {ps : List PT} (hps : ps.map Prod.fst = gs) (hown : wr.ownsRow w.heap.size tP 12 gv ps.length (pl ps)) (hrows : ∀ p ∈ ps, wr.ownsRow base tF 3 p.2.1 p.1.L1.length (fc p.1.L1) ∧ wr.ownsRow base tF 3 p.2.2 p.1.L2.length (fc p.1.L2))
    {gg cap : Nat} (ho : z1.ownsRow w.heap.size tP 12 (.slice (some ⟨gg, 0, none⟩) (ps.length + 1) cap) (ps.length + 1) (pl ps ++ (pcs x.2.2.2 v1 v2).toList)) (hg : (y.alloc (.cells (pcs x.2.2.2 v1 v2) tP)).grownBy z1 gv.ownBlock) (hat : gv.ownBlock = some gg ∨ gg = (y.alloc (.cells (pcs x.2.2.2 v1 v2) tP)).heap.size) :
    Zs w z1 base b wb rb kb hb ck ch C now lw XW KL Q R lr x.1 ls (gs ++ [x.2.2.2]) lv (.slice (some ⟨gg, 0, none⟩) (ps.length + 1) cap) F v := by
  have hbz := below_one y (.cells (pcs x.2.2.2 v1 v2) tP)
  have kxy := Kx.of hbz
  have kxz := kx.trans kxy
  have hoz := Kx.rowP kxz hown
  have kg := kg_of hoz hg
  have t3 := t1.below hbz
  have hl := h.late.keep kxz.kt
  refine ⟨⟨Bw, Br, _, _, kg.tm hg.size t3, (t2.delH x.2.2.2).congr (fun _ => Iff.rfl) (fun k q => ?_)⟩, fun z hz => kg.hd ((h.hq z hz).keep kxz), fun z hz => kg.hd ((h.hr z (List.mem_cons_of_mem _ hz)).keep kxz), hl.other hoz hg (fun k hk e => h.apart k hk e), ?_, fun k hk e => ?_, kg.row (by decide) (Kx.rowH kxz h.row), Kt.grown (h.kt.trans kxz.kt) hoz (Nat.le_refl _) hg, below_grown ((h.bel.trans bl).trans (hbz.mono t1.base_)) hoz h.bas t3.base_ hg, h.bas⟩
  · constructor
    · rintro ⟨⟨z, hz, e1, e2⟩, e3⟩
      rcases List.mem_append.1 hz with hz | hz
      · exact ⟨z, List.mem_append.2 (.inl hz), e1, e2⟩
      · rcases List.mem_cons.1 hz with rfl | hz
        · exact absurd (by rw [e2]) e3
        · exact ⟨z, List.mem_append.2 (.inr hz), e1, e2⟩
    · rintro ⟨z, hz, e1, e2⟩
      refine ⟨⟨z, ?_, e1, e2⟩, by rw [← e2]; exact hne z hz⟩
      rcases List.mem_append.1 hz with hz | hz
      · exact List.mem_append.2 (.inl hz)
      · exact List.mem_append.2 (.inr (List.mem_cons_of_mem _ hz))
  · refine ⟨ps ++ [(x.2.2.2, v1, v2)], ?_, ?_, fun p hp => ?_⟩
    · rw [List.map_append, hps]; rfl
    · rw [List.length_append, pl_append, pl_one]; exact ho
    · rcases List.mem_append.1 hp with hp | hp
      · exact ⟨kg.row (by decide) (kxz.row (hrows p hp).1), kg.row (by decide) (kxz.row (hrows p hp).2)⟩
      · rw [List.mem_singleton.1 hp]; exact ⟨kg.row (by decide) (kxy.row h1), kg.row (by decide) (kxy.row h2)⟩
  · have hk2 : gg = k := by simpa [Value.ownBlock] using e
    subst hk2
    rcases hat with hat | hat
    · exact h.apart gg hk hat
    · obtain ⟨ps2, -, hp2, -⟩ := hl.row
      have := own_lt' (Kx.rowP kxy (Kx.rowP kx (h.late.row.choose_spec.2.1))) hk
      omega
end
end Go.Proofs.Ytgchdjjafgkcbaa.Po
