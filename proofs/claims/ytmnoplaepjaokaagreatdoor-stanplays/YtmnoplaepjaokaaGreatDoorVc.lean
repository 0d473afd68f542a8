/- StanPlays: two rows of numbers beside one another. -/
import Derived.Test.YtmnoplaepjaokaaGreatDoorVb
import Derived.Test.YtmnoplaepjaokaaGreatDoorQt
namespace Go.Proofs.YtmnoplaepjaokaaGreatDoor.Vc
set_option linter.unusedVariables false
set_option linter.unusedSimpArgs false
open Go.RowKit Lib0 Kb Xp Ya Yb Yc Yd Yf Yg Zk Va Vb
abbrev tN2 : TypeId := 26
abbrev tR2 : TypeId := 28
abbrev Q4 := Option (Nat × Nat × Nat × Nat)
def FD : Q4 → Nat → Prop
  | none => fun _ => False
  | some (b, d, rb, rd) => F4 b d rb rd
def nA : Q4 → Option Addr
  | none => none
  | some (b, d, rb, rd) => some ⟨b, 0, none⟩
def rA : Q4 → Option Addr
  | none => none
  | some (b, d, rb, rd) => some ⟨rb, 0, none⟩
def Pv (w y : World) : Q4 → Prop
  | none => True
  | some (b, d, rb, rd) => ∃ S, Tw w y b d rb rd S
structure Pl (w y : World) (nb rb0 : Nat) (D0 D1 : Q4) : Prop where
  nB : y.heap[nb]? = some (.cells #[.pointer (nA D0), .pointer (nA D1)] tN2)
  rB : y.heap[rb0]? = some (.cells #[.pointer (rA D0), .pointer (rA D1)] tR2)
  p0 : Pv w y D0
  p1 : Pv w y D1
  ap : ∀ g, FD D0 g → ¬ FD D1 g
  bel : Below w.heap.size w y
  n0 : w.heap.size ≤ nb
  r0 : w.heap.size ≤ rb0
theorem Pv.below {w y x : World} {D : Q4} (h : Pv w y D) (k : Below y.heap.size y x) : Pv w x D := by
  match D, h with
  | none, _ => trivial
  | some (b, d, rb, rd), ⟨S, h⟩ => exact ⟨S, h.below k⟩
theorem Pv.lo {w y : World} {D : Q4} (h : Pv w y D) : ∀ g, FD D g → w.heap.size ≤ g ∧ g < y.heap.size := by
  match D, h with
  | none, _ => intro g hg; cases hg
  | some (b, d, rb, rd), ⟨S, h⟩ => exact fun g hg => ⟨h.lo g hg, h.lt g hg⟩
theorem Pv.keep {w y x : World} {D : Q4} (h : Pv w y D) (k : ∀ g, FD D g → x.heap[g]? = y.heap[g]?) (hb : Below w.heap.size w x) : Pv w x D := by
  match D, h with
  | none, _ => trivial
  | some (b, d, rb, rd), ⟨S, h⟩ =>
    obtain ⟨W, hn⟩ := h.kn.nm
    exact ⟨S, ⟨⟨W, Yd.Nm.keep hn (k b (.inl rfl)) (k d (.inr (.inl rfl)))⟩, hb, h.kn.b0, h.kn.d0, h.kn.tb⟩, h.rm.keep (k rb (.inr (.inr (.inl rfl)))) (k rd (.inr (.inr (.inr rfl)))), h.ok, h.r0, h.r1⟩
/-- no block of a pair holds cells of these types -/
theorem Pv.ne {w y : World} {D : Q4} (h : Pv w y D) {g : Nat} {c : Array Value} {t : TypeId} {fr : Nat × Nat} (hg : y.heap[g]? = some (.cells c t fr)) (h1 : t ≠ tN) (h2 : t ≠ tU) (h3 : t ≠ tR) (h4 : t ≠ tB) : ¬ FD D g := by
  match D, h with
  | none, _ => exact fun h => h
  | some (b, d, rb, rd), ⟨S, h⟩ =>
    obtain ⟨W, hn⟩ := h.kn.nm
    rintro (e | e | e | e)
    · exact ty_ne hg hn.blk h1 e
    · exact ty_ne hg hn.row h2 e
    · exact ty_ne hg h.rm.blk h3 e
    · exact ty_ne hg h.rm.row h4 e
section
variable {w y x : World} {nb rb0 : Nat} {D0 D1 : Q4}
theorem Pl.below (h : Pl w y nb rb0 D0 D1) (k : Below y.heap.size y x) : Pl w x nb rb0 D0 D1 :=
  ⟨kept k h.nB, kept k h.rB, h.p0.below k, h.p1.below k, h.ap, keepB h.bel k, h.n0, h.r0⟩
theorem Pl.cells (h : Pl w y nb rb0 D0 D1) : (y.cell? ⟨nb, 0, none⟩ = some (.pointer (nA D0)) ∧ y.cell? ⟨nb, 1, none⟩ = some (.pointer (nA D1))) ∧ (y.cell? ⟨rb0, 0, none⟩ = some (.pointer (rA D0)) ∧ y.cell? ⟨rb0, 1, none⟩ = some (.pointer (rA D1))) ∧ (∀ k, y.frozen? ⟨nb, k, none⟩ = false) ∧ ∀ k, y.frozen? ⟨rb0, k, none⟩ = false := by
  have a := h.nB; have b := h.rB
  exact ⟨⟨by simp [World.cell?, a], by simp [World.cell?, a]⟩, ⟨by simp [World.cell?, b], by simp [World.cell?, b]⟩, fun k => frozen_of_row y _ _ _ _ a, fun k => frozen_of_row y _ _ _ _ b⟩
theorem Pl.ne (h : Pl w y nb rb0 D0 D1) : nb ≠ rb0 := ty_ne h.nB h.rB (by decide)
/-- one call on the first pair -/
theorem Pl.call0 (h : Pl w y nb rb0 D0 D1) (hp : Pv w x D0) (hf : FrP (FD D0) y x) : Pl w x nb rb0 D0 D1 := by
  have hb : Below w.heap.size w x := bl_fr h.bel hf (fun g hg => (h.p0.lo g hg).1)
  exact ⟨(hf.block _ (Array.getElem?_eq_some_iff.1 h.nB).1 (h.p0.ne h.nB (by decide) (by decide) (by decide) (by decide))).trans h.nB, (hf.block _ (Array.getElem?_eq_some_iff.1 h.rB).1 (h.p0.ne h.rB (by decide) (by decide) (by decide) (by decide))).trans h.rB, hp, h.p1.keep (fun g hg => hf.block g (h.p1.lo g hg).2 (fun e => h.ap g e hg)) hb, h.ap, hb, h.n0, h.r0⟩
theorem Pl.call1 (h : Pl w y nb rb0 D0 D1) (hp : Pv w x D1) (hf : FrP (FD D1) y x) : Pl w x nb rb0 D0 D1 := by
  have hb : Below w.heap.size w x := bl_fr h.bel hf (fun g hg => (h.p1.lo g hg).1)
  exact ⟨(hf.block _ (Array.getElem?_eq_some_iff.1 h.nB).1 (h.p1.ne h.nB (by decide) (by decide) (by decide) (by decide))).trans h.nB, (hf.block _ (Array.getElem?_eq_some_iff.1 h.rB).1 (h.p1.ne h.rB (by decide) (by decide) (by decide) (by decide))).trans h.rB, h.p0.keep (fun g hg => hf.block g (h.p0.lo g hg).2 (h.ap g hg)) hb, hp, h.ap, hb, h.n0, h.r0⟩
/-- a pair is laid into its place -/
theorem Pl.lay0 (h : Pl w y nb rb0 none none) {D : Q4} (hk : Below y.heap.size y x) (hp : Pv w x D) (hn : ∀ g, FD D g → y.heap.size ≤ g) : Pl w ((x.setCell ⟨nb, 0, none⟩ (.pointer (nA D))).setCell ⟨rb0, 0, none⟩ (.pointer (rA D))) nb rb0 D none := by
  have hx := h.below hk
  have hne := h.ne
  have b1 : Below w.heap.size w ((x.setCell ⟨nb, 0, none⟩ (.pointer (nA D))).setCell ⟨rb0, 0, none⟩ (.pointer (rA D))) := (hx.bel.setCell h.n0 _).setCell h.r0 _
  refine ⟨(setCell_ne (p := ⟨rb0, 0, none⟩) (fun e => hne e.symm) _).trans (setCell_heap hx.nB 0 _), setCell_heap ((setCell_ne (p := ⟨nb, 0, none⟩) hne _).trans hx.rB) 0 _, hp.keep (fun g hg => ?_) b1, trivial, fun g _ e => e, b1, h.n0, h.r0⟩
  have l1 := (Array.getElem?_eq_some_iff.1 h.nB).1
  have l2 := (Array.getElem?_eq_some_iff.1 h.rB).1
  have := hn g hg
  rw [setCell_ne (p := ⟨rb0, 0, none⟩) (by show rb0 ≠ g; omega), setCell_ne (p := ⟨nb, 0, none⟩) (by show nb ≠ g; omega)]
theorem Pl.lay1 (h : Pl w y nb rb0 D0 none) {D : Q4} (hk : Below y.heap.size y x) (hp : Pv w x D) (hn : ∀ g, FD D g → y.heap.size ≤ g) : Pl w ((x.setCell ⟨nb, 1, none⟩ (.pointer (nA D))).setCell ⟨rb0, 1, none⟩ (.pointer (rA D))) nb rb0 D0 D := by
  have hx := h.below hk
  have hne := h.ne
  have b1 : Below w.heap.size w ((x.setCell ⟨nb, 1, none⟩ (.pointer (nA D))).setCell ⟨rb0, 1, none⟩ (.pointer (rA D))) := (hx.bel.setCell h.n0 _).setCell h.r0 _
  have l1 := (Array.getElem?_eq_some_iff.1 h.nB).1
  have l2 := (Array.getElem?_eq_some_iff.1 h.rB).1
  have kk : ∀ g, g ≠ nb → g ≠ rb0 → ((x.setCell ⟨nb, 1, none⟩ (.pointer (nA D))).setCell ⟨rb0, 1, none⟩ (.pointer (rA D))).heap[g]? = x.heap[g]? := fun g e1 e2 => by
    rw [setCell_ne (p := ⟨rb0, 1, none⟩) (fun e => e2 e.symm), setCell_ne (p := ⟨nb, 1, none⟩) (fun e => e1 e.symm)]
  have q1 := hx.p0.ne hx.nB (by decide) (by decide) (by decide) (by decide)
  have q2 := hx.p0.ne hx.rB (by decide) (by decide) (by decide) (by decide)
  refine ⟨(setCell_ne (p := ⟨rb0, 1, none⟩) (fun e => hne e.symm) _).trans (setCell_heap hx.nB 1 _), setCell_heap ((setCell_ne (p := ⟨nb, 1, none⟩) hne _).trans hx.rB) 1 _, hx.p0.keep (fun g hg => kk g (fun e => q1 (e ▸ hg)) (fun e => q2 (e ▸ hg))) b1, hp.keep (fun g hg => kk g (by have := hn g hg; omega) (by have := hn g hg; omega)) b1, fun g hg hg2 => ?_, b1, h.n0, h.r0⟩
  have := (h.p0.lo g hg).2
  have := hn g hg2
  omega
end
/-- both are made of a number -/
def Mk (w y x : World) (v : Int) (D : Q4) : Prop := (D = none ↔ isNum v = false) ∧ Pv w x D ∧ (∀ g, FD D g → y.heap.size ≤ g)
end Go.Proofs.YtmnoplaepjaokaaGreatDoor.Vc
