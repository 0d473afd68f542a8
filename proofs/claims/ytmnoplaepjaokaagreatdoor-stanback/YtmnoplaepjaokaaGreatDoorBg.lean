/- StanBack: what holds between its statements. -/
import Derived.Test.YtmnoplaepjaokaaGreatDoorBf
import Derived.Test.YtmnoplaepjaokaaGreatDoorZk
import Derived.Test.YtmnoplaepjaokaaGreatDoorZl
namespace Go.Proofs.YtmnoplaepjaokaaGreatDoor.Bg
set_option linter.unusedVariables false
set_option linter.unusedSimpArgs false
open Go.RowKit Go.Maps Lib0 Kb Xp Ic Ix If Ig Za Zb Zc Zd Ze Zg Zh Ba Bb Bc Bd Be Bf
theorem fldT_of (n : Int) (h : Zh.isF n = true) : fldT n = true := by
  have hb : 2 ≤ n ∧ n ≤ 128 := by simp [Zh.isF] at h; omega
  have key : ∀ k : Fin 129, Zh.isF ((k.val : Nat) : Int) = true → fldT ((k.val : Nat) : Int) = true := by decide +kernel
  have e : n = ((n.toNat : Nat) : Int) := by omega
  rw [e] at h ⊢
  exact key ⟨n.toNat, by omega⟩ h
abbrev m0 : ByteArray := ⟨#[48, 50, 48, 48]⟩
abbrev m1 : ByteArray := ⟨#[48, 50, 49, 48]⟩
theorem ml_fo (raw : List Int) (val : ByteArray) (h : val.size ≤ 2000) : Fo (ml raw val 127) :=
  ⟨Nat.le_trans (ml_len raw val 127) (by decide), fun x hx => by obtain ⟨h1, h2, -, -⟩ := ml_mem raw val 127 x hx; omega, fun x hx => by rw [(ml_mem raw val 127 x hx).2.2.2]; omega⟩
theorem ml_snF (raw : List Int) (val : ByteArray) : snF 0 (ml raw val 127) = true :=
  snF_of (ml_up raw val 127) (fun x hx => by have := (ml_mem raw val 127 x hx).1; omega) (fun x hx => fldT_of _ (ml_mem raw val 127 x hx).2.2.1)
theorem rt0 : Hr.rt m0 = true := by decide +kernel
theorem rt1 : Hr.rt m1 = true := by decide +kernel
section
variable {w x : World} {b mb : Nat} {z : List Int} {kf : KF} {sz c : Nat}
theorem fr_cell (h : Ec w b mb z kf sz c) (k : FrP (fun g => g = mb) w x) {p : Addr} {u : Value} (hp : w.cell? p = some u) : x.cell? p = some u := by
  obtain ⟨fv, D, hE⟩ := h
  obtain ⟨es, cl, e1, -⟩ := hE.own
  have hne : p.block ≠ mb := fun e => by
    rw [World.cell?, e, e1] at hp; cases hp
  have hb := k.block p.block (World.block_lt_of_cell? w _ hp) hne
  rw [World.cell?] at hp ⊢
  rw [hb]; exact hp
theorem fr_rowf (h : Ec w b mb z kf sz c) (k : FrP (fun g => g = mb) w x) {v : Value} {L : List Fl} (hr : RowF w v L) : RowF x v L := by
  obtain ⟨o, cap, e, hc⟩ := hr
  refine ⟨o, cap, e, fun i hi => ?_⟩
  obtain ⟨a, ea, c0, c1, c2⟩ := hc i hi
  exact ⟨a, ea, fr_cell h k c0, fr_cell h k c1, fr_cell h k c2⟩
theorem fr_rowi (h : Ec w b mb z kf sz c) (k : FrP (fun g => g = mb) w x) {v : Value} {L : List Int} (hr : RowI w v L) : RowI x v L := by
  obtain ⟨o, cap, e, hc⟩ := hr
  refine ⟨o, cap, e, fun i hi => ?_⟩
  obtain ⟨a, ea, c0⟩ := hc i hi
  exact ⟨a, ea, fr_cell h k c0⟩
theorem fr_blk (h : Ec w b mb z kf sz c) (k : FrP (fun g => g = mb) w x) {g : Nat} {cs : Array Value} {t : TypeId} (hg : w.heap[g]? = some (.cells cs t)) : x.heap[g]? = some (.cells cs t) := by
  obtain ⟨fv, D, hE⟩ := h
  obtain ⟨es, cl, e1, -⟩ := hE.own
  refine (k.block g (Array.getElem?_eq_some_iff.1 hg).1 (fun e => ?_)).trans hg
  rw [e, e1] at hg; cases hg
theorem Ec.below (h : Ec w b mb z kf sz c) (k : Below w.heap.size w x) : Ec x b mb z kf sz c := by
  obtain ⟨fv, D, hE⟩ := h
  exact ⟨fv, D, hE.below k⟩
end
/-- the Echo, the fields' row and both messages, each in its box -/
structure Bk (w0 w : World) (b mb gm gx : Nat) (lv vm vx : Value) (z : List Int) (kf : KF) (sz c : Nat) (m x : List Fl) : Prop where
  ec : Ec w b mb z kf sz c
  row : RowI w lv z
  bm : w.heap[gm]? = some (.cells #[.string m0, vm] tG)
  bx : w.heap[gx]? = some (.cells #[.string m1, vx] tG)
  mm : Ms w m0 vm m
  mx : Ms w m1 vx x
  bel : Below w0.heap.size w0 w
  mbl : w0.heap.size ≤ mb
section
variable {w0 w y : World} {b mb gm gx : Nat} {lv vm vx : Value} {z : List Int} {kf kf' : KF} {sz sz' c c' : Nat} {m x : List Fl}
theorem Bk.below (h : Bk w0 w b mb gm gx lv vm vx z kf sz c m x) (k : Below w.heap.size w y) : Bk w0 y b mb gm gx lv vm vx z kf sz c m x :=
  ⟨Ec.below h.ec k, rowi_below h.row k, kept k h.bm, kept k h.bx, h.mm.below k, h.mx.below k, keepB h.bel k, h.mbl⟩
theorem Bk.turn (h : Bk w0 w b mb gm gx lv vm vx z kf sz c m x) (k : FrP (fun g => g = mb) w y) (he : Ec y b mb z kf' sz' c') : Bk w0 y b mb gm gx lv vm vx z kf' sz' c' m x :=
  ⟨he, fr_rowi h.ec k h.row, fr_blk h.ec k h.bm, fr_blk h.ec k h.bx, ⟨h.mm.mti, fr_rowf h.ec k h.mm.row, h.mm.fo⟩, ⟨h.mx.mti, fr_rowf h.ec k h.mx.row, h.mx.fo⟩, ⟨k.os.trans h.bel.os, k.tape.trans h.bel.tape, k.output.trans h.bel.output, Nat.le_trans h.bel.size k.size, fun g hg => (k.block g (Nat.lt_of_lt_of_le hg h.bel.size) (fun e => by have := h.mbl; omega)).trans (h.bel.block g hg)⟩, h.mbl⟩
theorem Bk.cells (h : Bk w0 w b mb gm gx lv vm vx z kf sz c m x) : (w.cell? ⟨gm, 0, none⟩ = some (.string m0) ∧ w.cell? ⟨gm, 1, none⟩ = some vm) ∧ (w.cell? ⟨gx, 0, none⟩ = some (.string m1) ∧ w.cell? ⟨gx, 1, none⟩ = some vx) := by
  have e1 := h.bm
  have e2 := h.bx
  exact ⟨⟨by simp [World.cell?, e1], by simp [World.cell?, e1]⟩, ⟨by simp [World.cell?, e2], by simp [World.cell?, e2]⟩⟩
end
end Go.Proofs.YtmnoplaepjaokaaGreatDoor.Bg
