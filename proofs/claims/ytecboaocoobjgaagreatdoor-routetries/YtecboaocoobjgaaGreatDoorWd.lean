/- RouteTries: two tries, the document's, and what All answered. -/
import Derived.Test.YtecboaocoobjgaaGreatDoorDe
import Derived.Test.YtecboaocoobjgaaGreatDoorRj
namespace Go.Proofs.YtecboaocoobjgaaGreatDoor.Wd
set_option linter.unusedVariables false
set_option linter.unusedSimpArgs false
open Go.RowKit Go.Shelf Lib0 Kb Rp Rw Rs Li Mj Tj Kq Ra Da Db Dc Dd De
abbrev tW : TypeId := 33
abbrev tP : TypeId := 25
def pA (b : Nat) : Value := .pointer (some ⟨b, 0, none⟩)
structure Wd (w y : World) (X : List Nat) (W : Nat) (t r u : Nat → Nat) (L : Nat → LT) : Prop where
  blk : y.heap[W]? = some (.cells #[pA (t 0), pA (t 1), pA (r 0), pA (r 1), fvA (u 0), fvA (u 1)] tW)
  tri : ∀ k, k < 2 → Tri y X (t k) (L k)
  row : ∀ k, k < 2 → ∃ v, y.heap[r k]? = some (.cells #[v] tTr) ∧ Cp v ∧ RowL y v (L k)
  fnb : ∀ k, k < 2 → y.heap[u k]? = some (.cells #[pA (t k)] tP)
  nt : ∀ j k, j < 2 → k < 2 → j ≠ k → t j ≠ t k
  nr : ∀ j k, j < 2 → k < 2 → j ≠ k → r j ≠ r k
  inX : ∀ k, k < 2 → r k ∈ X
  lo : ∀ x ∈ X, w.heap.size ≤ x
  bel : Below w.heap.size w y
theorem blk_ne {y : World} {a b : Nat} {c d : Array Value} {s t : TypeId} {f g : Nat × Nat} (h : y.heap[a]? = some (.cells c s f)) (k : y.heap[b]? = some (.cells d t g)) (n : s ≠ t) : a ≠ b := by
  rintro rfl
  rw [h] at k
  cases k
  exact n rfl
/-- no text lies in that block -/
def NoS (y : World) (b : Nat) : Prop := ∀ p : Addr, p.block = b → ∀ s, y.cell? p ≠ some (.string s)
theorem noS_tri {y : World} {X : List Nat} {b : Nat} {L : LT} (h : Tri y X b L) : NoS y b := by
  obtain ⟨T, h1, _⟩ := h.tree
  intro p hp s e
  subst hp
  simp only [World.cell?, h1] at e
  match ho : p.off with
  | 0 => rw [ho] at e; simp [ptr] at e
  | 1 => rw [ho] at e; simp at e
  | n + 2 => rw [ho] at e; simp at e
theorem noS_ref {y : World} {b : Nat} {v : Value} (h : y.heap[b]? = some (.cells #[v] tTr)) (hc : Cp v) : NoS y b := by
  obtain ⟨o, n, c, rfl, _⟩ := hc
  intro p hp s e
  subst hp
  simp only [World.cell?, h] at e
  match ho : p.off with
  | 0 => rw [ho] at e; simp at e
  | n + 1 => rw [ho] at e; simp at e
theorem add_blk (a : Addr) (n : Nat) : (a.add n).block = a.block := by unfold Addr.add; split <;> rfl
theorem row_fr {y x : World} {v : Value} {L : LT} {b : Nat} (h : RowL y v L) (n : NoS y b) (f : Fr [b] y x) : RowL x v L := by
  obtain ⟨o, cap, rfl, hn, hc⟩ := h
  refine ⟨o, cap, rfl, hn, fun i hi => ?_⟩
  obtain ⟨a, e, c0, c1⟩ := hc i hi
  have hne : a.block ≠ b := fun e2 => n (a.add (i * 2)) ((add_blk _ _).trans e2) _ c0
  have hk : ∀ m u, y.cell? (a.add m) = some u → x.cell? (a.add m) = some u := fun m u hu => by
    rw [World.cell?_of_block (a := a.add m) (f.block _ (World.block_lt_of_cell? y _ hu) (by rw [add_blk]; simpa using hne))]
    exact hu
  exact ⟨a, e, hk _ _ c0, hk _ _ c1⟩
theorem Wd.below {w y x : World} {X : List Nat} {W : Nat} {t r u : Nat → Nat} {L : Nat → LT} (h : Wd w y X W t r u L) (k : Below y.heap.size y x) : Wd w x X W t r u L :=
  ⟨kept k h.blk, fun j hj => (h.tri j hj).below k, fun j hj => let ⟨v, a, b, c⟩ := h.row j hj; ⟨v, kept k a, b, row_below c k⟩, fun j hj => kept k (h.fnb j hj), h.nt, h.nr, h.inX, h.lo, Kb.keepB h.bel k⟩
/-- behind a change of the trie k -/
structure Md (w y x : World) (X : List Nat) (W : Nat) (t r u : Nat → Nat) (L : Nat → LT) (k : Nat) (L' : LT) : Prop where
  wd : Wd w y X W t r u L
  hk : k < 2
  fr : Fr [t k] y x
  tri : Tri x X (t k) L'
theorem Md.row {w y x : World} {X : List Nat} {W : Nat} {t r u : Nat → Nat} {L : Nat → LT} {k : Nat} {L' : LT} (h : Md w y x X W t r u L k L') (j : Nat) (hj : j < 2) : ∃ v, x.heap[r j]? = some (.cells #[v] tTr) ∧ Cp v ∧ RowL x v (L j) := by
  obtain ⟨v, a, b, c⟩ := h.wd.row j hj
  obtain ⟨T, h1, _⟩ := (h.wd.tri k h.hk).tree
  refine ⟨v, (h.fr.block _ (Array.getElem?_eq_some_iff.1 a).1 ?_).trans a, b, row_fr c (noS_tri (h.wd.tri k h.hk)) h.fr⟩
  simpa using blk_ne a h1 (by decide)
theorem Md.turn {w y x z : World} {X : List Nat} {W : Nat} {t r u : Nat → Nat} {L : Nat → LT} {k : Nat} {L' : LT} (h : Md w y x X W t r u L k L') (f : Fr [r k] x z) (hr : ∃ v, z.heap[r k]? = some (.cells #[v] tTr) ∧ Cp v ∧ RowL z v L') : Wd w z X W t r u (fun j => if j = k then L' else L j) := by
  obtain ⟨T, h1, _⟩ := (h.wd.tri k h.hk).tree
  obtain ⟨v0, a0, b0, c0⟩ := h.row k h.hk
  have kx : ∀ {b : Nat} {c : Array Value} {s : TypeId}, y.heap[b]? = some (.cells c s) → s ≠ tR → x.heap[b]? = some (.cells c s) := fun e n => (h.fr.block _ (Array.getElem?_eq_some_iff.1 e).1 (by simpa using blk_ne e h1 n)).trans e
  have kz : ∀ {b : Nat} {c : Array Value} {s : TypeId}, x.heap[b]? = some (.cells c s) → s ≠ tTr → z.heap[b]? = some (.cells c s) := fun e n => (f.block _ (Array.getElem?_eq_some_iff.1 e).1 (by simpa using blk_ne e a0 n)).trans e
  have hrX := h.wd.inX k h.hk
  have tne : ∀ j, j < 2 → ∀ {L2 : LT}, Tri x X (t j) L2 → t j ∉ [r k] := fun j hj L2 e => by
    obtain ⟨T2, h2, _⟩ := e.tree
    simpa using blk_ne h2 a0 (by decide)
  refine ⟨kz (kx h.wd.blk (by decide)) (by decide), fun j hj => ?_, fun j hj => ?_, fun j hj => kz (kx (h.wd.fnb j hj) (by decide)) (by decide), h.wd.nt, h.wd.nr, h.wd.inX, h.wd.lo, ?_⟩
  · by_cases e : j = k
    · subst e; rw [if_pos rfl]
      exact h.tri.fr f (by intro q hq; rw [List.mem_singleton.1 hq]; exact hrX) (tne j hj h.tri)
    · rw [if_neg e]
      have := (h.wd.tri j hj).fr h.fr (by intro q hq; rw [List.mem_singleton.1 hq]; exact h.tri.mem) (by simpa using h.wd.nt j k hj h.hk e)
      exact this.fr f (by intro q hq; rw [List.mem_singleton.1 hq]; exact hrX) (tne j hj this)
  · by_cases e : j = k
    · subst e; rw [if_pos rfl]; exact hr
    · rw [if_neg e]
      obtain ⟨v, a, b, c⟩ := h.row j hj
      exact ⟨v, (f.block _ (Array.getElem?_eq_some_iff.1 a).1 (by simpa using h.wd.nr j k hj h.hk e)).trans a, b, row_fr c (noS_ref a0 b0) f⟩
  · have l1 := h.wd.lo _ h.tri.mem
    have l2 := h.wd.lo _ hrX
    have b1 : Below w.heap.size w x := ⟨h.fr.os.trans h.wd.bel.os, h.fr.tape.trans h.wd.bel.tape, h.fr.output.trans h.wd.bel.output, Nat.le_trans h.wd.bel.size h.fr.size, fun q hq => (h.fr.block q (Nat.lt_of_lt_of_le hq h.wd.bel.size) (by simp; omega)).trans (h.wd.bel.block q hq)⟩
    exact ⟨f.os.trans b1.os, f.tape.trans b1.tape, f.output.trans b1.output, Nat.le_trans b1.size f.size, fun q hq => (f.block q (Nat.lt_of_lt_of_le hq b1.size) (by simp; omega)).trans (b1.block q hq)⟩
end Go.Proofs.YtecboaocoobjgaaGreatDoor.Wd
