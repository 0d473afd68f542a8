/- Rows of cells and worlds: what the contracts share. -/
import Derived.Test.YtabmpngliphdpaaDoorLib0
import Derived.WalkLawsBesides
import Derived.WalkSpells
import Derived.Laws.ResultCell
import Derived.Below
import Derived.Deep.RegionHeld3
import Derived.Deep.WholeRow
import Derived.WalkSmall
namespace Go.Proofs.YtabmpngliphdpaaDoor.Kb
set_option linter.unusedVariables false
open Go.RowKit
theorem below_one (w : World) (a : Obj) : Below w.heap.size w (w.alloc a) := (Below.refl _ w).alloc (Nat.le_refl _) _
theorem below_two (w : World) (a b : Obj) : Below w.heap.size w ((w.alloc a).alloc b) := ((Below.refl _ w).alloc (Nat.le_refl _) _).alloc (by simp) _
theorem below_three (w : World) (a b c : Obj) : Below w.heap.size w (((w.alloc a).alloc b).alloc c) := (below_two w a b).alloc (by simp; omega) _
theorem keepB {a y x : World} (h : Below a.heap.size a y) (k : Below y.heap.size y x) : Below a.heap.size a x := h.trans (k.mono h.size)
theorem keepC {a x : World} {p : Addr} {v : Value} (h : Below a.heap.size a x) (k : a.cell? p = some v) (hp : p.block < a.heap.size) : x.cell? p = some v := (h.cell hp).trans k
theorem held2 {a x : World} {b : Nat} {u v : Value} {t : TypeId} (h : Below a.heap.size a x) (hb : a.heap[b]? = some (Obj.cells #[u, v] t)) :
    x.cell? ⟨b, 0, none⟩ = some u ∧ x.cell? ⟨b, 1, none⟩ = some v ∧ x.frozen? ⟨b, 0, none⟩ = false ∧ x.frozen? ⟨b, 1, none⟩ = false := by
  have hx : x.heap[b]? = some (Obj.cells #[u, v] t) := (h.block b (Array.getElem?_eq_some_iff.1 hb).1).trans hb
  refine ⟨?_, ?_, ?_, ?_⟩ <;> simp [World.cell?, World.frozen?, hx]
theorem kept {a x : World} {b : Nat} {o : Obj} (h : Below a.heap.size a x) (hb : a.heap[b]? = some o) : x.heap[b]? = some o := (h.block b (Array.getElem?_eq_some_iff.1 hb).1).trans hb
theorem held2a {a x : World} {b : Nat} {u v : Value} {t : TypeId} (h : Below a.heap.size a x) (hb : a.heap[b]? = some (Obj.cells #[u, v] t)) (o : Obj) :
    (x.alloc o).cell? ⟨b, 0, none⟩ = some u ∧ (x.alloc o).cell? ⟨b, 1, none⟩ = some v ∧ (x.alloc o).frozen? ⟨b, 0, none⟩ = false ∧ (x.alloc o).frozen? ⟨b, 1, none⟩ = false :=
  held2 (h.alloc h.size o) hb
theorem h1_0 (w : World) (a : Obj) : (w.alloc a).heap[w.heap.size]? = some a := by
  show (w.heap.push a)[w.heap.size]? = some a
  simp
theorem h2_0 (w : World) (a b : Obj) : ((w.alloc a).alloc b).heap[w.heap.size]? = some a := (Below.heap_alloc _ b _ (by simp)).trans (h1_0 w a)
theorem h2_1 (w : World) (a b : Obj) : ((w.alloc a).alloc b).heap[w.heap.size + 1]? = some b := by
  have := h1_0 (w.alloc a) b
  rwa [World.size_alloc] at this
theorem h3_0 (w : World) (a b c : Obj) : (((w.alloc a).alloc b).alloc c).heap[w.heap.size]? = some a := (Below.heap_alloc _ c _ (by simp; omega)).trans (h2_0 w a b)
theorem h3_1 (w : World) (a b c : Obj) : (((w.alloc a).alloc b).alloc c).heap[w.heap.size + 1]? = some b := (Below.heap_alloc _ c _ (by simp)).trans (h2_1 w a b)
theorem h3_2 (w : World) (a b c : Obj) : (((w.alloc a).alloc b).alloc c).heap[w.heap.size + 1 + 1]? = some c := by
  have := h1_0 ((w.alloc a).alloc b) c
  rwa [World.size_alloc, World.size_alloc] at this
theorem setRow_at {w : World} {g : Nat} {c : Array Value} {t : TypeId} {fr : Nat × Nat} (h : w.heap[g]? = some (.cells c t fr)) (c' : Array Value) : (w.setRow g c').heap[g]? = some (.cells c' t fr) := by
  show (w.heap.modify g _)[g]? = _
  rw [Array.getElem?_modify]; simp [h]
theorem setRow_ne {w : World} {g k : Nat} (h : g ≠ k) (c' : Array Value) : (w.setRow g c').heap[k]? = w.heap[k]? := by
  show (w.heap.modify g _)[k]? = _
  rw [Array.getElem?_modify]; simp [h]
theorem below_setRow {B : Nat} {a w : World} (h : Below B a w) {g : Nat} (hg : B ≤ g) (c' : Array Value) : Below B a (w.setRow g c') :=
  ⟨h.os, h.tape, h.output, by have := h.size; simpa [World.setRow] using this, fun k hk => (setRow_ne (by omega) c').trans (h.block k hk)⟩
/-- n bytes as cells -/
def byC (n : Nat) (v : Nat → Nat) : Array Value := ((List.range n).map fun i => Value.int .u8 ((v i : Nat) : Int)).toArray
theorem byC_size (n : Nat) (v : Nat → Nat) : (byC n v).size = n := by simp [byC]
theorem byC_get (n : Nat) (v : Nat → Nat) (i : Nat) (h : i < n) : (byC n v)[i]? = some (.int .u8 ((v i : Nat) : Int)) := by simp [byC, h]
def updN (v : Nat → Nat) (k b : Nat) : Nat → Nat := fun i => if i = k then b else v i
theorem byC_set (n : Nat) (v : Nat → Nat) (k b : Nat) (h : k < n) : (byC n v).setIfInBounds k (.int .u8 (b : Int)) = byC n (updN v k b) := by
  apply Array.ext_getElem?
  intro i
  by_cases hi : i < n
  · rw [byC_get _ _ _ hi, Array.getElem?_setIfInBounds]
    by_cases e : k = i
    · subst e; simp [updN, byC_size, h]
    · rw [if_neg e, byC_get _ _ _ hi, updN, if_neg (fun x => e x.symm)]
  · rw [Array.getElem?_eq_none (by simp [byC_size]; omega), Array.getElem?_eq_none (by simp [byC_size]; omega)]
theorem byC_ext {n : Nat} {v u : Nat → Nat} (h : ∀ i, i < n → v i = u i) : byC n v = byC n u := by
  simp only [byC]; congr 1
  apply List.map_congr_left
  intro i hi
  rw [h i (List.mem_range.1 hi)]
theorem byC_one (n : Nat) (v : Nat → Nat) : (byC n v).all (·.oneCell') = true := by
  simp only [byC, List.all_toArray, List.all_eq_true, List.mem_map, List.mem_range]
  rintro x ⟨i, _, rfl⟩; rfl
theorem below_drewN {B : Nat} {a w : World} (h : Below B a w) : ∀ n, Below B a (w.drewN n)
  | 0 => h
  | n + 1 => (below_drewN h n).drew
end Go.Proofs.YtabmpngliphdpaaDoor.Kb
