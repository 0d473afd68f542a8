/- slices.DeleteFunc over *turnstile/pending.held: the row holds what is not meant. -/
import Derived.Test.YtgchdjjafgkcbaaIh
import Derived.Lib.SliceRun
namespace Go.Proofs.Ytgchdjjafgkcbaa.Dh
set_option linter.unusedVariables false
set_option linter.unusedSimpArgs false
open Go.RowKit Lib0 Kb Xp Ih
attribute [local go_sem] Oper.semAt_some
/-- a row's block: what is laid down, then the spare -/
def Blk (w : World) (g : Nat) (Z : LT) (S : List Value) : Prop := w.heap[g]? = some (.cells (gc Z ++ S).toArray tL (0, 0))
theorem Blk.cell {w : World} {g : Nat} {Z : LT} {S : List Value} (h : Blk w g Z S) (i : Nat) (hi : i < Z.length) : w.cell? ⟨g, i * 3, none⟩ = some (.int .i64 Z[i].1) ∧ w.cell? ⟨g, i * 3 + 1, none⟩ = some (.int .i64 Z[i].2.1) ∧ w.cell? ⟨g, i * 3 + 2, none⟩ = some Z[i].2.2 := by
  obtain ⟨a, b, c⟩ := gc_at Z i hi
  have hl := gc_len Z
  refine ⟨?_, ?_, ?_⟩ <;> rw [cell_of_row w g _ _ _ _ h, List.getElem?_toArray, List.getElem?_append_left (by omega)] <;> assumption
theorem Blk.frozen {w : World} {g : Nat} {Z : LT} {S : List Value} (h : Blk w g Z S) (o : Nat) : w.frozen? ⟨g, o, none⟩ = false := frozen_of_row w g o _ _ h
theorem Blk.store {w : World} {g : Nat} {Z : LT} {S : List Value} (h : Blk w g Z S) (i : Nat) (hi : i < Z.length) (x : XT) : Blk (((w.setCell ⟨g, i * 3, none⟩ (.int .i64 x.1)).setCell ⟨g, i * 3 + 1, none⟩ (.int .i64 x.2.1)).setCell ⟨g, i * 3 + 2, none⟩ x.2.2) g (Z.set i x) S := by
  have hl := gc_len Z
  have := setCell_heap (setCell_heap (setCell_heap h (i * 3) (.int .i64 x.1)) (i * 3 + 1) (.int .i64 x.2.1)) (i * 3 + 2) x.2.2
  rw [Blk, this, gc_set Z i x hi]
  congr 2
  simp only [List.setIfInBounds_toArray]
  rw [List.set_append_left _ _ (by omega), List.set_append_left _ _ (by rw [List.length_set]; omega), List.set_append_left _ _ (by rw [List.length_set, List.length_set]; omega)]
theorem Blk.below {w x : World} {g : Nat} {Z : LT} {S : List Value} (h : Blk w g Z S) (k : Below w.heap.size w x) : Blk x g Z S := kept k h
/-- how far it has come: i are kept of the first j -/
structure Far (Z : LT) (p : XT → Bool) (i j : Nat) (Y : LT) : Prop where
  len : Y.length = Z.length
  lt : i < j
  le : j ≤ Z.length
  low : Y.take i = (Z.take j).filter fun x => !p x
  high : Y.drop j = Z.drop j
theorem Far.start {Z : LT} {p : XT → Bool} {k : Nat} (h : k < Z.length) (hk : p Z[k] = true) (hb : ∀ j (hj : j < Z.length), j < k → p Z[j] = false) : Far Z p k (k + 1) Z := by
  refine ⟨rfl, Nat.lt_succ_self _, h, ?_, rfl⟩
  rw [List.take_succ_eq_append_getElem h, List.filter_append, List.filter_eq_self.2]
  · simp [hk]
  · intro x hx
    obtain ⟨i, hi, rfl⟩ := List.getElem_of_mem hx
    rw [List.length_take] at hi
    rw [List.getElem_take]
    rw [hb i (by omega) (by omega)]; rfl
theorem Far.at_ {Z : LT} {p : XT → Bool} {i j : Nat} {Y : LT} (h : Far Z p i j Y) (hj : j < Z.length) : ∃ hy : j < Y.length, Y[j] = Z[j] := by
  have hy : j < Y.length := by rw [h.len]; exact hj
  refine ⟨hy, ?_⟩
  have e := h.high
  have a1 : (Y.drop j)[0]? = some Y[j] := by simp [hy]
  have a2 : (Z.drop j)[0]? = some Z[j] := by simp [hj]
  rw [e, a2] at a1
  simpa using a1.symm
theorem Far.skip {Z : LT} {p : XT → Bool} {i j : Nat} {Y : LT} (h : Far Z p i j Y) (hj : j < Z.length) (hp : p Z[j] = true) : Far Z p i (j + 1) Y := by
  refine ⟨h.len, by have := h.lt; omega, hj, ?_, ?_⟩
  · rw [h.low, List.take_succ_eq_append_getElem hj, List.filter_append]; simp [hp]
  · rw [← List.drop_drop, h.high, List.drop_drop]
theorem Far.keep {Z : LT} {p : XT → Bool} {i j : Nat} {Y : LT} (h : Far Z p i j Y) (hj : j < Z.length) (hp : p Z[j] = false) : Far Z p (i + 1) (j + 1) (Y.set i Z[j]) := by
  have hi : i < Y.length := by have := h.lt; rw [h.len]; omega
  have hlt := h.lt
  refine ⟨by rw [List.length_set, h.len], by omega, hj, ?_, ?_⟩
  · rw [List.take_succ_eq_append_getElem (by rw [List.length_set]; exact hi), List.getElem_set_self, List.take_set_of_le (Nat.le_refl _), h.low, List.take_succ_eq_append_getElem hj, List.filter_append]; simp [hp]
  · rw [List.drop_set_of_lt (by omega), ← List.drop_drop, h.high, List.drop_drop]
theorem Far.done {Z : LT} {p : XT → Bool} {i : Nat} {Y : LT} (h : Far Z p i Z.length Y) : Y.take i = Z.filter (fun x => !p x) ∧ i = (Z.filter fun x => !p x).length := by
  have e := h.low
  rw [List.take_length] at e
  refine ⟨e, ?_⟩
  rw [← e, List.length_take, h.len]
  have := h.lt
  omega
end Go.Proofs.Ytgchdjjafgkcbaa.Dh
