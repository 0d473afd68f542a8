/- Rows of cells in the middle of a block. -/
import Derived.Test.YtciblmdpngnakabTk
import Derived.Deep.MidRow
namespace Go.Proofs.Ytciblmdpngnakab.Sm
set_option linter.unusedVariables false
open Go.RowKit Pla Cb Tk
def putL (c : Array Value) (o : Nat) : List Value → Array Value
  | [] => c
  | v :: r => putL (c.setIfInBounds o v) (o + 1) r
theorem putL_size : ∀ (vs : List Value) (c : Array Value) (o : Nat), (putL c o vs).size = c.size
  | [], c, o => rfl
  | v :: r, c, o => by rw [putL, putL_size r]; simp
theorem putL_get : ∀ (vs : List Value) (c : Array Value) (o i : Nat), i < c.size → (putL c o vs)[i]? = if o ≤ i ∧ i < o + vs.length then vs[i - o]? else c[i]?
  | [], c, o, i, hi => by rw [putL, if_neg (by intro h; simp only [List.length_nil] at h; omega)]
  | v :: r, c, o, i, hi => by
    rw [putL, putL_get r _ (o + 1) i (by simpa using hi)]
    by_cases h1 : o + 1 ≤ i ∧ i < o + 1 + r.length
    · rw [if_pos h1, if_pos (by simp; omega)]
      rw [show i - o = (i - (o + 1)) + 1 by omega]; simp
    · rw [if_neg h1, Array.getElem?_setIfInBounds]
      by_cases h2 : o = i
      · subst h2; rw [if_pos rfl, if_pos hi, if_pos (by simp)]; simp
      · rw [if_neg h2, if_neg (by simp; omega)]
theorem setCell_heap {w : World} {g : Nat} {c : Array Value} {t : TypeId} {fr : Nat × Nat} (h : w.heap[g]? = some (.cells c t fr)) (o : Nat) (v : Value) : (w.setCell ⟨g, o, none⟩ v).heap[g]? = some (.cells (c.setIfInBounds o v) t fr) := by
  show (w.heap.modify g _)[g]? = _
  rw [Array.getElem?_modify]; simp [h]
theorem setCell_ne {w : World} {g k : Nat} (h : g ≠ k) (o : Nat) (v : Value) : (w.setCell ⟨g, o, none⟩ v).heap[k]? = w.heap[k]? := by
  show (w.heap.modify g _)[k]? = _
  rw [Array.getElem?_modify]; simp [h]
theorem below_setCell {B : Nat} {a w : World} (h : Below B a w) {g : Nat} (hg : B ≤ g) (o : Nat) (v : Value) : Below B a (w.setCell ⟨g, o, none⟩ v) :=
  ⟨h.os, h.tape, h.output, by have := h.size; simpa [World.setCell] using this, fun k hk => (setCell_ne (by omega) o v).trans (h.block k hk)⟩
theorem setCells_heap {g : Nat} {t : TypeId} {fr : Nat × Nat} : ∀ (vs : List Value) (o : Nat) {w : World} {c : Array Value}, w.heap[g]? = some (.cells c t fr) → (w.setCells g o vs).heap[g]? = some (.cells (putL c o vs) t fr)
  | [], o, w, c, h => h
  | v :: r, o, w, c, h => by rw [World.setCells, putL]; exact setCells_heap r (o + 1) (setCell_heap h o v)
theorem setCells_ne {g k : Nat} (hk : g ≠ k) : ∀ (vs : List Value) (o : Nat) (w : World), (w.setCells g o vs).heap[k]? = w.heap[k]?
  | [], o, w => rfl
  | v :: r, o, w => by rw [World.setCells, setCells_ne hk r, setCell_ne hk]
theorem below_setCells {B : Nat} {a : World} {g : Nat} (hg : B ≤ g) : ∀ (vs : List Value) (o : Nat) {w : World}, Below B a w → Below B a (w.setCells g o vs)
  | [], o, w, h => h
  | v :: r, o, w, h => by rw [World.setCells]; exact below_setCells hg r (o + 1) (below_setCell h hg o v)
theorem setCells_size {g : Nat} : ∀ (vs : List Value) (o : Nat) (w : World), (w.setCells g o vs).heap.size = w.heap.size
  | [], o, w => rfl
  | v :: r, o, w => by rw [World.setCells, setCells_size r]; simp [World.setCell]
theorem there_of {w : World} {g : Nat} {c : Array Value} {t : TypeId} (h : w.heap[g]? = some (.cells c t (0, 0))) (o n : Nat) (hn : o + n ≤ c.size) : w.there g o n := by
  intro j hj
  refine ⟨?_, ?_⟩
  · rw [cell_of_row w g _ _ _ (0, 0) h, Array.getElem?_eq_getElem (by omega)]; rfl
  · simp [World.frozen?, h]
theorem range_of {w : World} {g : Nat} {c : Array Value} {t : TypeId} {fr : Nat × Nat} (h : w.heap[g]? = some (.cells c t fr)) (o : Nat) (cs : List Value) (hc : ∀ j v, cs[j]? = some v → c[o + j]? = some v) : w.rangeAt g o cs := by
  intro j v hv
  rw [cell_of_row w g _ _ _ fr h]; exact hc j v hv
theorem range_sub {w : World} {g o n m : Nat} {v : Nat → Nat} (h : w.rangeAt g o (byC n v).toList) (s : Nat) (hs : s + m ≤ n) : w.rangeAt g (o + s) (byC m fun i => v (s + i)).toList := by
  intro j x hx
  have hj : j < m := by have := (List.getElem?_eq_some_iff.1 hx).1; simpa [byC_size] using this
  have := h (s + j) (.int .u8 ((v (s + j) : Nat) : Int)) (by rw [Array.getElem?_toList, byC_get n v _ (by omega)])
  rw [Array.getElem?_toList, byC_get m _ j hj] at hx
  cases hx
  rw [Nat.add_assoc]; exact this
theorem range_keep {a x : World} {g o : Nat} {cs : List Value} (h : Below a.heap.size a x) (hg : g < a.heap.size) (hr : a.rangeAt g o cs) : x.rangeAt g o cs := by
  intro j v hv
  have := hr j v hv
  rw [← this]
  exact h.cell hg
/-- a piece of a row is put in its place -/
theorem put_up (n m j : Nat) (v : Nat → Nat) (h : m * j + m ≤ n) : putL (byC n (up v (m * j))) (m * j) (byC m fun i => v (m * j + i)).toList = byC n (up v (m * (j + 1))) := by
  apply Array.ext_getElem?
  intro i
  have e : m * (j + 1) = m * j + m := Nat.mul_succ m j
  by_cases hi : i < n
  · rw [putL_get _ _ _ _ (by rw [byC_size]; exact hi), byC_get n (up v (m * (j + 1))) i hi, byC_get n (up v (m * j)) i hi]
    simp only [Array.length_toList, byC_size]
    by_cases c : m * j ≤ i ∧ i < m * j + m
    · rw [if_pos c, Array.getElem?_toList, byC_get m _ (i - m * j) (by omega)]
      show some (Value.int .u8 ((v (m * j + (i - m * j)) : Nat) : Int)) = some (Value.int .u8 (((if i < m * (j + 1) then v i else 0) : Nat) : Int))
      rw [if_pos (by omega), show m * j + (i - m * j) = i by omega]
    · rw [if_neg c]
      show some (Value.int .u8 (((if i < m * j then v i else 0) : Nat) : Int)) = some (Value.int .u8 (((if i < m * (j + 1) then v i else 0) : Nat) : Int))
      by_cases c2 : i < m * j
      · rw [if_pos c2, if_pos (by omega)]
      · rw [if_neg c2, if_neg (by omega)]
  · rw [Array.getElem?_eq_none (by rw [putL_size, byC_size]; omega), Array.getElem?_eq_none (by rw [byC_size]; omega)]
theorem run_sc {P : Program} {w : World} {b o : Nat} {cells : Array Value} (ht : w.there b o cells.size) (h1 : cells.all (·.oneCell') = true) :
    (storeCells ⟨b, o, none⟩ cells.toList).run P w = .ok () (w.setCells b o cells.toList) := by
  have := run_storeCells_cells (P := P) b o cells.toList 0 w (fun j hj => by simpa using (ht j (by simpa using hj)).1) (fun j hj => by simpa using (ht j (by simpa using hj)).2)
    (fun v hv => (Array.all_eq_true_iff_forall_mem.1 h1) v (by simpa using hv))
  simpa only [Nat.add_zero] using this
end Go.Proofs.Ytciblmdpngnakab.Sm
