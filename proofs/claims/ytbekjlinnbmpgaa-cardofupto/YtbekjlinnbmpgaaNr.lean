/- Rows of cells in the middle of a block; rows of nodes. -/
import Derived.Test.YtbekjlinnbmpgaaNq
import Derived.Deep.MidRow
namespace Go.Proofs.Ytbekjlinnbmpgaa.Nr
set_option linter.unusedVariables false
set_option linter.unusedSimpArgs false
open Go.RowKit Kb Nd Nq
def putL (c : Array Value) (o : Nat) : List Value → Array Value
  | [] => c
  | v :: r => putL (c.setIfInBounds o v) (o + 1) r
theorem putL_size : ∀ (vs : List Value) (c : Array Value) (o : Nat), (putL c o vs).size = c.size
  | [], c, o => rfl
  | v :: r, c, o => by rw [putL, putL_size r]; simp
theorem putL_get : ∀ (vs : List Value) (c : Array Value) (o i : Nat), i < c.size → (putL c o vs)[i]? = if o ≤ i ∧ i < o + vs.length then vs[i - o]? else c[i]?
  | [], c, o, i, hi => by rw [putL, if_neg (by intro h; simp only [List.length_nil] at h; omega)]
  | v :: r, c, o, i, hi => by
    rw [putL, putL_get r _ (o + 1) i (by simpa using hi)]
    by_cases h1 : o + 1 ≤ i ∧ i < o + 1 + r.length
    · rw [if_pos h1, if_pos (by simp; omega)]
      rw [show i - o = (i - (o + 1)) + 1 by omega]; simp
    · rw [if_neg h1, Array.getElem?_setIfInBounds]
      by_cases h2 : o = i
      · subst h2; rw [if_pos rfl, if_pos hi, if_pos (by simp)]; simp
      · rw [if_neg h2, if_neg (by simp; omega)]
theorem setCell_heap {w : World} {g : Nat} {c : Array Value} {t : TypeId} {fr : Nat × Nat} (h : w.heap[g]? = some (.cells c t fr)) (o : Nat) (v : Value) : (w.setCell ⟨g, o, none⟩ v).heap[g]? = some (.cells (c.setIfInBounds o v) t fr) := by
  show (w.heap.modify g _)[g]? = _
  rw [Array.getElem?_modify]; simp [h]
theorem setCell_ne {w : World} {g k : Nat} (h : g ≠ k) (o : Nat) (v : Value) : (w.setCell ⟨g, o, none⟩ v).heap[k]? = w.heap[k]? := by
  show (w.heap.modify g _)[k]? = _
  rw [Array.getElem?_modify]; simp [h]
theorem below_setCell {B : Nat} {a w : World} (h : Below B a w) {g : Nat} (hg : B ≤ g) (o : Nat) (v : Value) : Below B a (w.setCell ⟨g, o, none⟩ v) :=
  ⟨h.os, h.tape, h.output, by have := h.size; simpa [World.setCell] using this, fun k hk => (setCell_ne (by omega) o v).trans (h.block k hk)⟩
theorem setCells_heap {g : Nat} {t : TypeId} {fr : Nat × Nat} : ∀ (vs : List Value) (o : Nat) {w : World} {c : Array Value}, w.heap[g]? = some (.cells c t fr) → (w.setCells g o vs).heap[g]? = some (.cells (putL c o vs) t fr)
  | [], o, w, c, h => h
  | v :: r, o, w, c, h => by rw [World.setCells, putL]; exact setCells_heap r (o + 1) (setCell_heap h o v)
theorem setCells_ne {g k : Nat} (hk : g ≠ k) : ∀ (vs : List Value) (o : Nat) (w : World), (w.setCells g o vs).heap[k]? = w.heap[k]?
  | [], o, w => rfl
  | v :: r, o, w => by rw [World.setCells, setCells_ne hk r, setCell_ne hk]
theorem below_setCells {B : Nat} {a : World} {g : Nat} (hg : B ≤ g) : ∀ (vs : List Value) (o : Nat) {w : World}, Below B a w → Below B a (w.setCells g o vs)
  | [], o, w, h => h
  | v :: r, o, w, h => by rw [World.setCells]; exact below_setCells hg r (o + 1) (below_setCell h hg o v)
theorem setCells_size {g : Nat} : ∀ (vs : List Value) (o : Nat) (w : World), (w.setCells g o vs).heap.size = w.heap.size
  | [], o, w => rfl
  | v :: r, o, w => by rw [World.setCells, setCells_size r]; simp [World.setCell]
theorem there_of {w : World} {g : Nat} {c : Array Value} {t : TypeId} (h : w.heap[g]? = some (.cells c t (0, 0))) (o n : Nat) (hn : o + n ≤ c.size) : w.there g o n := by
  intro j hj
  refine ⟨?_, ?_⟩
  · rw [cell_of_row w g _ _ _ (0, 0) h, Array.getElem?_eq_getElem (by omega)]; rfl
  · simp [World.frozen?, h]
theorem cell_set_ne {y : World} {G o : Nat} {v : Value} {p : Addr} (h : G ≠ p.block) : (y.setCell ⟨G, o, none⟩ v).cell? p = y.cell? p := by
  have e := setCell_ne (w := y) h o v
  unfold World.cell?
  rw [e]
theorem cell_drew (x : World) (p : Addr) : x.drew.cell? p = x.cell? p := rfl
/-- so many nodes in a row -/
def RowIs (C : Array Value) (n : Nat) (f : Nat → Int × ByteArray × Value) : Prop :=
  C.size = 3 * n ∧ ∀ i, i < n → C[3 * i]? = some (.int .i64 (f i).1) ∧ C[3 * i + 1]? = some (.string (f i).2.1) ∧ C[3 * i + 2]? = some (f i).2.2
def updF (f : Nat → Int × ByteArray × Value) (k : Nat) (x : Int × ByteArray × Value) : Nat → Int × ByteArray × Value := fun i => if i = k then x else f i
theorem row_put {C : Array Value} {n k : Nat} {f : Nat → Int × ByteArray × Value} (h : RowIs C n f) (hk : k < n) (x : Int × ByteArray × Value) :
    RowIs (putL C (3 * k) [.int .i64 x.1, .string x.2.1, x.2.2]) n (updF f k x) := by
  refine ⟨by rw [putL_size]; exact h.1, fun i hi => ?_⟩
  have hs := h.1
  have hr := h.2 i hi
  by_cases e : i = k
  · subst e
    have u : updF f i x i = x := by unfold updF; rw [if_pos rfl]
    rw [u]
    refine ⟨?_, ?_, ?_⟩
    · rw [putL_get _ _ _ _ (by omega), if_pos (by simp), Nat.sub_self]; rfl
    · rw [putL_get _ _ _ _ (by omega), if_pos (by simp), show 3 * i + 1 - 3 * i = 1 by omega]; rfl
    · rw [putL_get _ _ _ _ (by omega), if_pos (by simp), show 3 * i + 2 - 3 * i = 2 by omega]; rfl
  · have u : updF f k x i = f i := by unfold updF; rw [if_neg e]
    rw [u]
    refine ⟨?_, ?_, ?_⟩
    · rw [putL_get _ _ _ _ (by omega), if_neg (by simp only [List.length_cons, List.length_nil]; omega)]; exact hr.1
    · rw [putL_get _ _ _ _ (by omega), if_neg (by simp only [List.length_cons, List.length_nil]; omega)]; exact hr.2.1
    · rw [putL_get _ _ _ _ (by omega), if_neg (by simp only [List.length_cons, List.length_nil]; omega)]; exact hr.2.2
theorem row_cells {w : World} {g : Nat} {C : Array Value} {t : TypeId} {n : Nat} {f : Nat → Int × ByteArray × Value} (hb : w.heap[g]? = some (.cells C t)) (h : RowIs C n f) (i : Nat) (hi : i < n) :
    w.cell? ⟨g, 3 * i, none⟩ = some (.int .i64 (f i).1) ∧ w.cell? ⟨g, 3 * i + 1, none⟩ = some (.string (f i).2.1) ∧ w.cell? ⟨g, 3 * i + 2, none⟩ = some (f i).2.2 := by
  obtain ⟨h0, h1, h2⟩ := h.2 i hi
  exact ⟨by rw [cell_of_row w g _ _ _ (0, 0) hb]; exact h0, by rw [cell_of_row w g _ _ _ (0, 0) hb]; exact h1, by rw [cell_of_row w g _ _ _ (0, 0) hb]; exact h2⟩
theorem row_all {w : World} {g : Nat} {C : Array Value} {t : TypeId} {n : Nat} {f : Nat → Int × ByteArray × Value} (hb : w.heap[g]? = some (.cells C t)) (h : RowIs C n f) (i : Nat) (hi : i < n) :
    (w.cell? ⟨g, i * 3, none⟩ = some (.int .i64 (f i).1) ∧ w.cell? ⟨g, i * 3 + 1, none⟩ = some (.string (f i).2.1) ∧ w.cell? ⟨g, i * 3 + 2, none⟩ = some (f i).2.2) ∧ (w.frozen? ⟨g, i * 3, none⟩ = false ∧ w.frozen? ⟨g, i * 3 + 1, none⟩ = false ∧ w.frozen? ⟨g, i * 3 + 2, none⟩ = false) := by
  have := row_cells hb h i hi
  rw [Nat.mul_comm i 3]
  refine ⟨this, ?_, ?_, ?_⟩ <;> simp [World.frozen?, hb]
def mk4 : ByteArray := ⟨#[109, 97, 114, 107]⟩
/-- five marks stand behind -/
def marks (w : World) (g n : Nat) : Prop := ∀ j, n ≤ j → j < n + 5 → w.cell? ⟨g, 3 * j, none⟩ = some (.int .i64 (-77)) ∧ w.cell? ⟨g, 3 * j + 1, none⟩ = some (.string mk4) ∧ w.cell? ⟨g, 3 * j + 2, none⟩ = some (.slice none 0 0)
/-- lent nodes, from place i on; all blocks from base on -/
def lentL (w : World) (base g : Nat) : Nat → List Tr → Prop
  | _, [] => True
  | i, .mk tag val kids :: ts => (∃ kg, w.cell? ⟨g, 3 * i, none⟩ = some (.int .i64 tag) ∧ w.cell? ⟨g, 3 * i + 1, none⟩ = some (.string val) ∧ w.cell? ⟨g, 3 * i + 2, none⟩ = some (.slice (some ⟨kg, 0, none⟩) kids.length (kids.length + 5)) ∧
      base ≤ kg ∧ marks w kg kids.length ∧ lentL w base kg 0 kids) ∧ lentL w base g (i + 1) ts
theorem cell_keep {w w' : World} {g o : Nat} {v : Value} (h : g < w.heap.size → w'.heap[g]? = w.heap[g]?) (hc : w.cell? ⟨g, o, none⟩ = some v) : w'.cell? ⟨g, o, none⟩ = some v := by
  have hl := World.block_lt_of_cell? w _ hc
  have e := h hl
  unfold World.cell? at hc ⊢
  simp only at hc ⊢
  rw [e]
  exact hc
theorem marks_keep {w w' : World} {g n : Nat} (h : g < w.heap.size → w'.heap[g]? = w.heap[g]?) (hm : marks w g n) : marks w' g n := fun j h1 h2 => by
  obtain ⟨a, b, c⟩ := hm j h1 h2
  exact ⟨cell_keep h a, cell_keep h b, cell_keep h c⟩
theorem lent_keep {w w' : World} {base : Nat} (h : ∀ b, base ≤ b → b < w.heap.size → w'.heap[b]? = w.heap[b]?) : ∀ (g : Nat) (hg : base ≤ g) (i : Nat) (ts : List Tr), lentL w base g i ts → lentL w' base g i ts
  | g, hg, i, [], _ => by unfold lentL; trivial
  | g, hg, i, .mk tag val kids :: ts, hl => by
    unfold lentL at hl ⊢
    obtain ⟨⟨kg, h0, h1, h2, h3, h4, h5⟩, ht⟩ := hl
    exact ⟨⟨kg, cell_keep (h g hg) h0, cell_keep (h g hg) h1, cell_keep (h g hg) h2, h3, marks_keep (h kg h3) h4, lent_keep h kg h3 0 kids h5⟩, lent_keep h g hg (i + 1) ts ht⟩
theorem lent_base {w : World} {b b' : Nat} (hb : b ≤ b') : ∀ (g : Nat) (i : Nat) (ts : List Tr), lentL w b' g i ts → lentL w b g i ts
  | g, i, [], _ => by unfold lentL; trivial
  | g, i, .mk tag val kids :: ts, hl => by
    unfold lentL at hl ⊢
    obtain ⟨⟨kg, h0, h1, h2, h3, h4, h5⟩, ht⟩ := hl
    exact ⟨⟨kg, h0, h1, h2, by omega, h4, lent_base hb kg 0 kids h5⟩, lent_base hb g (i + 1) ts ht⟩
/-- one by one -/
theorem lent_of {w : World} {base g : Nat} : ∀ (ts : List Tr) (i : Nat), (∀ k (h : k < ts.length), ∃ (tag : Int) (val : ByteArray) (kids : List Tr) (kg : Nat), ts[k] = .mk tag val kids ∧ w.cell? ⟨g, 3 * (i + k), none⟩ = some (.int .i64 tag) ∧ w.cell? ⟨g, 3 * (i + k) + 1, none⟩ = some (.string val) ∧
      w.cell? ⟨g, 3 * (i + k) + 2, none⟩ = some (.slice (some ⟨kg, 0, none⟩) kids.length (kids.length + 5)) ∧ base ≤ kg ∧ marks w kg kids.length ∧ lentL w base kg 0 kids) → lentL w base g i ts
  | [], i, _ => by unfold lentL; trivial
  | .mk tag val kids :: ts, i, h => by
    unfold lentL
    refine ⟨?_, lent_of ts (i + 1) fun k hk => ?_⟩
    · obtain ⟨tag', val', kids', kg, e, h0, h1, h2, h3, h4, h5⟩ := h 0 (by simp)
      simp only [List.getElem_cons_zero] at e
      injection e with e1 e2 e3
      subst e1; subst e2; subst e3
      exact ⟨kg, h0, h1, h2, h3, h4, h5⟩
    · have := h (k + 1) (by simpa using hk)
      simp only [List.getElem_cons_succ] at this
      rw [show i + (k + 1) = i + 1 + k by omega] at this
      exact this
/-- what lent nodes return -/
def Lent (w : World) (base g : Nat) (ts : List Tr) : Prop := base ≤ g ∧ g < w.heap.size ∧ marks w g ts.length ∧ lentL w base g 0 ts
theorem lent_world {w w' : World} {base g : Nat} {ts : List Tr} (h : ∀ b, base ≤ b → b < w.heap.size → w'.heap[b]? = w.heap[b]?) (hs : w.heap.size ≤ w'.heap.size) (hl : Lent w base g ts) : Lent w' base g ts :=
  ⟨hl.1, Nat.lt_of_lt_of_le hl.2.1 hs, marks_keep (h g hl.1) hl.2.2.1, lent_keep h g hl.1 0 ts hl.2.2.2⟩
end Go.Proofs.Ytbekjlinnbmpgaa.Nr
