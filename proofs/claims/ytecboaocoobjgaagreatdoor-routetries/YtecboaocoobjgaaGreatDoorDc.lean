/- The document's list of prefixes: a row's cells, and a row that is owned. -/
import Derived.Test.YtecboaocoobjgaaGreatDoorDb
import Derived.Deep.WholeRow
namespace Go.Proofs.YtecboaocoobjgaaGreatDoor.Dc
set_option linter.unusedVariables false
set_option linter.unusedSimpArgs false
open Go.RowKit Go.Shelf Lib0 Kb Rp Rw Rs Li Mj Tj Ra Da Db
def cel (L : LT) : List Value := L.flatMap fun x => [sv x.1, .int .i64 x.2]
theorem cel_len : ∀ L : LT, (cel L).length = L.length * 2
  | [] => rfl
  | x :: L => by
    have := cel_len L
    simp only [cel, List.flatMap_cons, List.length_append, List.length_cons, List.length_nil] at this ⊢
    omega
theorem cel_append (L M : LT) : cel (L ++ M) = cel L ++ cel M := by simp [cel]
theorem cel_fst : ∀ (L : LT) (i : Nat) (h : i < L.length), (cel L)[i * 2]? = some (sv L[i].1)
  | [], i, h => by simp at h
  | x :: L, 0, h => by simp [cel]
  | x :: L, i + 1, h => by
    have := cel_fst L i (by simpa using h)
    rw [show cel (x :: L) = sv x.1 :: .int .i64 x.2 :: cel L by simp [cel], show (i + 1) * 2 = i * 2 + 1 + 1 by omega]
    simpa using this
theorem cel_snd : ∀ (L : LT) (i : Nat) (h : i < L.length), (cel L)[i * 2 + 1]? = some (.int .i64 L[i].2)
  | [], i, h => by simp at h
  | x :: L, 0, h => by simp [cel]
  | x :: L, i + 1, h => by
    have := cel_snd L i (by simpa using h)
    rw [show cel (x :: L) = sv x.1 :: .int .i64 x.2 :: cel L by simp [cel], show (i + 1) * 2 + 1 = i * 2 + 1 + 1 + 1 by omega]
    simpa using this
theorem cel_one (L : LT) : ∀ u ∈ cel L, u.oneCell' = true := by
  intro u hu
  simp only [cel, List.mem_flatMap] at hu
  obtain ⟨x, -, hx⟩ := hu
  simp at hx
  rcases hx with rfl | rfl <;> simp [Value.oneCell']
/- The cells of a row, one after another. -/
theorem row_cells {w : World} {a : Addr} {n cap : Nat} {L : LT} (h : RowL w (.slice (some a) n cap) L) : ∀ j u, (cel L)[j]? = some u → w.cell? (a.add j) = some u := by
  obtain ⟨o, cap', e, -, hc⟩ := h
  cases e
  intro j u hu
  have hj : j < (cel L).length := by
    rw [List.getElem?_eq_some_iff] at hu
    exact hu.1
  rw [cel_len] at hj
  have hi : j / 2 < L.length := by omega
  obtain ⟨a', e, c0, c1⟩ := hc (j / 2) hi
  cases e
  by_cases hm : j % 2 = 0
  · have hj2 : j = j / 2 * 2 := by omega
    rw [hj2, cel_fst L _ hi] at hu
    rw [hj2, c0]; exact hu
  · have hj2 : j = j / 2 * 2 + 1 := by omega
    rw [hj2, cel_snd L _ hi] at hu
    rw [hj2, c1]; exact hu
theorem row_part {w : World} {a : Addr} {n cap : Nat} {A M C : LT} (h : RowL w (.slice (some a) n cap) (A ++ M ++ C)) : ∀ j u, (cel M)[j]? = some u → w.cell? ((a.add (A.length * 2)).add j) = some u := by
  intro j u hu
  rw [Addr.add_add]
  refine row_cells h _ _ ?_
  have hj : j < (cel M).length := by
    rw [List.getElem?_eq_some_iff] at hu
    exact hu.1
  rw [cel_append, cel_append, List.getElem?_append_left (by rw [List.length_append, cel_len A]; omega), List.getElem?_append_right (by rw [cel_len]; omega), cel_len, show A.length * 2 + j - A.length * 2 = j by omega]
  exact hu
theorem row_own {w : World} {base : Nat} {t : TypeId} {v : Value} {L : LT} (hl : L.length ≤ 9223372036854775807) (h : w.ownsRow base t 2 v L.length (cel L)) : RowL w v L := by
  rcases h.2 with ⟨rfl, h0⟩ | ⟨g, cap, cur, rfl, r⟩
  · have e : L = [] := List.eq_nil_of_length_eq_zero h0
    subst e
    exact ⟨none, 0, rfl, hl, fun i hi => by simp at hi⟩
  · exact ⟨some ⟨g, 0, none⟩, cap, rfl, hl, fun i hi => ⟨⟨g, 0, none⟩, rfl, h.cells (g := g) rfl _ _ (cel_fst L i hi), h.cells (g := g) rfl _ _ (cel_snd L i hi)⟩⟩
end Go.Proofs.YtecboaocoobjgaaGreatDoor.Dc
