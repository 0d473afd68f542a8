/- A slice of numbers that came in. -/
import Derived.Test.YtfoddooehanemaaRows
import Derived.WalkKit
import Derived.ProofKit
import Derived.OpenShut
import Derived.ChangeSlices
import Derived.Below
namespace Go.Proofs.Ytfoddooehanemaa.Sl
set_option linter.unusedVariables false
open Go.ChangeShapes Go.WideShapes Go.ChangeAt Go.RowKit
/-- the value is the slice of these numbers, or nil and there are none -/
def Lies (w : World) (v : Value) (z : List Int) : Prop :=
  (v = .slice none 0 0 ∧ z = []) ∨ ∃ (a : Addr) (cap : Nat), v = .slice (some a) z.length cap ∧ z.length ≤ cap ∧ cap ≤ maxLen ∧ (∀ i (h : i < z.length), w.cell? (a.add i) = some (.int .i64 z[i])) ∧ (∀ x ∈ z, (Lit.int .i64 x).wf = true)
theorem cellsI : Try.prog.cellsOf 3 = 1 := by kernel_rfl
theorem bulk_lits {H : Type} (zs : List Int) : zs.length ≤ Rows.uptoBulkAll (lits (H := H) .i64 zs) := by
  induction zs with
  | nil => exact Nat.zero_le _
  | cons a zs ih =>
    show zs.length + 1 ≤ Rows.uptoBulk (DataW.lit (.int .i64 a)) + Rows.uptoBulkAll (lits .i64 zs)
    have : 1 ≤ Rows.uptoBulk (H := H) (DataW.lit (.int .i64 a)) := by simp [Rows.uptoBulk]
    omega
set_option maxRecDepth 100000 in
theorem open_sl {H : Type} {enc : TypeId × Value → H} {W : World} {b0 : Nat} {r : Reach} {v : Value} {d : DataW H} {ps : List MemPlace}
    (hval : Value.okWide Try.prog W r b0 60 v) (hd : DataW.Trod enc Try.prog W 0 (fun _ => true) true 60 v d ps) :
    ∃ z, Lies W v z ∧ (∀ x ∈ ps, x.block < W.heap.size) ∧ z.length ≤ Rows.uptoBulk d := by
  obtain ⟨a0, len, cap, rfl⟩ := okWide_slice Try.underlying60 hval
  obtain ⟨fuel, hf⟩ := hd
  rcases open_ints Try.underlying60 Try.underlying3 cellsI hf with ⟨hcs, hx⟩ | ⟨a, len', cap', zs, hcs, _, hl, hm, hz, hx, hcell, hwz⟩
  · simp only [Prod.mk.injEq] at hx
    obtain ⟨rfl, rfl⟩ := hx
    simp [Value.cells] at hcs
    obtain ⟨rfl, rfl, rfl⟩ := hcs
    exact ⟨[], Or.inl ⟨rfl, rfl⟩, (fun x hx => by simp at hx), Nat.zero_le _⟩
  · simp only [Prod.mk.injEq] at hx
    obtain ⟨rfl, rfl⟩ := hx
    simp [Value.cells] at hcs
    obtain ⟨rfl, rfl, rfl⟩ := hcs
    simp only [if_true] at hz
    have hlen : (zs.take len).length = len := by rw [List.length_take]; omega
    refine ⟨zs.take len, Or.inr ⟨a, cap, by rw [hlen], by omega, hm, fun i h => ?_, fun x hx => hwz x (List.mem_of_mem_take hx)⟩, ?_, ?_⟩
    · rw [hcell i (by omega)]
      congr 2
      rw [List.getElem_take, List.getD, List.getElem?_eq_getElem (by omega)]; rfl
    · intro x hx
      simp only [MemPlace.row, List.mem_map, List.mem_range] at hx
      obtain ⟨i, hi, rfl⟩ := hx
      have := World.block_lt_of_cell? W (a.add 0) (hcell 0 (by omega))
      have e : (a.add 0).block = a.block := by unfold Addr.add; split <;> rfl
      rw [e] at this
      exact this
    · have := bulk_lits (H := H) (zs.take len)
      simp only [Rows.uptoBulk]
      omega
theorem lies_below {w x : World} {v : Value} {z : List Int} (h : Lies w v z) (hb : Below w.heap.size w x) : Lies x v z := by
  rcases h with h | ⟨a, cap, e, h1, h2, hc, hz⟩
  · exact Or.inl h
  · exact Or.inr ⟨a, cap, e, h1, h2, fun i hi => (hb.cell (World.block_lt_of_cell? w _ (hc i hi))).trans (hc i hi), hz⟩
theorem lies_but {w x : World} {v : Value} {z : List Int} {n : Nat} (h : Lies w v z) (hn : w.heap.size ≤ n) (hb : ∀ k, k < n → x.heap[k]? = w.heap[k]?) : Lies x v z := by
  rcases h with h | ⟨a, cap, e, h1, h2, hc, hz⟩
  · exact Or.inl h
  · exact Or.inr ⟨a, cap, e, h1, h2, fun i hi => by
      have hlt := World.block_lt_of_cell? w _ (hc i hi)
      exact (World.cell?_of_block (w := w) (hb _ (by omega))).trans (hc i hi), hz⟩
/-! numbers in cells -/
def inC (n : Nat) (f : Nat → Int) : Array Value := ((List.range n).map fun i => Value.int .i64 (f i)).toArray
theorem inC_size (n : Nat) (f : Nat → Int) : (inC n f).size = n := by simp [inC]
theorem inC_get (n : Nat) (f : Nat → Int) (i : Nat) (h : i < n) : (inC n f)[i]? = some (.int .i64 (f i)) := by simp [inC, h]
def updI (f : Nat → Int) (k : Nat) (b : Int) : Nat → Int := fun i => if i = k then b else f i
theorem inC_set (n : Nat) (f : Nat → Int) (k : Nat) (b : Int) (h : k < n) : (inC n f).setIfInBounds k (.int .i64 b) = inC n (updI f k b) := by
  apply Array.ext_getElem?
  intro i
  by_cases hi : i < n
  · rw [inC_get _ _ _ hi, Array.getElem?_setIfInBounds]
    by_cases e : k = i
    · subst e; simp [updI, inC_size, h]
    · rw [if_neg e, inC_get _ _ _ hi, updI, if_neg (fun x => e x.symm)]
  · rw [Array.getElem?_eq_none (by simp [inC_size]; omega), Array.getElem?_eq_none (by simp [inC_size]; omega)]
theorem inC_ext {n : Nat} {f g : Nat → Int} (h : ∀ i, i < n → f i = g i) : inC n f = inC n g := by
  simp only [inC]; congr 1
  apply List.map_congr_left
  intro i hi
  rw [h i (List.mem_range.1 hi)]
theorem made_inC (n : Nat) : madeCells #[.int .i64 0] n = inC n (fun _ => 0) := by
  apply Array.ext_getElem?
  intro i
  by_cases hi : i < n
  · rw [inC_get _ _ _ hi]
    simp [madeCells, hi, Nat.mod_one]
  · rw [Array.getElem?_eq_none (by rw [size_madeCells]; omega), Array.getElem?_eq_none (by rw [inC_size]; omega)]
end Go.Proofs.Ytfoddooehanemaa.Sl
