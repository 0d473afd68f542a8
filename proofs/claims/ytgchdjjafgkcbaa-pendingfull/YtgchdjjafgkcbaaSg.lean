/- Slices of texts and of numbers that came in. -/
import Derived.Test.YtgchdjjafgkcbaaRows
import Derived.WalkKit
import Derived.ProofKit
import Derived.OpenShut
import Derived.ChangeSlices
import Derived.SliceStrings
import Derived.Below
namespace Go.Proofs.Ytgchdjjafgkcbaa.Sg
set_option linter.unusedVariables false
open Go.ChangeShapes Go.WideShapes Go.ChangeAt Go.RowKit
/-- the value is a slice of these texts; nil, if there are none -/
def Lies (w : World) (v : Value) (z : List ByteArray) : Prop :=
  ∃ (o : Option Addr) (cap : Nat), v = .slice o z.length cap ∧ z.length ≤ 9223372036854775807 ∧ ∀ i (h : i < z.length), ∃ a : Addr, o = some a ∧ w.cell? (a.add i) = some (.string z[i]) ∧ z[i].size ≤ maxLen
def LiesI (w : World) (v : Value) (z : List Int) : Prop :=
  ∃ (o : Option Addr) (cap : Nat), v = .slice o z.length cap ∧ z.length ≤ 9223372036854775807 ∧ ∀ i (h : i < z.length), ∃ a : Addr, o = some a ∧ w.cell? (a.add i) = some (.int .i64 z[i]) ∧ (Lit.int .i64 z[i]).wf = true
theorem cellsS : Try.prog.cellsOf 9 = 1 := by kernel_rfl
theorem cellsI : Try.prog.cellsOf 3 = 1 := by kernel_rfl
theorem bulk_strs {H : Type} : ∀ zs : List ByteArray, zs.length ≤ Rows.uptoBulkAll (strs (H := H) zs)
  | [] => Nat.zero_le _
  | a :: zs => by
    have ih := bulk_strs (H := H) zs
    show zs.length + 1 ≤ Rows.uptoBulk (DataW.lit (.string a.data.toList)) + Rows.uptoBulkAll (strs zs)
    have : 1 ≤ Rows.uptoBulk (H := H) (DataW.lit (.string a.data.toList)) := by simp [Rows.uptoBulk]
    omega
theorem bulk_lits {H : Type} (zs : List Int) : zs.length ≤ Rows.uptoBulkAll (lits (H := H) .i64 zs) := by
  induction zs with
  | nil => exact Nat.zero_le _
  | cons a zs ih =>
    show zs.length + 1 ≤ Rows.uptoBulk (DataW.lit (.int .i64 a)) + Rows.uptoBulkAll (lits .i64 zs)
    have : 1 ≤ Rows.uptoBulk (H := H) (DataW.lit (.int .i64 a)) := by simp [Rows.uptoBulk]
    omega
set_option maxRecDepth 100000 in
theorem open_si {H : Type} {enc : TypeId × Value → H} {W : World} {b0 : Nat} {r : Reach} {v : Value} {d : DataW H} {ps : List MemPlace}
    (hval : Value.okWide Try.prog W r b0 40 v) (hd : DataW.Trod enc Try.prog W 0 (fun _ => true) true 40 v d ps) :
    ∃ z, LiesI W v z ∧ (∀ x ∈ ps, x.block < W.heap.size) ∧ z.length ≤ Rows.uptoBulk d := by
  obtain ⟨a0, len, cap, rfl⟩ := okWide_slice Try.underlying40 hval
  obtain ⟨fuel, hf⟩ := hd
  rcases open_ints Try.underlying40 Try.underlying3 cellsI hf with ⟨hcs, hx⟩ | ⟨a, len', cap', zs, hcs, _, hl, hm, hz, hx, hcell, hwz⟩
  · simp only [Prod.mk.injEq] at hx
    obtain ⟨rfl, rfl⟩ := hx
    simp [Value.cells] at hcs
    obtain ⟨rfl, rfl, rfl⟩ := hcs
    exact ⟨[], ⟨Option.none, 0, rfl, Nat.zero_le _, fun i h => absurd h (Nat.not_lt_zero _)⟩, (fun x hx => by simp at hx), Nat.zero_le _⟩
  · simp only [Prod.mk.injEq] at hx
    obtain ⟨rfl, rfl⟩ := hx
    simp [Value.cells] at hcs
    obtain ⟨rfl, rfl, rfl⟩ := hcs
    simp only [if_true] at hz
    have hlen : (zs.take len).length = len := by rw [List.length_take]; omega
    have hm' : cap ≤ 9223372036854775807 := by unfold maxLen at hm; exact hm
    refine ⟨zs.take len, ⟨some a, cap, by rw [hlen], by omega, fun i h => ⟨a, rfl, ?_, ?_⟩⟩, ?_, ?_⟩
    · rw [hcell i (by omega)]
      congr 2
      rw [List.getElem_take, List.getD, List.getElem?_eq_getElem (by omega)]; rfl
    · exact hwz _ (List.mem_of_mem_take (List.getElem_mem h))
    · intro x hx
      simp only [MemPlace.row, List.mem_map, List.mem_range] at hx
      obtain ⟨i, hi, rfl⟩ := hx
      have := World.block_lt_of_cell? W (a.add 0) (hcell 0 (by omega))
      have e : (a.add 0).block = a.block := by unfold Addr.add; split <;> rfl
      rw [e] at this
      exact this
    · have := bulk_lits (H := H) (zs.take len)
      simp only [Rows.uptoBulk]
      omega
theorem lies_below {w x : World} {v : Value} {z : List ByteArray} (h : Lies w v z) (hb : Below w.heap.size w x) : Lies x v z := by
  obtain ⟨o, cap, e, h1, hc⟩ := h
  exact ⟨o, cap, e, h1, fun i hi => by obtain ⟨a, ea, hca, hz⟩ := hc i hi; exact ⟨a, ea, (hb.cell (World.block_lt_of_cell? w _ hca)).trans hca, hz⟩⟩
theorem liesI_below {w x : World} {v : Value} {z : List Int} (h : LiesI w v z) (hb : Below w.heap.size w x) : LiesI x v z := by
  obtain ⟨o, cap, e, h1, hc⟩ := h
  exact ⟨o, cap, e, h1, fun i hi => by obtain ⟨a, ea, hca, hz⟩ := hc i hi; exact ⟨a, ea, (hb.cell (World.block_lt_of_cell? w _ hca)).trans hca, hz⟩⟩
end Go.Proofs.Ytgchdjjafgkcbaa.Sg
