/- A slice of truths that came in. -/
import Derived.Test.YtheeicjoblkfnaaGreatDoorRows
import Derived.WalkKit
import Derived.ProofKit
import Derived.OpenShut
import Derived.ChangeSlices
import Derived.Deep.Grids
import Derived.Below
namespace Go.Proofs.YtheeicjoblkfnaaGreatDoor.Sb
set_option linter.unusedVariables false
open Go.ChangeShapes Go.WideShapes Go.ChangeAt Go.RowKit
/-- the value is a slice of n truths, or nil and there are none -/
def Lies (w : World) (v : Value) (z : Nat → Bool) (n : Nat) : Prop :=
  (v = .slice none 0 0 ∧ n = 0) ∨ ∃ (a : Addr) (cap : Nat), v = .slice (some a) n cap ∧ n ≤ cap ∧ cap ≤ maxLen ∧ (∀ i, i < n → w.cell? (a.add i) = some (.bool (z i)))
theorem cellsB : Tryz.prog.cellsOf 4 = 1 := by kernel_rfl
set_option maxRecDepth 100000 in
theorem open_sb {H : Type} {enc : TypeId × Value → H} {W : World} {b0 : Nat} {r : Reach} {v : Value} {d : DataW H} {ps : List MemPlace}
    (hval : Value.okWide Tryz.prog W r b0 48 v) (hd : DataW.Trod enc Tryz.prog W 0 (fun _ => true) true 48 v d ps) :
    ∃ z n, Lies W v z n ∧ (∀ x ∈ ps, x.block < W.heap.size) := by
  obtain ⟨a0, len, cap, rfl⟩ := okWide_slice Tryz.underlying48 hval
  obtain ⟨fuel, hf⟩ := hd
  rcases Go.Deep.open_bools Tryz.underlying48 Tryz.underlying4 cellsB hf with ⟨hcs, hx⟩ | ⟨a, len', cap', B, hcs, _, hl, hm, hx, hcell⟩
  · simp only [Prod.mk.injEq] at hx
    obtain ⟨rfl, rfl⟩ := hx
    simp [Value.cells] at hcs
    obtain ⟨rfl, rfl, rfl⟩ := hcs
    exact ⟨fun _ => false, 0, Or.inl ⟨rfl, rfl⟩, (fun x hx => by simp at hx)⟩
  · simp only [Prod.mk.injEq] at hx
    obtain ⟨rfl, rfl⟩ := hx
    simp [Value.cells] at hcs
    obtain ⟨rfl, rfl, rfl⟩ := hcs
    refine ⟨B, len, Or.inr ⟨a, cap, rfl, hl, hm, fun i h => hcell i (by omega)⟩, ?_⟩
    intro x hx
    simp only [MemPlace.row, List.mem_map, List.mem_range] at hx
    obtain ⟨i, hi, rfl⟩ := hx
    have := World.block_lt_of_cell? W (a.add 0) (hcell 0 (by omega))
    have e : (a.add 0).block = a.block := by unfold Addr.add; split <;> rfl
    rw [e] at this
    exact this
theorem lies_below {w x : World} {v : Value} {z : Nat → Bool} {n : Nat} (h : Lies w v z n) (hb : Below w.heap.size w x) : Lies x v z n := by
  rcases h with h | ⟨a, cap, e, h1, h2, hc⟩
  · exact Or.inl h
  · exact Or.inr ⟨a, cap, e, h1, h2, fun i hi => (hb.cell (World.block_lt_of_cell? w _ (hc i hi))).trans (hc i hi)⟩
end Go.Proofs.YtheeicjoblkfnaaGreatDoor.Sb
