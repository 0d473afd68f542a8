/- What stays of a trie while others write: blocks of nodes, of numbers and of yields. -/
import Derived.Test.YtecboaocoobjgaaGreatDoorTj
import Derived.Test.YtecboaocoobjgaaGreatDoorSr
namespace Go.Proofs.YtecboaocoobjgaaGreatDoor.Kq
set_option linter.unusedVariables false
set_option linter.unusedSimpArgs false
open Go.RowKit Lib0 Kb Rp Rw Rs Li Mj Tj Sr
abbrev tY : TypeId := 66
def tOk (t : TypeId) : Prop := t = tN ∨ t = tT ∨ t = tY
structure KQ (X : List Nat) (A B : World) : Prop where
  size : A.heap.size ≤ B.heap.size
  cells : ∀ (b : Nat) (c : Array Value) (t : TypeId) (fr : Nat × Nat), tOk t → b ∉ X → A.heap[b]? = some (.cells c t fr) → B.heap[b]? = some (.cells c t fr)
theorem KQ.refl (X : List Nat) (A : World) : KQ X A A := ⟨Nat.le_refl _, fun _ _ _ _ _ _ h => h⟩
theorem KQ.trans {X : List Nat} {A B C : World} (h : KQ X A B) (k : KQ X B C) : KQ X A C := ⟨Nat.le_trans h.size k.size, fun b c t fr ht hb e => k.cells b c t fr ht hb (h.cells b c t fr ht hb e)⟩
theorem KQ.kt {X : List Nat} {A B : World} (h : KT X A B) : KQ X A B := ⟨h.size, fun b c t fr _ hb e => h.cells b c t fr hb e⟩
theorem KQ.of {X : List Nat} {A B : World} (h : Below A.heap.size A B) : KQ X A B := KQ.kt (KT.of h)
theorem KQ.put {X : List Nat} {A : World} {l : Nat} {o : Obj} (h : A.heap[l]? = some o) (hc : o.isCells = false) (o' : Obj) : KQ X A (A.putObj l o') := KQ.kt (KT.put h hc o')
theorem KQ.set {X : List Nat} {A : World} {g : Nat} {c : Array Value} {t : TypeId} {fr : Nat × Nat} (hg : A.heap[g]? = some (.cells c t fr)) (ht : ¬ tOk t) (o : Nat) (v : Value) : KQ X A (A.setCell ⟨g, o, none⟩ v) :=
  ⟨by rw [setCell_size]; exact Nat.le_refl _, fun b c' t' fr' ht' hb e => (setCell_ne (fun h : g = b => by subst h; rw [hg] at e; cases e; exact ht ht') o v).trans e⟩
theorem KQ.setX {X : List Nat} {A : World} {g : Nat} (hg : g ∈ X) (o : Nat) (v : Value) : KQ X A (A.setCell ⟨g, o, none⟩ v) := KQ.kt (KT.set hg o v)
theorem KQ.grown {X : List Nat} {A B : World} {row : Option Nat} (h : A.grownBy B row) (hr : ∀ r, row = some r → ∃ c t fr, A.heap[r]? = some (.cells c t fr) ∧ ¬ tOk t) : KQ X A B :=
  ⟨h.size, fun b c t fr ht _ e => (h.block b (Array.getElem?_eq_some_iff.1 e).1 (fun e2 => by obtain ⟨c', t', fr', h1, h2⟩ := hr b e2.symm; rw [e] at h1; cases h1; exact h2 ht)).trans e⟩
theorem Lay.keptQ {w w' : World} {X : List Nat} {lv : Option (Nat × Value)} (h : Lay tT w X lv) (k : KQ X w w') : Lay tT w' X lv := fun c v e => ⟨(h c v e).1, k.cells _ _ _ _ (.inr (.inl rfl)) (h c v e).1 (h c v e).2⟩
theorem In.keptQ {w w' : World} {X : List Nat} (k : KQ X w w') : ∀ T : Tn, InT w X T → InT w' X T
  | .nil, _ => trivial
  | .nd b lv kids, h => ⟨h.1, k.cells _ _ _ _ (.inl rfl) h.1 h.2.1, Lay.keptQ h.2.2.1 k, fun d => In.keptQ k (kids d) (h.2.2.2 d)⟩
end Go.Proofs.YtecboaocoobjgaaGreatDoor.Kq
