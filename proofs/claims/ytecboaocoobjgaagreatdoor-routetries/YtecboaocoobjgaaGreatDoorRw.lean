/- Tries in memory: what stays; nodes. -/
import Derived.Test.YtecboaocoobjgaaGreatDoorRp
import Derived.Test.YtecboaocoobjgaaGreatDoorKb
import Derived.Test.YtecboaocoobjgaaGreatDoorSq
namespace Go.Proofs.YtecboaocoobjgaaGreatDoor.Rw
set_option linter.unusedVariables false
set_option linter.unusedSimpArgs false
open Go.RowKit Lib0 Kb Rp
theorem setCell_heap {w : World} {g : Nat} {c : Array Value} {t : TypeId} {fr : Nat × Nat} (h : w.heap[g]? = some (.cells c t fr)) (o : Nat) (v : Value) : (w.setCell ⟨g, o, none⟩ v).heap[g]? = some (.cells (c.setIfInBounds o v) t fr) := by
  show (w.heap.modify g _)[g]? = _
  rw [Array.getElem?_modify]; simp [h]
theorem setCell_ne {w : World} {g k : Nat} (h : g ≠ k) (o : Nat) (v : Value) : (w.setCell ⟨g, o, none⟩ v).heap[k]? = w.heap[k]? := by
  show (w.heap.modify g _)[k]? = _
  rw [Array.getElem?_modify]; simp [h]
theorem setCell_size (w : World) (g o : Nat) (v : Value) : (w.setCell ⟨g, o, none⟩ v).heap.size = w.heap.size := by
  show (w.heap.modify g _).size = _
  simp
/-- every block of cells stays, but these -/
structure KT (X : List Nat) (A B : World) : Prop where
  size : A.heap.size ≤ B.heap.size
  cells : ∀ (b : Nat) (c : Array Value) (t : TypeId) (fr : Nat × Nat), b ∉ X → A.heap[b]? = some (.cells c t fr) → B.heap[b]? = some (.cells c t fr)
theorem KT.refl (X : List Nat) (A : World) : KT X A A := ⟨Nat.le_refl _, fun _ _ _ _ _ h => h⟩
theorem KT.trans {X : List Nat} {A B C : World} (h : KT X A B) (k : KT X B C) : KT X A C := ⟨Nat.le_trans h.size k.size, fun b c t fr hb e => k.cells b c t fr hb (h.cells b c t fr hb e)⟩
theorem KT.of {X : List Nat} {A B : World} (h : Below A.heap.size A B) : KT X A B := ⟨h.size, fun b c t fr _ e => (h.block b (Array.getElem?_eq_some_iff.1 e).1).trans e⟩
theorem KT.set {X : List Nat} {A : World} {g : Nat} (hg : g ∈ X) (o : Nat) (v : Value) : KT X A (A.setCell ⟨g, o, none⟩ v) :=
  ⟨by rw [setCell_size]; exact Nat.le_refl _, fun b c t fr hb e => (setCell_ne (fun h : g = b => hb (by rw [← h]; exact hg)) o v).trans e⟩
theorem KT.setNew {X : List Nat} {A B : World} {g : Nat} (h : KT X A B) (hg : A.heap.size ≤ g) (o : Nat) (v : Value) : KT X A (B.setCell ⟨g, o, none⟩ v) :=
  ⟨by rw [setCell_size]; exact h.size, fun b c t fr hb e => (setCell_ne (fun h => by have := (Array.getElem?_eq_some_iff.1 e).1; omega) o v).trans (h.cells b c t fr hb e)⟩
theorem KT.put {X : List Nat} {A : World} {l : Nat} {o : Obj} (h : A.heap[l]? = some o) (hc : o.isCells = false) (o' : Obj) : KT X A (A.putObj l o') :=
  ⟨by simp [World.putObj], fun b c t fr hb e => (World.putObj_heap_other (fun e2 => by subst e2; rw [h] at e; cases e; cases hc)).trans e⟩
theorem KT.mono {X Y : List Nat} {A B : World} (h : KT X A B) (hs : ∀ b ∈ X, b ∈ Y) : KT Y A B := ⟨h.size, fun b c t fr hb e => h.cells b c t fr (fun h2 => hb (hs b h2)) e⟩
/-- what the second part turns besides is new -/
theorem KT.trans2 {X Y : List Nat} {A B C : World} (h : KT X A B) (k : KT Y B C) (hs : ∀ b ∈ Y, b ∈ X ∨ A.heap.size ≤ b) : KT X A C :=
  ⟨Nat.le_trans h.size k.size, fun b c t fr hb e => k.cells b c t fr (fun h2 => (hs b h2).elim hb (fun h3 => by have := (Array.getElem?_eq_some_iff.1 e).1; omega)) (h.cells b c t fr hb e)⟩
/-- what stays: all blocks but these -/
structure Fr (B : List Nat) (w w' : World) : Prop where
  os : w'.os = w.os
  tape : w'.tape = w.tape
  output : w'.output = w.output
  size : w.heap.size ≤ w'.heap.size
  block : ∀ b, b < w.heap.size → b ∉ B → w'.heap[b]? = w.heap[b]?
theorem Fr.refl (B : List Nat) (w : World) : Fr B w w := ⟨rfl, rfl, rfl, Nat.le_refl _, fun _ _ _ => rfl⟩
theorem Fr.trans {B : List Nat} {w x y : World} (h : Fr B w x) (k : Fr B x y) : Fr B w y := ⟨k.os.trans h.os, k.tape.trans h.tape, k.output.trans h.output, Nat.le_trans h.size k.size, fun b hb hn => (k.block b (Nat.lt_of_lt_of_le hb h.size) hn).trans (h.block b hb hn)⟩
theorem Fr.trans2 {B C : List Nat} {w x y : World} (h : Fr B w x) (k : Fr C x y) (hc : ∀ b ∈ C, b ∈ B ∨ w.heap.size ≤ b) : Fr B w y := ⟨k.os.trans h.os, k.tape.trans h.tape, k.output.trans h.output, Nat.le_trans h.size k.size, fun b hb hn => (k.block b (Nat.lt_of_lt_of_le hb h.size) (fun h2 => (hc b h2).elim hn (fun h3 => by omega))).trans (h.block b hb hn)⟩
theorem Fr.of {B : List Nat} {w x : World} (h : Below w.heap.size w x) : Fr B w x := ⟨h.os, h.tape, h.output, h.size, fun b hb _ => h.block b hb⟩
theorem Fr.below {w x : World} (h : Fr [] w x) : Below w.heap.size w x := ⟨h.os, h.tape, h.output, h.size, fun b hb => h.block b hb (by simp)⟩
theorem Fr.mono {B C : List Nat} {w x : World} (h : Fr B w x) (hc : ∀ b ∈ B, b ∈ C) : Fr C w x := ⟨h.os, h.tape, h.output, h.size, fun b hb hn => h.block b hb fun h2 => hn (hc b h2)⟩
theorem Fr.set {B : List Nat} {w x : World} {g : Nat} (h : Fr B w x) (hg : g ∈ B ∨ w.heap.size ≤ g) (o : Nat) (v : Value) : Fr B w (x.setCell ⟨g, o, none⟩ v) :=
  ⟨h.os, h.tape, h.output, by rw [setCell_size]; exact h.size, fun b hb hn => (setCell_ne (fun e : g = b => hg.elim (fun h2 => hn (e ▸ h2)) (fun h3 => by omega)) o v).trans (h.block b hb hn)⟩
theorem Fr.alloc {B : List Nat} {w x : World} (h : Fr B w x) (o : Obj) : Fr B w (x.alloc o) := h.trans (Fr.of (below_one x o))
theorem Fr.kt {B : List Nat} {w x : World} (h : Fr B w x) : KT B w x := ⟨h.size, fun b c t fr hb e => (h.block b (Array.getElem?_eq_some_iff.1 e).1 hb).trans e⟩
/-- what a Fr leaves below a number -/
theorem Fr.behind {B : List Nat} {w x y : World} (h : Below w.heap.size w x) (k : Fr B x y) (hB : ∀ b ∈ B, w.heap.size ≤ b) : Below w.heap.size w y :=
  ⟨k.os.trans h.os, k.tape.trans h.tape, k.output.trans h.output, Nat.le_trans h.size k.size, fun b hb => (k.block b (Nat.lt_of_lt_of_le hb h.size) (fun h2 => by have := hB b h2; omega)).trans (h.block b hb)⟩
def la : Option (Nat × Value) → Option Addr
  | none => none
  | some (b, _) => some ⟨b, 0, none⟩
def pa : Tn → Option Addr
  | .nil => none
  | .nd b _ _ => some ⟨b, 0, none⟩
abbrev lptr (lv : Option (Nat × Value)) : Value := .pointer (la lv)
abbrev ptr (T : Tn) : Value := .pointer (pa T)
/-- what is laid lies in a block of its own -/
def Lay (tT : TypeId) (w : World) (X : List Nat) (lv : Option (Nat × Value)) : Prop := ∀ c v, lv = some (c, v) → c ∉ X ∧ w.heap[c]? = some (.cells #[v] tT)
def rowV (lv : Option (Nat × Value)) (kids : Fin 10 → Tn) : Array Value := #[lptr lv, ptr (kids 0), ptr (kids 1), ptr (kids 2), ptr (kids 3), ptr (kids 4), ptr (kids 5), ptr (kids 6), ptr (kids 7), ptr (kids 8), ptr (kids 9)]
/-- a trie's nodes in memory, none of them among X -/
def In (tN tT : TypeId) (w : World) (X : List Nat) : Tn → Prop
  | .nil => True
  | .nd b lv kids => b ∉ X ∧ w.heap[b]? = some (.cells (rowV lv kids) tN) ∧ Lay tT w X lv ∧ ∀ d, In tN tT w X (kids d)
theorem Lay.kept {tT : TypeId} {w w' : World} {X : List Nat} {lv : Option (Nat × Value)} (h : Lay tT w X lv) (k : KT X w w') : Lay tT w' X lv := fun c v e => ⟨(h c v e).1, k.cells _ _ _ _ (h c v e).1 (h c v e).2⟩
theorem Lay.none (tT : TypeId) (w : World) (X : List Nat) : Lay tT w X none := fun _ _ e => by cases e
theorem In.kept {tN tT : TypeId} {w w' : World} {X : List Nat} (k : KT X w w') : ∀ T : Tn, In tN tT w X T → In tN tT w' X T
  | .nil, _ => trivial
  | .nd b lv kids, h => ⟨h.1, k.cells _ _ _ _ h.1 h.2.1, h.2.2.1.kept k, fun d => In.kept k (kids d) (h.2.2.2 d)⟩
theorem Lay.more {tT : TypeId} {w : World} {X Y : List Nat} {lv : Option (Nat × Value)} (h : Lay tT w X lv) (hY : ∀ b ∈ Y, b ∈ X ∨ w.heap.size ≤ b) : Lay tT w Y lv := fun c v e => ⟨fun h2 => (hY c h2).elim (h c v e).1 (fun h3 => by have := (Array.getElem?_eq_some_iff.1 (h c v e).2).1; omega), (h c v e).2⟩
/-- blocks that are new are none of the nodes' -/
theorem In.more {tN tT : TypeId} {w : World} {X Y : List Nat} (hY : ∀ b ∈ Y, b ∈ X ∨ w.heap.size ≤ b) : ∀ T : Tn, In tN tT w X T → In tN tT w Y T
  | .nil, _ => trivial
  | .nd b lv kids, h => ⟨fun h2 => (hY b h2).elim h.1 (fun h3 => by have := (Array.getElem?_eq_some_iff.1 h.2.1).1; omega), h.2.1, h.2.2.1.more hY, fun d => In.more hY (kids d) (h.2.2.2 d)⟩
theorem In.nodes_mem {tN tT : TypeId} {w : World} {X : List Nat} : ∀ (T : Tn) (pre : K), In tN tT w X T → ∀ x ∈ T.nodes pre, x.2.1 ∉ X ∧ (∃ kids, w.heap[x.2.1]? = some (.cells (rowV x.2.2 kids) tN)) ∧ Lay tT w X x.2.2
  | .nil, pre, h, x, hx => by simp [Tn.nodes] at hx
  | .nd b lv kids, pre, h, x, hx => by
    simp only [Tn.nodes, List.mem_cons, List.mem_flatMap] at hx
    rcases hx with rfl | ⟨d, _, hx⟩
    · exact ⟨h.1, ⟨kids, h.2.1⟩, h.2.2.1⟩
    · exact In.nodes_mem (kids d) _ (h.2.2.2 d) x hx
theorem rowV_kid (lv : Option (Nat × Value)) (kids : Fin 10 → Tn) (d : Fin 10) : (rowV lv kids)[1 + d.1]? = some (ptr (kids d)) := by
  obtain ⟨d, hd⟩ := d
  match d, hd with
  | 0, _ => rfl
  | 1, _ => rfl
  | 2, _ => rfl
  | 3, _ => rfl
  | 4, _ => rfl
  | 5, _ => rfl
  | 6, _ => rfl
  | 7, _ => rfl
  | 8, _ => rfl
  | 9, _ => rfl
theorem rowV_size (lv : Option (Nat × Value)) (kids : Fin 10 → Tn) : (rowV lv kids).size = 11 := rfl
theorem rowV_setKid (lv : Option (Nat × Value)) (kids : Fin 10 → Tn) (d : Fin 10) (T : Tn) : (rowV lv kids).setIfInBounds (1 + d.1) (ptr T) = rowV lv (fun e => if e = d then T else kids e) := by
  obtain ⟨d, hd⟩ := d
  match d, hd with
  | 0, _ => rfl
  | 1, _ => rfl
  | 2, _ => rfl
  | 3, _ => rfl
  | 4, _ => rfl
  | 5, _ => rfl
  | 6, _ => rfl
  | 7, _ => rfl
  | 8, _ => rfl
  | 9, _ => rfl
theorem rowV_setLaid (lv th : Option (Nat × Value)) (kids : Fin 10 → Tn) : (rowV lv kids).setIfInBounds 0 (lptr th) = rowV th kids := rfl
/-- the longest beginning of fewer than i -/
def lonP {α : Type} (f : K → Option α) (s : K) : Nat → Option (α × Nat)
  | 0 => none
  | i + 1 => lon f s i
theorem lonP_some {α : Type} (f : K → Option α) (s : K) (i : Nat) (v : α) (h : f (s.take i) = some v) : lonP f s (i + 1) = some (v, i) := lon_at f s i v h
theorem lonP_none {α : Type} (f : K → Option α) (s : K) (i : Nat) (h : f (s.take i) = none) : lonP f s (i + 1) = lonP f s i := by
  cases i with
  | zero => simp only [List.take_zero] at h; simp [lonP, lon, h]
  | succ i => simp [lonP, lon, h]
theorem lonP_up {α : Type} (f : K → Option α) (s : K) (i n : Nat) (hi : i ≤ n + 1) (h : ∀ j, i ≤ j → j ≤ n → f (s.take j) = none) : lon f s n = lonP f s i := by
  cases i with
  | zero => exact lon_none f s n fun j hj => h j (Nat.zero_le _) hj
  | succ i =>
    have := lon_up f s i (n - i) fun j h1 h2 => h j (by omega) (by omega)
    rw [show i + (n - i) = n by omega] at this
    exact this
end Go.Proofs.YtecboaocoobjgaaGreatDoor.Rw
