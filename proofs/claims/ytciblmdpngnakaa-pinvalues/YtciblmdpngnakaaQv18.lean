import Derived.Test.YtciblmdpngnakaaQv17
import Derived.Test.YtciblmdpngnakaaQv12
/- Chain, Unchain: the closures. -/
namespace Go.Proofs.Ytciblmdpngnakaa.Cc
set_option linter.unusedVariables false
open Go.RowKit Pla Cb Tk Sm Wd Nw Bk Aw Eb Ec Et
theorem xor64 (a b : List Bool) (ha : a.length = 64) (hb : b.length = 64) : bits .xor .u64 (val a : Int) (val b : Int) = (val (xr a b) : Int) := by
  have v1 := val_lt a
  have v2 := val_lt b
  rw [ha] at v1
  rw [hb] at v2
  rw [u64_xor_nat _ _ v1 v2, val_xr a b (by rw [ha, hb])]
theorem one_cell {w : World} {b : Nat} {v : Value} {t : TypeId} (h : w.heap[b]? = some (.cells #[v] t)) : w.cell? ⟨b, 0, none⟩ = some v ∧ w.frozen? ⟨b, 0, none⟩ = false := by
  refine ⟨?_, ?_⟩ <;> simp [World.cell?, World.frozen?, h]
/-- what comes ahead of the block i of a chain -/
def ahd (l : List UInt8) (first : List Bool) (s : List UInt8) : Nat → List Bool
  | 0 => first
  | i + 1 => enc l (xr (blk s i) (ahd l first s i))
def chainL (l : List UInt8) (first : List Bool) (s : List UInt8) : List UInt8 := outN (fun i => ahd l first s (i + 1)) (s.length / 8)
/-- the block ahead of i -/
def prv (first : List Bool) (s : List UInt8) : Nat → List Bool
  | 0 => first
  | i + 1 => blk s i
def unchL (l : List UInt8) (first : List Bool) (s : List UInt8) : List UInt8 := outN (fun i => xr (dec l (blk s i)) (prv first s i)) (s.length / 8)
theorem ahd_len (l : List UInt8) (first : List Bool) (hf : first.length = 64) (s : List UInt8) : ∀ i, (ahd l first s i).length = 64
  | 0 => hf
  | i + 1 => enc_len _ _
theorem ahd_lenS (l : List UInt8) (first : List Bool) (s : List UInt8) (i : Nat) : (ahd l first s (i + 1)).length = 64 := enc_len _ _
/-- a world that is as w but for the block c -/
def Xc (c : Nat) (a w : World) : Prop := w.os = a.os ∧ w.tape = a.tape ∧ w.output = a.output ∧ a.heap.size ≤ w.heap.size ∧ ∀ k, k < a.heap.size → k ≠ c → w.heap[k]? = a.heap[k]?
theorem Xc.refl (c : Nat) (a : World) : Xc c a a := ⟨rfl, rfl, rfl, Nat.le_refl _, fun _ _ _ => rfl⟩
theorem Xc.below {c : Nat} {a w y : World} (h : Xc c a w) (hb : Below a.heap.size w y) : Xc c a y :=
  ⟨hb.os.trans h.1, hb.tape.trans h.2.1, hb.output.trans h.2.2.1, Nat.le_trans h.2.2.2.1 hb.size, fun k hk hc => (hb.block k hk).trans (h.2.2.2.2 k hk hc)⟩
theorem Xc.set {c : Nat} {a w : World} (h : Xc c a w) (v : Value) : Xc c a (w.setCell ⟨c, 0, none⟩ v) :=
  ⟨h.1, h.2.1, h.2.2.1, by have := h.2.2.2.1; simpa [World.setCell] using this, fun k hk hc => (setCell_ne (fun e => hc e.symm) 0 v).trans (h.2.2.2.2 k hk hc)⟩
theorem row_set {w : World} {B e size n c : Nat} {v u : Value} {xs : List Value} (h : w.ownsRow B e size v n xs) (hc : c < B) : (w.setCell ⟨c, 0, none⟩ u).ownsRow B e size v n xs := by
  obtain ⟨hl, h2⟩ := h
  cases h2 with
  | inl h => exact ⟨hl, Or.inl h⟩
  | inr h =>
    obtain ⟨g, cap, cur, hv, hB, hat, hrest⟩ := h
    exact ⟨hl, Or.inr ⟨g, cap, cur, hv, hB, (setCell_ne (by omega) 0 u).trans hat, hrest⟩⟩
theorem setCell_size (w : World) (c : Nat) (v : Value) : (w.setCell ⟨c, 0, none⟩ v).heap.size = w.heap.size := by simp [World.setCell]
end Go.Proofs.Ytciblmdpngnakaa.Cc
/- Chain, Unchain. -/
namespace Go.Proofs.Ytciblmdpngnakaa.Ch
set_option linter.unusedVariables false
open Go.RowKit Pla Cb Tk Sm Wd Nw Bk Aw Eb Ec Et Cc
theorem prv_lenS (F : List Bool) (hF : F.length = 64) (s : ByteArray) (N : Nat) (h : s.size = 8 * N) : ∀ i, i < N → (prv F s.data.toList i).length = 64
  | 0, _ => hF
  | i + 1, hi => blk_len' s i (by omega)
end Go.Proofs.Ytciblmdpngnakaa.Ch
