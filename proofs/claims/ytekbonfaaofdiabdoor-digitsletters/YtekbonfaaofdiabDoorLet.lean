/- The letters of EBCDIC: closed facts on the table. -/
import Derived.Test.YtekbonfaaofdiabDoorUnp
import Derived.Test.YtekbonfaaofdiabDoorLib1
import Derived.Test.YtekbonfaaofdiabDoorPick
namespace Go.Proofs.YtekbonfaaofdiabDoor.Let
open Go.RowKit Lib0 Chars Ebc Frm Spl Pck Rdd Unp
/-- which bytes have been met, behind k signs -/
def seenL : Nat → List Bool
  | 0 => List.replicate 256 false
  | k + 1 => (seenL k).set (ebc (32 + k).toUInt8).toNat true
theorem seenL_length : ∀ k, (seenL k).length = 256
  | 0 => by rw [seenL, List.length_replicate]
  | k + 1 => by rw [seenL, List.length_set, seenL_length k]
def bv (l : List Bool) : List Value := l.map Value.bool
theorem bv_get (l : List Bool) (j : Nat) (h : j < l.length) : (bv l)[j]? = some (.bool (l.getD j false)) := by simp [bv, List.getD, h]
theorem bv_set (l : List Bool) (k : Nat) (b : Bool) : (bv l).set k (.bool b) = bv (l.set k b) := by simp [bv, List.map_set]
theorem zB : Tryd.zeroCells33 = (bv (seenL 0)).toArray := by kernel_rfl
theorem seen_cell {w : World} {g k : Nat} {T : TypeId} (hg : w.heap[g]? = some (.cells (bv (seenL k)).toArray T (0, 0))) (j : Nat) (hj : j < 256) : w.cell? ⟨g, j, none⟩ = some (.bool ((seenL k).getD j false)) := by
  rw [cell_of_row w g j _ T (0, 0) hg, List.getElem?_toArray, bv_get _ _ (by rw [seenL_length]; exact hj)]
theorem seen_next {w : World} {g k : Nat} {T : TypeId} (c : UInt8) (hc : c = (32 + k).toUInt8) (hg : w.heap[g]? = some (.cells (bv (seenL k)).toArray T (0, 0))) :
    (w.setCell ⟨g, (ebc c).toNat, none⟩ (.bool true)).heap[g]? = some (.cells (bv (seenL (k + 1))).toArray T (0, 0)) := by
  subst hc
  rw [heap_setCell_same w g _ _ T _ hg, List.setIfInBounds_toArray, bv_set]
  rfl
theorem unseen_all : ∀ m : Fin 95, (seenL m.val).getD (ebc (32 + m.val).toUInt8).toNat false = false := by decide +kernel
theorem sign_all : ∀ m : Fin 95, sgn (32 + m.val).toUInt8 = true ∧ (32 + m.val).toUInt8.toNat = 32 + m.val := by decide +kernel
def rowB (i : Nat) : Bool := (48 < i && i ≤ 57) || (65 < i && i ≤ 90) || (97 < i && i ≤ 122)
theorem rise_all : ∀ m : Fin 95, rowB (32 + m.val) = true → (ebc (31 + m.val).toUInt8).toNat < (ebc (32 + m.val).toUInt8).toNat := by decide +kernel
theorem seen_iff : ∀ m : Fin 256, (seenL 95).getD m.val false = sgn (dec (UInt8.ofNat m.val)) := by decide +kernel
theorem back_all : ∀ m : Fin 256, sgn (dec (UInt8.ofNat m.val)) = true → ebc (dec (UInt8.ofNat m.val)) = UInt8.ofNat m.val := by decide +kernel
theorem pack4_one (c : UInt8) (h : sgn c = true) : packR 4 [c] = ([ebc c], 0) := by
  rw [p_yes 4 _ (by omega) (by rw [fit4]; simp [fuL, h])]; simp [packL]
theorem unpack4_one (b : UInt8) : unpackR 4 [b] 1 = if sgn (dec b) then ([dec b], 0, 0) else ([], 11, 0) := by
  rw [u_read 4 _ _ (by omega) (by simp [widthOf]), fit4]
  have hw : (widthOf 4 1).toNat = 1 := by simp [widthOf]
  rw [hw, show [b].take 1 = [b] from rfl, read_single sgn 4 _ _ (by omega), chr_dec]
  cases h : sgn (dec b) <;> simp [fuL, h]
end Go.Proofs.YtekbonfaaofdiabDoor.Let
