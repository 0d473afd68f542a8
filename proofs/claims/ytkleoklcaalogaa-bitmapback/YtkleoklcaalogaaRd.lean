/- A half, read. -/
import Derived.Test.YtkleoklcaalogaaWt
import Derived.Test.YtkleoklcaalogaaShelf
namespace Go.Proofs.Ytkleoklcaalogaa.Rd
set_option linter.unusedVariables false
open Go.RowKit Pla Bm Br Bv Bw Bx Hf Wr Wt
/-- what a byte is worth as a sixteenth; below 0: it is none -/
def wv (enc : Int) (c : Nat) : Int := if enc = 4 then (if 240 ≤ c ∧ c ≤ 249 then (c : Int) - 240 else if 193 ≤ c ∧ c ≤ 198 then (c : Int) - 183 else -1)
  else (if 48 ≤ c ∧ c ≤ 57 then (c : Int) - 48 else if 65 ≤ c ∧ c ≤ 70 then (c : Int) - 55 else -1)
def chL (enc : Int) : List Int := (List.range 16).map fun i => ((chr enc i : Nat) : Int)
theorem wv_four' : ∀ n, n < 256 → Lib.indexByte (Lib.bytesOf (chL 4)) (UInt8.ofNat n) = wv 4 n := by decide +kernel
theorem wv_one' : ∀ n, n < 256 → Lib.indexByte (Lib.bytesOf (chL 1)) (UInt8.ofNat n) = wv 1 n := by decide +kernel
theorem wv_four (c : UInt8) : Lib.indexByte (Lib.bytesOf (chL 4)) c = wv 4 c.toNat := by
  have := wv_four' c.toNat c.toNat_lt
  rwa [UInt8.ofNat_toNat] at this
theorem wv_one (c : UInt8) : Lib.indexByte (Lib.bytesOf (chL 1)) c = wv 1 c.toNat := by
  have := wv_one' c.toNat c.toNat_lt
  rwa [UInt8.ofNat_toNat] at this
theorem wv_is (enc : Int) (c : UInt8) : Lib.indexByte (Lib.bytesOf (chL enc)) c = wv enc c.toNat := by
  by_cases h : enc = 4
  · subst h; exact wv_four c
  · have e1 : chL enc = chL 1 := by simp [chL, chr, h]
    have e2 : wv enc c.toNat = wv 1 c.toNat := by simp [wv, h]
    rw [e1, e2]; exact wv_one c
theorem wv_bd (enc : Int) (c : Nat) : -1 ≤ wv enc c ∧ wv enc c < 16 := by unfold wv; (repeat' split) <;> omega
set_option maxRecDepth 100000 in
set_option maxHeartbeats 1600000 in
theorem worth_any (enc : Int) (c : UInt8) (w : World) :
    Calls Try.prog 42 #[.agg (byC 16 (chr enc)), .int .u8 (c.toNat : Int)] w fun e w' => e = .returned (.int .i64 (wv enc c.toNat)) ∧ Below w.heap.size w w' := by
  have hc : ∀ i, i < 16 → (w.alloc (Obj.cells (byC 16 (chr enc)) 67)).cell? ⟨w.heap.size, 0 + i, none⟩ = some (.int .u8 ((chL enc).getD i 0)) := fun i hi => by
    rw [Nat.zero_add, cell_of_row _ _ i _ _ _ (h1_0 w _), byC_get _ _ _ hi]
    simp [chL, List.getD, hi]
  have cb := Try.bytes_IndexByte w.heap.size 0 16 16 (chL enc) (c.toNat : Int) _ (by simp [chL]) hc
  rw [show ((c.toNat : Int)).toNat.toUInt8 = c by simp, wv_is] at cb
  go_enter Try.func42, Try.ntmps42
  go_wp2_with (go_at_call 43; refine cb.mono ?_; rintro e x ⟨rfl, rfl⟩)
  go_ret
  exact ⟨rfl, below_one w _⟩
end Go.Proofs.Ytkleoklcaalogaa.Rd
