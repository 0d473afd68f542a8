/- bits, sixteenthsOf, write. -/
import Derived.Test.YtkleoklcaalogaaHf
namespace Go.Proofs.Ytkleoklcaalogaa.Wr
set_option linter.unusedVariables false
open Go.RowKit Pla Bm Br Bv Bw Bx Hf
def bitsN (v : Nat → Nat) : Nat → Nat
  | 0 => 0
  | k + 1 => 256 * bitsN v k + v k
theorem bitsN_lt (v : Nat → Nat) (hv : ∀ i, v i < 256) : ∀ k, bitsN v k < 256 ^ k
  | 0 => by simp [bitsN]
  | k + 1 => by have := bitsN_lt v hv k; have := hv k; rw [bitsN, Nat.pow_succ]; omega
theorem or_low (x y : Nat) (hx : x < 72057594037927936) (hy : y < 256) : bits .or .u64 ((x : Int) * 256) (y : Int) = ((256 * x + y : Nat) : Int) := by
  have h := u64_or_nat (256 * x) y (by omega) (by omega)
  have e : 256 * x ||| y = 256 * x + y := by
    have := @Nat.two_pow_add_eq_or_of_lt 8 y hy x
    exact this.symm
  rw [e] at h
  rw [← h]
  congr 1
  simp; omega
theorem run_by8 (v : Nat → Nat) (k : Nat) (hk : k < 8) (w : World) : (Instr.index 59 (.agg (byC 8 v)) (.int .i64 (k : Int))).run Try.prog w = .ok (.int .u8 ((v k : Nat) : Int)) w := by
  have h0 := byC_get 8 v k hk
  simp [Instr.index, asIntOf, run_underlying Try.underlying59, hk, part, h0]
set_option maxRecDepth 100000 in
set_option maxHeartbeats 1600000 in
theorem bits_any (v : Nat → Nat) (hv : ∀ i, v i < 256) (w : World) :
    Calls Try.prog 37 #[.agg (byC 8 v)] w fun e w' => e = .returned (.int .u64 (bitsN v 8 : Int)) ∧ Below w.heap.size w w' := by
  go_enter Try.func37, Try.ntmps37
  go_wp2_with (refine wpList_load_row rfl 59 _ rfl w.heap.size rfl _ _ _ _ (h1_0 w _) Try.underlying59 rfl (h8 _) ?_)
  go_loopw [3, 7] (fun a i wr => ∃ j : Nat, j ≤ 8 ∧ i = .int .i64 (j : Int) ∧ a = .int .u64 (bitsN v j : Int) ∧ wr = w.alloc (Obj.cells (byC 8 v) 59)) (fun _ i _ => 9 - (intOf i).toNat)
  case atStart => exact ⟨0, by omega, rfl, rfl, rfl⟩
  case round =>
    obtain ⟨j, hj, rfl, rfl, rfl⟩ := hrel
    by_cases hj2 : j < 8
    · have q : (j : Int) < 8 := by omega
      have q0 : (0 : Int) ≤ (j : Int) := by omega
      have k1 := run_by8 v j hj2
      have lt := bitsN_lt v hv j
      have lt2 : bitsN v j < 72057594037927936 := Nat.lt_of_lt_of_le lt (by have := Nat.pow_le_pow_right (n := 256) (by decide) (show j ≤ 7 by omega); simpa using this)
      have u1 := or_low (bitsN v j) (v j) lt2 (hv j)
      have HE : Hid (bitsN v (j + 1) = 256 * bitsN v j + v j) := rfl
      have vb := hv j
      have i1 : (bitsN v j : Int) ≤ 72057594037927935 := by omega
      have i2 : ((v j : Nat) : Int) ≤ 255 := by omega
      generalize bitsN v j = x at *
      generalize v j = y at *
      clear lt lt2 vb
      go_wp2
      refine ⟨⟨j + 1, by omega, by simp, by rw [HE.out]; simp, trivial⟩, ?_⟩
      simp only [intOf]; omega
    · obtain rfl : j = 8 := by omega
      go_wp2
      go_ret
      exact ⟨rfl, below_one w _⟩
/-- a sixteenth's byte -/
def chr (enc : Int) (n : Nat) : Nat := if enc = 4 then (if n < 10 then 240 + n else 183 + n) else (if n < 10 then 48 + n else 55 + n)
set_option maxRecDepth 100000 in
set_option maxHeartbeats 1600000 in
theorem sixteenthsOf_any (enc : Int) (w : World) :
    Calls Try.prog 39 #[.int .i64 enc] w fun e w' => e = .returned (.agg (byC 16 (chr enc))) ∧ Below w.heap.size w w' := by
  by_cases h4 : enc = 4
  · subst h4
    have e0 : byC 16 (chr 4) = #[.int .u8 240, .int .u8 241, .int .u8 242, .int .u8 243, .int .u8 244, .int .u8 245, .int .u8 246, .int .u8 247, .int .u8 248, .int .u8 249, .int .u8 193, .int .u8 194, .int .u8 195, .int .u8 196, .int .u8 197, .int .u8 198] := by rfl
    go_enter Try.func39, Try.ntmps39
    go_wp2_with (refine wpList_store_row rfl 67 _ _ rfl w.heap.size (byC 16 (chr 4)) rfl (congrArg Value.agg e0.symm) _ _ (h1_0 w _) (h16 _) rfl (byC_one 16 _) ?_)
    exact bodyPost_ret (v := .agg (byC 16 (chr 4))) (results_cell_row rfl _ _ w.heap.size _ _ _ _ rfl (setRow_at (h1_0 w _) _) Try.underlying67 rfl (h16 _)) rfl ⟨rfl, below_setRow (below_one w _) (Nat.le_refl _) _⟩
  · have q4 : (enc == 4) = false := beq_eq_false_iff_ne.mpr h4
    have e0 : byC 16 (chr enc) = #[.int .u8 48, .int .u8 49, .int .u8 50, .int .u8 51, .int .u8 52, .int .u8 53, .int .u8 54, .int .u8 55, .int .u8 56, .int .u8 57, .int .u8 65, .int .u8 66, .int .u8 67, .int .u8 68, .int .u8 69, .int .u8 70] := by
      rw [show chr enc = chr 1 by funext n; simp [chr, h4]]; rfl
    clear h4
    have e1 := byC_one 16 (chr enc)
    have e2 := h16 (chr enc)
    have e3 := byC_size 16 (chr enc)
    generalize byC 16 (chr enc) = C at *
    go_enter Try.func39, Try.ntmps39
    go_wp2_with (refine wpList_store_row rfl 67 _ _ rfl w.heap.size C rfl (congrArg Value.agg e0.symm) _ _ (h1_0 w _) e2 e3.symm e1 ?_)
    exact bodyPost_ret (v := .agg C) (results_cell_row rfl _ _ w.heap.size _ _ _ _ rfl (setRow_at (h1_0 w _) _) Try.underlying67 rfl e2) rfl ⟨rfl, below_setRow (below_one w _) (Nat.le_refl _) _⟩
end Go.Proofs.Ytkleoklcaalogaa.Wr
