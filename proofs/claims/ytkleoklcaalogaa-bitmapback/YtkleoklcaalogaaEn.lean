/- Encode. -/
import Derived.Test.YtkleoklcaalogaaWt
import Derived.Test.YtkleoklcaalogaaBn
namespace Go.Proofs.Ytkleoklcaalogaa.En
set_option linter.unusedVariables false
open Go.RowKit Pla Bm Bn Br Bv Bw Bx Hf Wr Wt
theorem or_hi (F : Nat) (h : F < 9223372036854775808) : bits .or .u64 (F : Int) 9223372036854775808 = ((F + 9223372036854775808 : Nat) : Int) := by
  have h1 := u64_or_nat F 9223372036854775808 (by omega) (by decide)
  have e : F ||| 9223372036854775808 = F + 9223372036854775808 := by
    have := @Nat.two_pow_add_eq_or_of_lt 63 F h 1
    rw [Nat.or_comm, Nat.add_comm]
    exact this.symm
  rw [e] at h1
  exact h1
theorem wrL_size (enc : Int) (v : Nat → Nat) : (ByteArray.mk (wrL enc v).toArray).size ≤ 16 := by
  show (wrL enc v).toArray.size ≤ 16
  unfold wrL; split <;> simp
/-- what Encode writes of a right map -/
def encL (enc : Int) (F S : Nat) : List UInt8 := if S = 0 then wrL enc (hb F) else wrL enc (hb (F + 9223372036854775808)) ++ wrL enc (hb S)
set_option maxRecDepth 100000 in
set_option maxHeartbeats 1600000 in
theorem encode_bad1 (enc : Int) (F S : Nat) (hw : widthN enc = 0) (w : World) :
    Calls Try.prog 19 #[.int .i64 enc, .agg #[.int .u64 (F : Int), .int .u64 (S : Int)]] w fun e w' => e = .returned (.tuple #[.string ByteArray.empty, .int .i64 1]) ∧ Below w.heap.size w w' := by
  go_enter Try.func19, Try.ntmps19
  go_wp2_with (go_at_call 33; refine (width_any _ _).mono ?_; rintro e x ⟨rfl, rfl⟩; rw [hw])
  go_ret2
  exact ⟨rfl, below_one w _⟩
set_option maxRecDepth 100000 in
set_option maxHeartbeats 1600000 in
theorem encode_bad2 (enc : Int) (F S : Nat) (hF : F < 18446744073709551616) (hS : S < 18446744073709551616) (hw : ((widthN enc : Int) == 0) = false) (hr : rightB F S = false) (w : World) :
    Calls Try.prog 19 #[.int .i64 enc, .agg #[.int .u64 (F : Int), .int .u64 (S : Int)]] w fun e w' => e = .returned (.tuple #[.string ByteArray.empty, .int .i64 1]) ∧ Below w.heap.size w w' := by
  go_enter Try.func19, Try.ntmps19
  go_wp2_with (first
    | (go_at_call 33; refine (width_any _ _).mono ?_; rintro e x ⟨rfl, rfl⟩)
    | (go_at_call 23; refine (right_any _ _ hF hS _).mono ?_; rintro e x ⟨rfl, hb⟩; rw [show (decide (F < 9223372036854775808) && decide (S < 9223372036854775808)) = false from hr]))
  go_ret2
  exact ⟨rfl, keepB (below_one w _) hb⟩
set_option maxRecDepth 100000 in
set_option maxHeartbeats 1600000 in
theorem encode_one (enc : Int) (F : Nat) (hF : F < 9223372036854775808) (hw : ((widthN enc : Int) == 0) = false) (w : World) :
    Calls Try.prog 19 #[.int .i64 enc, .agg #[.int .u64 (F : Int), .int .u64 ((0 : Nat) : Int)]] w fun e w' => e = .returned (.tuple #[.string ⟨(wrL enc (hb F)).toArray⟩, .int .i64 0]) ∧ Below w.heap.size w w' := by
  have hr : (decide (F < 9223372036854775808) && decide (0 < 9223372036854775808)) = true := by simp [hF]
  go_enter Try.func19, Try.ntmps19
  go_wp2_with (first
    | (go_at_call 33; refine (width_any _ _).mono ?_; rintro e x ⟨rfl, rfl⟩)
    | (go_at_call 23; refine (right_any _ 0 (by omega) (by omega) _).mono ?_; rintro e x ⟨rfl, hb⟩; rw [hr]; obtain ⟨c0, c1, f0, f1⟩ := held2 hb (h1_0 w _))
    | (go_at_call 34; refine (halfOf_any F _).mono ?_; rintro e y ⟨rfl, hc⟩)
    | (go_at_call 35; refine (write_any enc (Hf.hb F) (hb_lt F) _).mono ?_; rintro e z ⟨rfl, hd⟩))
  go_ret2
  exact ⟨rfl, keepB (keepB (keepB (below_one w _) hb) hc) hd⟩
end Go.Proofs.Ytkleoklcaalogaa.En
