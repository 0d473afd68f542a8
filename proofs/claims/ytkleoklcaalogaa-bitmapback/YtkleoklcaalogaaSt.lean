/- Plain: And and Less part a map; With and Without undo one another. -/
import Derived.Test.YtkleoklcaalogaaOn
import Derived.Test.YtkleoklcaalogaaBh
namespace Go.Proofs.Ytkleoklcaalogaa.St
set_option linter.unusedVariables false
open Go.RowKit Pla Bm Bn Pop On
theorem field_bd {n : Int} (h : field n = true) : 2 ≤ n ∧ n ≤ 128 ∧ n ≠ 65 := by
  simp only [field, Bool.and_eq_true, decide_eq_true_eq, Bool.not_eq_true', beq_eq_false_iff_ne] at h; omega
theorem has_and (F S F' S' : Nat) (n : Int) : hasB (fld (F &&& F')) (fld (S &&& S')) n = (hasB F S n && hasB F' S' n) := by
  unfold hasB
  cases h : field n
  · rfl
  · have hb := field_bd h
    simp only [Bool.true_and]
    by_cases h64 : n ≤ 64
    · rw [rowF_lo (by omega) (by omega), rowF_lo (by omega) (by omega), rowF_lo (by omega) (by omega), fld_bit, Nat.testBit_and, decide_eq_true (show 64 - n.toNat < 63 by omega), Bool.and_true]
    · rw [rowF_hi (by omega), rowF_hi (by omega), rowF_hi (by omega), fld_bit, Nat.testBit_and, decide_eq_true (show 128 - n.toNat < 63 by omega), Bool.and_true]
theorem has_less (F S F' S' : Nat) (hF : F < 18446744073709551616) (hS : S < 18446744073709551616) (hF' : F' < 18446744073709551616) (hS' : S' < 18446744073709551616) (n : Int) :
    hasB (fld (less F F')) (fld (less S S')) n = (hasB F S n && !hasB F' S' n) := by
  unfold hasB
  cases h : field n
  · rfl
  · have hb := field_bd h
    simp only [Bool.true_and]
    by_cases h64 : n ≤ 64
    · rw [rowF_lo (by omega) (by omega), rowF_lo (by omega) (by omega), rowF_lo (by omega) (by omega), fld_bit, less_bit hF hF', decide_eq_true (show 64 - n.toNat < 63 by omega), Bool.and_true]
    · rw [rowF_hi (by omega), rowF_hi (by omega), rowF_hi (by omega), fld_bit, less_bit hS hS', decide_eq_true (show 128 - n.toNat < 63 by omega), Bool.and_true]
theorem fld_half (x : Nat) : fld x < 9223372036854775808 := by rw [fld_mod]; exact Nat.mod_lt _ (by decide)
theorem right_fld (x y : Nat) : rightB (fld x) (fld y) = true := by simp [rightB, fld_half]
theorem len_parts (F S F' S' : Nat) (hF : F < 18446744073709551616) (hS : S < 18446744073709551616) (hF' : F' < 18446744073709551616) (hS' : S' < 18446744073709551616) :
    lenN (fld (F &&& F')) (fld (S &&& S')) + lenN (fld (less F F')) (fld (less S S')) = lenN F S := by
  have part : ∀ x y, x < 18446744073709551616 → y < 18446744073709551616 → popN 64 (fld (fld (x &&& y))) + popN 64 (fld (fld (less x y))) = popN 64 (fld x) := fun x y hx hy =>
    popN_bits 64 _ _ _ fun i _ => by
      rw [fld_bit, fld_bit, fld_bit, fld_bit, fld_bit, Nat.testBit_and, less_bit hx hy]
      cases x.testBit i <;> cases y.testBit i <;> cases decide (i < 63) <;> rfl
  have a := part F F' hF hF'
  have b := part S S' hS hS'
  unfold lenN
  omega
theorem only_half (n : Int) (h : field n = true) : onlyF n < 9223372036854775808 ∧ onlyS n < 9223372036854775808 := by
  have hb := field_bd h
  constructor
  · unfold onlyF; split
    · exact Nat.lt_of_lt_of_le (Nat.pow_lt_pow_right (by decide) (show 64 - n.toNat < 63 by omega)) (by decide)
    · decide
  · unfold onlyS; split
    · exact Nat.lt_of_lt_of_le (Nat.pow_lt_pow_right (by decide) (show 128 - n.toNat < 63 by omega)) (by decide)
    · decide
theorem or_less {x y : Nat} (hx : x < 18446744073709551616) (hy : y < 18446744073709551616) : less (x ||| y) y ||| y = x ||| y := by
  apply Nat.eq_of_testBit_eq
  intro i
  rw [Nat.testBit_or, less_bit (or_lt hx hy) hy, Nat.testBit_or]
  cases x.testBit i <;> cases y.testBit i <;> rfl
theorem less_or {x y : Nat} (hx : x < 18446744073709551616) (hy : y < 18446744073709551616) (h : x &&& y = 0) : less (x ||| y) y = x := by
  apply Nat.eq_of_testBit_eq
  intro i
  have hi : (x &&& y).testBit i = false := by rw [h]; simp
  rw [Nat.testBit_and] at hi
  rw [less_bit (or_lt hx hy) hy, Nat.testBit_or]
  cases hx1 : x.testBit i <;> cases hy1 : y.testBit i <;> simp_all
theorem less_ne {x y i : Nat} (hx : x < 18446744073709551616) (hy : y < 18446744073709551616) (h : x.testBit i = true) (h' : y.testBit i = true) : less (x ||| y) y ≠ x := by
  intro e
  have := less_bit (x := x ||| y) (or_lt hx hy) hy i
  rw [e, h, h'] at this
  simp at this
theorem has_with (A B : Nat) (n : Int) (h : field n = true) : hasB (A ||| onlyF n) (B ||| onlyS n) n = true := by
  have hb := field_bd h
  rw [hasB, h, Bool.true_and]
  by_cases h64 : n ≤ 64
  · rw [rowF_lo (by omega) (by omega), Nat.testBit_or, onlyF_bit, decide_eq_true (show 2 ≤ n ∧ n ≤ 64 by omega), decide_eq_true rfl]; simp
  · rw [rowF_hi (by omega), Nat.testBit_or, onlyS_bit, decide_eq_true (show 66 ≤ n ∧ n ≤ 128 by omega), decide_eq_true rfl]; simp
theorem has_without (A B : Nat) (n : Int) (h : field n = true) (hA : A < 18446744073709551616) (hB : B < 18446744073709551616) : hasB (less A (onlyF n)) (less B (onlyS n)) n = false := by
  have hb := field_bd h
  rw [hasB, h, Bool.true_and]
  by_cases h64 : n ≤ 64
  · rw [rowF_lo (by omega) (by omega), less_bit hA (onlyF_lt n), onlyF_bit, decide_eq_true (show 2 ≤ n ∧ n ≤ 64 by omega), decide_eq_true rfl]; simp
  · rw [rowF_hi (by omega), less_bit hB (onlyS_lt n), onlyS_bit, decide_eq_true (show 66 ≤ n ∧ n ≤ 128 by omega), decide_eq_true rfl]; simp
/-- With, then Without: as it was, just where it was not there -/
theorem undo (A B : Nat) (n : Int) (h : field n = true) (hA : A < 18446744073709551616) (hB : B < 18446744073709551616) :
    (hasB A B n = false ∧ less (A ||| onlyF n) (onlyF n) = A ∧ less (B ||| onlyS n) (onlyS n) = B) ∨
    (hasB A B n = true ∧ less (A ||| onlyF n) (onlyF n) ≠ A) ∨
    (hasB A B n = true ∧ less (A ||| onlyF n) (onlyF n) = A ∧ less (B ||| onlyS n) (onlyS n) ≠ B) := by
  have hb := field_bd h
  have oF := onlyF_lt n
  have oS := onlyS_lt n
  rw [hasB, h, Bool.true_and]
  by_cases h64 : n ≤ 64
  · rw [rowF_lo (by omega) (by omega)]
    have e2 : onlyS n = 0 := by unfold onlyS; rw [if_neg (by omega)]
    have e1 : onlyF n = 2 ^ (64 - n.toNat) := by unfold onlyF; rw [if_pos (by omega)]
    have hS : less (B ||| onlyS n) (onlyS n) = B := by rw [e2]; exact less_or (y := 0) hB (by decide) (by simp)
    cases hx : A.testBit (64 - n.toNat)
    · refine Or.inl ⟨rfl, less_or hA oF ?_, hS⟩
      rw [e1, pow_and, hx]; rfl
    · exact Or.inr (Or.inl ⟨rfl, less_ne hA oF hx (by rw [e1, Nat.testBit_two_pow]; simp)⟩)
  · rw [rowF_hi (by omega)]
    have e1 : onlyF n = 0 := by unfold onlyF; rw [if_neg (by omega)]
    have e2 : onlyS n = 2 ^ (128 - n.toNat) := by unfold onlyS; rw [if_pos (by omega)]
    have hF : less (A ||| onlyF n) (onlyF n) = A := by rw [e1]; exact less_or (y := 0) hA (by decide) (by simp)
    cases hx : B.testBit (128 - n.toNat)
    · refine Or.inl ⟨rfl, hF, less_or hB oS ?_⟩
      rw [e2, pow_and, hx]; rfl
    · exact Or.inr (Or.inr ⟨rfl, hF, less_ne hB oS hx (by rw [e2, Nat.testBit_two_pow]; simp)⟩)
/-! field, of a raw number -/
theorem ret_i {a b : Int} (h : a = b) : Ending.returned (.int .i64 a) = .returned (.int .i64 b) := by rw [h]
def rawI (c : Int) : Int := if c < 0 then -(c + 1) else c
def fieldOf (c : Int) : Int := if 2 + rawI c % 126 ≥ 65 then 3 + rawI c % 126 else 2 + rawI c % 126
theorem fieldOf_field (c : Int) : field (fieldOf c) = true := by
  unfold fieldOf
  have h : 0 ≤ rawI c % 126 ∧ rawI c % 126 < 126 := by omega
  simp only [field, Bool.and_eq_true, decide_eq_true_eq, Bool.not_eq_true', beq_eq_false_iff_ne]
  split <;> omega
set_option maxHeartbeats 800000 in
theorem field_any (c : Int) (h1 : -9223372036854775808 ≤ c) (h2 : c ≤ 9223372036854775807) (w : World) :
    Calls Try.prog 16 #[.int .i64 c] w fun e w' => e = .returned (.int .i64 (fieldOf c)) ∧ w' = w := by
  unfold fieldOf
  by_cases hc : c < 0
  · have e : rawI c = -(c + 1) := by rw [rawI, if_pos hc]
    have t : (-(c + 1)).tmod 126 = -(c + 1) % 126 := Int.tmod_eq_emod_of_nonneg (by omega)
    rw [e]
    by_cases h65 : 2 + -(c + 1) % 126 ≥ 65
    · rw [if_pos h65]
      go_enter Try.func16, Try.ntmps16
      go_wp2
      go_ret
      exact ⟨ret_i (by omega), rfl⟩
    · rw [if_neg h65]
      go_enter Try.func16, Try.ntmps16
      go_wp2
      go_ret
      exact ⟨ret_i (by omega), rfl⟩
  · have e : rawI c = c := by rw [rawI, if_neg hc]
    have t : c.tmod 126 = c % 126 := Int.tmod_eq_emod_of_nonneg (by omega)
    rw [e]
    by_cases h65 : 2 + c % 126 ≥ 65
    · rw [if_pos h65]
      go_enter Try.func16, Try.ntmps16
      go_wp2
      go_ret
      exact ⟨ret_i (by omega), rfl⟩
    · rw [if_neg h65]
      go_enter Try.func16, Try.ntmps16
      go_wp2
      go_ret
      exact ⟨ret_i (by omega), rfl⟩
end Go.Proofs.Ytkleoklcaalogaa.St
