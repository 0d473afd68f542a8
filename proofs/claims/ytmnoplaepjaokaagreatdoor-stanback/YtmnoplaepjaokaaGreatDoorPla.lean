/- Plain facts, of no program: halves of a map as numbers, rows of truths, one by one. -/
import Derived.Test.YtmnoplaepjaokaaGreatDoorRows
import Derived.WalkKit
import Derived.Laws.BitsAllLaws
namespace Go.Proofs.YtmnoplaepjaokaaGreatDoor.Pla
set_option linter.unusedVariables false
open Go.RowKit
/-- 64 truths as a number, the first one highest: behind k of them -/
def halfN (f : Nat → Bool) (b : Nat) : Nat → Nat
  | 0 => 0
  | k + 1 => 2 * halfN f b k + (f (b + (k + 1))).toNat
theorem halfN_lt (f : Nat → Bool) (b : Nat) : ∀ k, halfN f b k < 2 ^ k
  | 0 => by simp [halfN]
  | k + 1 => by
    have := halfN_lt f b k
    rw [halfN, Nat.pow_succ]
    cases f (b + (k + 1)) <;> simp <;> omega
theorem halfN_lt64 (f : Nat → Bool) (b : Nat) : halfN f b 64 < 18446744073709551616 := halfN_lt f b 64
theorem halfN_bit (f : Nat → Bool) (b : Nat) : ∀ (k i : Nat), (halfN f b k).testBit i = (decide (i < k) && f (b + (k - i)))
  | 0, i => by simp [halfN]
  | k + 1, 0 => by
    rw [halfN, Nat.testBit_zero]
    cases f (b + (k + 1)) <;> simp <;> omega
  | k + 1, i + 1 => by
    have e : (2 * halfN f b k + (f (b + (k + 1))).toNat) / 2 = halfN f b k := by cases f (b + (k + 1)) <;> simp <;> omega
    rw [halfN, Nat.testBit_succ, e, halfN_bit f b k i]
    simp
/-- the row of a map's halves -/
def rowF (F S : Nat) (i : Nat) : Bool := if i = 0 then false else if i ≤ 64 then F.testBit (64 - i) else S.testBit (128 - i)
theorem bit_lt {x i : Nat} (h : x < 18446744073709551616) (hi : 64 ≤ i) : x.testBit i = false :=
  Nat.testBit_lt_two_pow (Nat.lt_of_lt_of_le h (by have := Nat.pow_le_pow_right (n := 2) (by decide) hi; simpa using this))
/-- a number is the half of a row if the bits are -/
theorem half_first {f : Nat → Bool} {x : Nat} (hx : x < 18446744073709551616) (h : ∀ i, 1 ≤ i → i ≤ 64 → f i = x.testBit (64 - i)) : halfN f 0 64 = x := by
  apply Nat.eq_of_testBit_eq
  intro i
  rw [halfN_bit]
  by_cases hi : i < 64
  · rw [decide_eq_true hi, Bool.true_and, Nat.zero_add, h (64 - i) (by omega) (by omega)]
    congr 1; omega
  · rw [bit_lt hx (by omega)]; simp [hi]
theorem half_second {f : Nat → Bool} {x : Nat} (hx : x < 18446744073709551616) (h : ∀ i, 65 ≤ i → i ≤ 128 → f i = x.testBit (128 - i)) : halfN f 64 64 = x := by
  apply Nat.eq_of_testBit_eq
  intro i
  rw [halfN_bit]
  by_cases hi : i < 64
  · rw [decide_eq_true hi, Bool.true_and, h (64 + (64 - i)) (by omega) (by omega)]
    congr 1; omega
  · rw [bit_lt hx (by omega)]; simp [hi]
theorem half_rowF1 {F S : Nat} (hF : F < 18446744073709551616) : halfN (rowF F S) 0 64 = F :=
  half_first hF fun i h1 h2 => by simp [rowF, show ¬ i = 0 by omega, h2]
theorem half_rowF2 {F S : Nat} (hS : S < 18446744073709551616) : halfN (rowF F S) 64 64 = S :=
  half_second hS fun i h1 h2 => by simp [rowF, show ¬ i = 0 by omega, show ¬ i ≤ 64 by omega]
theorem rowF_lo {F S i : Nat} (h1 : 1 ≤ i) (h2 : i ≤ 64) : rowF F S i = F.testBit (64 - i) := by simp [rowF, show ¬ i = 0 by omega, h2]
theorem rowF_hi {F S i : Nat} (h1 : 65 ≤ i) : rowF F S i = S.testBit (128 - i) := by simp [rowF, show ¬ i = 0 by omega, show ¬ i ≤ 64 by omega]
/-- the row's cells -/
def rowC (f : Nat → Bool) : Array Value := ((List.range 129).map fun i => Value.bool (f i)).toArray
theorem rowC_size (f : Nat → Bool) : (rowC f).size = 129 := by simp [rowC]
theorem rowC_get (f : Nat → Bool) (i : Nat) (h : i < 129) : (rowC f)[i]? = some (.bool (f i)) := by simp [rowC, h]
def upd (f : Nat → Bool) (n : Nat) (b : Bool) : Nat → Bool := fun i => if i = n then b else f i
theorem upd_same (f : Nat → Bool) (n : Nat) (b : Bool) : upd f n b n = b := by simp [upd]
theorem upd_ne (f : Nat → Bool) {n i : Nat} (b : Bool) (h : i ≠ n) : upd f n b i = f i := by simp [upd, h]
theorem rowC_set (f : Nat → Bool) (n : Nat) (b : Bool) (h : n < 129) : (rowC f).setIfInBounds n (.bool b) = rowC (upd f n b) := by
  apply Array.ext_getElem?
  intro i
  by_cases hi : i < 129
  · rw [rowC_get _ _ hi, Array.getElem?_setIfInBounds]
    by_cases e : n = i
    · subst e; simp [upd_same, rowC_size, h]
    · rw [if_neg e, rowC_get _ _ hi, upd_ne _ _ (fun x => e x.symm)]
  · rw [Array.getElem?_eq_none (by simp [rowC_size]; omega), Array.getElem?_eq_none (by simp [rowC_size]; omega)]
theorem rowC_ext {f g : Nat → Bool} (h : ∀ i, i < 129 → f i = g i) : rowC f = rowC g := by
  simp only [rowC]; congr 1
  apply List.map_congr_left
  intro i hi
  rw [h i (List.mem_range.1 hi)]
theorem rowC_one (f : Nat → Bool) : (rowC f).all (·.oneCell') = true := by
  simp only [rowC, List.all_toArray, List.all_eq_true, List.mem_map, List.mem_range]
  rintro v ⟨i, _, rfl⟩; rfl
theorem rowC_zero : rowC (fun _ => false) = Array.replicate 129 (.bool false) := by
  apply Array.ext_getElem?
  intro i
  by_cases hi : i < 129
  · rw [rowC_get _ _ hi]; simp [hi]
  · rw [Array.getElem?_eq_none (by simp [rowC_size]; omega), Array.getElem?_eq_none (by simp; omega)]
/-! the program's maps -/
def field (n : Int) : Bool := decide (2 ≤ n) && decide (n ≤ 128) && !(n == 65)
def onlyF (n : Int) : Nat := if 2 ≤ n ∧ n ≤ 64 then 2 ^ (64 - n.toNat) else 0
def onlyS (n : Int) : Nat := if 66 ≤ n ∧ n ≤ 128 then 2 ^ (128 - n.toNat) else 0
def fld (x : Nat) : Nat := x &&& 9223372036854775807
def less (x y : Nat) : Nat := x &&& (18446744073709551615 - y)
theorem onlyF_lt (n : Int) : onlyF n < 18446744073709551616 := by
  unfold onlyF; split
  · exact Nat.lt_of_lt_of_le (Nat.pow_lt_pow_right (by decide) (show 64 - n.toNat < 64 by omega)) (by decide)
  · decide
theorem onlyS_lt (n : Int) : onlyS n < 18446744073709551616 := by
  unfold onlyS; split
  · exact Nat.lt_of_lt_of_le (Nat.pow_lt_pow_right (by decide) (show 128 - n.toNat < 64 by omega)) (by decide)
  · decide
theorem and_lt {x y : Nat} (hx : x < 18446744073709551616) : x &&& y < 18446744073709551616 := Nat.lt_of_le_of_lt Nat.and_le_left hx
theorem or_lt {x y : Nat} (hx : x < 18446744073709551616) (hy : y < 18446744073709551616) : x ||| y < 18446744073709551616 := Nat.or_lt_two_pow (n := 64) hx hy
theorem fld_lt {x : Nat} (hx : x < 18446744073709551616) : fld x < 18446744073709551616 := and_lt hx
theorem fld_mod (x : Nat) : fld x = x % 9223372036854775808 := Nat.and_two_pow_sub_one_eq_mod x 63
theorem less_lt {x y : Nat} (hx : x < 18446744073709551616) : less x y < 18446744073709551616 := and_lt hx
theorem m63_bit (i : Nat) : (9223372036854775807 : Nat).testBit i = decide (i < 63) := by
  have : (9223372036854775807 : Nat) = 2 ^ 63 - 1 := by decide
  rw [this, Nat.testBit_two_pow_sub_one]
theorem fld_bit (x i : Nat) : (fld x).testBit i = (x.testBit i && decide (i < 63)) := by rw [fld, Nat.testBit_and, m63_bit]
theorem not_bit {y : Nat} (hy : y < 18446744073709551616) (i : Nat) : (18446744073709551615 - y).testBit i = (decide (i < 64) && !y.testBit i) := by
  have := @Nat.testBit_two_pow_sub_succ y 64 hy i
  rw [show 18446744073709551615 - y = 2 ^ 64 - (y + 1) by omega]; exact this
theorem less_bit {x y : Nat} (hx : x < 18446744073709551616) (hy : y < 18446744073709551616) (i : Nat) : (less x y).testBit i = (x.testBit i && !y.testBit i) := by
  rw [less, Nat.testBit_and, not_bit hy]
  by_cases h : i < 64
  · simp [h]
  · rw [bit_lt hx (by omega)]; rfl
theorem onlyF_bit (n : Int) (i : Nat) : (onlyF n).testBit i = (decide (2 ≤ n ∧ n ≤ 64) && decide (64 - n.toNat = i)) := by
  unfold onlyF; split <;> rename_i h
  · rw [Nat.testBit_two_pow]; simp [h]
  · simp [h]
theorem onlyS_bit (n : Int) (i : Nat) : (onlyS n).testBit i = (decide (66 ≤ n ∧ n ≤ 128) && decide (128 - n.toNat = i)) := by
  unfold onlyS; split <;> rename_i h
  · rw [Nat.testBit_two_pow]; simp [h]
  · simp [h]
/-- has a map the field n? -/
def hasB (F S : Nat) (n : Int) : Bool := field n && rowF F S n.toNat
theorem pow_and (x k : Nat) : x &&& 2 ^ k = if x.testBit k then 2 ^ k else 0 := by
  apply Nat.eq_of_testBit_eq
  intro i
  rw [Nat.testBit_and, Nat.testBit_two_pow]
  by_cases h : k = i
  · subst h; cases hx : x.testBit k <;> simp
  · cases hx : x.testBit k <;> simp [h]
theorem fld_pow (k : Nat) (h : k < 63) : fld (2 ^ k) = 2 ^ k := by
  rw [fld_mod]; exact Nat.mod_eq_of_lt (Nat.lt_of_lt_of_le (Nat.pow_lt_pow_right (by decide) h) (by decide))
theorem has_is (F S : Nat) (n : Int) : (!(((fld (F &&& onlyF n) : Nat) : Int) == 0 && ((fld (S &&& onlyS n) : Nat) : Int) == 0)) = hasB F S n := by
  have z : ∀ k : Nat, (2 ^ k : Nat) ≠ 0 := fun k => Nat.ne_of_gt (Nat.pow_pos (by decide))
  by_cases h1 : 2 ≤ n ∧ n ≤ 64
  · have hf : field n = true := by simp only [field, Bool.and_eq_true, decide_eq_true_eq, Bool.not_eq_true', beq_eq_false_iff_ne]; omega
    have e2 : onlyS n = 0 := by unfold onlyS; rw [if_neg (by omega)]
    have e1 : onlyF n = 2 ^ (64 - n.toNat) := by unfold onlyF; rw [if_pos h1]
    rw [hasB, hf, rowF_lo (by omega) (by omega), e1, e2, pow_and]
    cases F.testBit (64 - n.toNat)
    · simp [fld]
    · have := z (64 - n.toNat)
      simp only [if_true, fld_pow _ (show 64 - n.toNat < 63 by omega), Nat.and_zero]
      rw [beq_eq_false_iff_ne.mpr (by omega)]; rfl
  · by_cases h2 : 66 ≤ n ∧ n ≤ 128
    · have hf : field n = true := by simp only [field, Bool.and_eq_true, decide_eq_true_eq, Bool.not_eq_true', beq_eq_false_iff_ne]; omega
      have e1 : onlyF n = 0 := by unfold onlyF; rw [if_neg (by omega)]
      have e2 : onlyS n = 2 ^ (128 - n.toNat) := by unfold onlyS; rw [if_pos h2]
      rw [hasB, hf, rowF_hi (by omega), e1, e2, pow_and]
      cases S.testBit (128 - n.toNat)
      · simp [fld]
      · have := z (128 - n.toNat)
        simp only [if_true, fld_pow _ (show 128 - n.toNat < 63 by omega), Nat.and_zero]
        rw [beq_eq_false_iff_ne.mpr (show ((2 ^ (128 - n.toNat) : Nat) : Int) ≠ 0 by omega)]; rfl
    · have hf : field n = false := by simp only [field, Bool.and_eq_false_iff, decide_eq_false_iff_not, Bool.not_eq_false', beq_iff_eq]; omega
      have e1 : onlyF n = 0 := by unfold onlyF; rw [if_neg h1]
      have e2 : onlyS n = 0 := by unfold onlyS; rw [if_neg h2]
      rw [hasB, hf, e1, e2]; simp [fld]
end Go.Proofs.YtmnoplaepjaokaaGreatDoor.Pla
