/- Plain: With, Without, Right of a map and of its row. -/
import Derived.Test.YtiepchghlopfnaaRo
import Derived.Test.YtiepchghlopfnaaBh
namespace Go.Proofs.Ytiepchghlopfnaa.Ak
set_option linter.unusedVariables false
open Go.RowKit Pla Bm Bn Br Bv Bw Bx Of Ro
theorem bit63 (x : Nat) (h : x < 18446744073709551616) : x.testBit 63 = decide (9223372036854775808 ≤ x) := by
  rw [Nat.testBit_eq_decide_div_mod_eq]
  by_cases h2 : 9223372036854775808 ≤ x
  · rw [decide_eq_true h2]; exact decide_eq_true (by omega)
  · rw [decide_eq_false h2]; exact decide_eq_false (by omega)
theorem right_is (F S : Nat) (hF : F < 18446744073709551616) (hS : S < 18446744073709551616) : (!rowF F S 1 && !rowF F S 65) = rightB F S := by
  rw [rowF_lo (by decide) (by decide), rowF_hi (by decide), bit63 F hF, bit63 S hS, rightB]
  by_cases h1 : 9223372036854775808 ≤ F <;> by_cases h2 : 9223372036854775808 ≤ S
  · rw [decide_eq_true h1, decide_eq_true h2, decide_eq_false (by omega : ¬ F < 9223372036854775808)]; rfl
  · rw [decide_eq_true h1, decide_eq_false h2, decide_eq_false (by omega : ¬ F < 9223372036854775808)]; rfl
  · rw [decide_eq_false h1, decide_eq_true h2, decide_eq_true (by omega : F < 9223372036854775808), decide_eq_false (by omega : ¬ S < 9223372036854775808)]; rfl
  · rw [decide_eq_false h1, decide_eq_false h2, decide_eq_true (by omega : F < 9223372036854775808), decide_eq_true (by omega : S < 9223372036854775808)]; rfl
theorem field_bd {n : Int} (h : field n = true) : 2 ≤ n ∧ n ≤ 128 ∧ n ≠ 65 := by
  simp only [field, Bool.and_eq_true, decide_eq_true_eq, Bool.not_eq_true', beq_eq_false_iff_ne] at h; omega
/-- With's row -/
def withF (f : Nat → Bool) (n : Int) : Nat → Bool := if field n && (!f 1 && !f 65) then upd f n.toNat true else fun _ => false
def withE (f : Nat → Bool) (n : Int) : Int := if field n && (!f 1 && !f 65) then 0 else 1
theorem refWith_any (f : Nat → Bool) (n : Int) (w : World) : Calls Try.prog 17 #[.agg (rowC f), .int .i64 n] w fun e w' => e = .returned (.tuple #[.agg (rowC (withF f n)), .int .i64 (withE f n)]) ∧ Below w.heap.size w w' := by
  cases h : field n && (!f 1 && !f 65)
  · rw [withF, withE, h]; exact refWith_bad f n h w
  · rw [withF, withE, h]
    rw [Bool.and_eq_true] at h
    exact refWith_ok f n h.1 h.2 w
theorem or_first {F S : Nat} {n : Int} (hF : F < 18446744073709551616) (h : field n = true) : halfN (upd (rowF F S) n.toNat true) 0 64 = F ||| onlyF n :=
  half_first (or_lt hF (onlyF_lt n)) fun i h1 h2 => by
    have hb := field_bd h
    rw [Nat.testBit_or, onlyF_bit, upd]
    by_cases e : i = n.toNat
    · rw [if_pos e, decide_eq_true (show 2 ≤ n ∧ n ≤ 64 by omega), decide_eq_true (show 64 - n.toNat = 64 - i by omega)]; simp
    · rw [if_neg e, rowF_lo h1 h2]
      by_cases e2 : 2 ≤ n ∧ n ≤ 64
      · rw [decide_eq_false (show ¬ 64 - n.toNat = 64 - i by omega)]; simp
      · rw [decide_eq_false e2]; simp
theorem or_second {F S : Nat} {n : Int} (hS : S < 18446744073709551616) (h : field n = true) : halfN (upd (rowF F S) n.toNat true) 64 64 = S ||| onlyS n :=
  half_second (or_lt hS (onlyS_lt n)) fun i h1 h2 => by
    have hb := field_bd h
    rw [Nat.testBit_or, onlyS_bit, upd]
    by_cases e : i = n.toNat
    · rw [if_pos e, decide_eq_true (show 66 ≤ n ∧ n ≤ 128 by omega), decide_eq_true (show 128 - n.toNat = 128 - i by omega)]; simp
    · rw [if_neg e, rowF_hi h1]
      by_cases e2 : 66 ≤ n ∧ n ≤ 128
      · rw [decide_eq_false (show ¬ 128 - n.toNat = 128 - i by omega)]; simp
      · rw [decide_eq_false e2]; simp
theorem with_like (F S : Nat) (n : Int) (hF : F < 18446744073709551616) (hS : S < 18446744073709551616) :
    (withV F S n).1 = halfN (withF (rowF F S) n) 0 64 ∧ (withV F S n).2.1 = halfN (withF (rowF F S) n) 64 64 ∧ (withV F S n).2.2 = withE (rowF F S) n := by
  unfold withV withF withE
  rw [right_is F S hF hS]
  cases h : field n && rightB F S
  · exact ⟨(half_zero 0 64).symm, (half_zero 64 64).symm, rfl⟩
  · rw [Bool.and_eq_true] at h
    exact ⟨(or_first hF h.1).symm, (or_second hS h.1).symm, rfl⟩
theorem less_first {F S : Nat} {n : Int} (hF : F < 18446744073709551616) : halfN (withoutF (rowF F S) n) 0 64 = less F (onlyF n) :=
  half_first (less_lt hF) fun i h1 h2 => by
    rw [less_bit hF (onlyF_lt n), onlyF_bit, withoutF]
    cases h : field n
    · have : ¬ (2 ≤ n ∧ n ≤ 64) := fun e => by
        simp only [field, Bool.and_eq_false_iff, decide_eq_false_iff_not, Bool.not_eq_false', beq_iff_eq] at h; omega
      rw [decide_eq_false this]
      simp [rowF_lo h1 h2]
    · have hb := field_bd h
      simp only [if_true, upd]
      by_cases e : i = n.toNat
      · rw [if_pos e, decide_eq_true (show 2 ≤ n ∧ n ≤ 64 by omega), decide_eq_true (show 64 - n.toNat = 64 - i by omega)]; simp
      · rw [if_neg e, rowF_lo h1 h2]
        by_cases e2 : 2 ≤ n ∧ n ≤ 64
        · rw [decide_eq_false (show ¬ 64 - n.toNat = 64 - i by omega)]; simp
        · rw [decide_eq_false e2]; simp
theorem less_second {F S : Nat} {n : Int} (hS : S < 18446744073709551616) : halfN (withoutF (rowF F S) n) 64 64 = less S (onlyS n) :=
  half_second (less_lt hS) fun i h1 h2 => by
    rw [less_bit hS (onlyS_lt n), onlyS_bit, withoutF]
    cases h : field n
    · have : ¬ (66 ≤ n ∧ n ≤ 128) := fun e => by
        simp only [field, Bool.and_eq_false_iff, decide_eq_false_iff_not, Bool.not_eq_false', beq_iff_eq] at h; omega
      rw [decide_eq_false this]
      simp [rowF_hi h1]
    · have hb := field_bd h
      simp only [if_true, upd]
      by_cases e : i = n.toNat
      · rw [if_pos e, decide_eq_true (show 66 ≤ n ∧ n ≤ 128 by omega), decide_eq_true (show 128 - n.toNat = 128 - i by omega)]; simp
      · rw [if_neg e, rowF_hi h1]
        by_cases e2 : 66 ≤ n ∧ n ≤ 128
        · rw [decide_eq_false (show ¬ 128 - n.toNat = 128 - i by omega)]; simp
        · rw [decide_eq_false e2]; simp
/-- like, of what is alike -/
theorem like_true {F S : Nat} {f : Nat → Bool} (h1 : F = halfN f 0 64) (h2 : S = halfN f 64 64) (w : World) :
    Calls Try.prog 14 #[.agg #[.int .u64 (F : Int), .int .u64 (S : Int)], .agg (rowC f)] w fun e w' => e = .returned (.bool true) ∧ Below w.heap.size w w' := by
  have h := like_any F S f w
  rw [h1, h2] at h ⊢
  simpa using h
end Go.Proofs.Ytiepchghlopfnaa.Ak
