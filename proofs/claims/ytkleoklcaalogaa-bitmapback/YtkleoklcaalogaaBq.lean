/- The fields of a list, as a row of truths, and their numbers: plain. -/
import Derived.Test.YtkleoklcaalogaaBp
import Derived.Test.YtkleoklcaalogaaOf
import Derived.Test.YtkleoklcaalogaaNp
import Derived.Test.YtkleoklcaalogaaSt
namespace Go.Proofs.Ytkleoklcaalogaa.Bq
set_option linter.unusedVariables false
open Go.RowKit Pla Bm Bn Of
theorem or_half {x y : Nat} (hx : x < 9223372036854775808) (hy : y < 9223372036854775808) : x ||| y < 9223372036854775808 := Nat.or_lt_two_pow (n := 63) hx hy
/-- one field more -/
theorem row_or (F S : Nat) (n : Nat) (h : field (n : Int) = true) : rowC (upd (rowF F S) n true) = rowC (rowF (F ||| onlyF (n : Int)) (S ||| onlyS (n : Int))) := by
  have hb := St.field_bd h
  refine rowC_ext fun i hi => ?_
  by_cases e : i = n
  · subst e
    rw [upd_same]
    by_cases h64 : i ≤ 64
    · rw [rowF_lo (by omega) h64, Nat.testBit_or, onlyF, if_pos (by omega), Nat.testBit_two_pow]
      simp
    · rw [rowF_hi (by omega), Nat.testBit_or, onlyS, if_pos (by omega), Nat.testBit_two_pow]
      simp
  · rw [upd_ne _ _ e]
    by_cases h0 : i = 0
    · subst h0; simp [rowF]
    · by_cases h64 : i ≤ 64
      · rw [rowF_lo (by omega) h64, rowF_lo (by omega) h64, Nat.testBit_or]
        have : (onlyF (n : Int)).testBit (64 - i) = false := by
          rw [onlyF]; split
          · rw [Nat.testBit_two_pow]; simp; omega
          · simp
        rw [this]; simp
      · rw [rowF_hi (by omega), rowF_hi (by omega), Nat.testBit_or]
        have : (onlyS (n : Int)).testBit (128 - i) = false := by
          rw [onlyS]; split
          · rw [Nat.testBit_two_pow]; simp; omega
          · simp
        rw [this]; simp
/-- a second half is there -/
theorem second_or (S : Nat) (n : Int) (h : field n = true) : (S ||| onlyS n = 0) ↔ (S = 0 ∧ ¬ n > 64) := by
  have hb := St.field_bd h
  rw [Nat.or_eq_zero_iff]
  constructor
  · rintro ⟨h1, h2⟩
    refine ⟨h1, fun h3 => ?_⟩
    rw [onlyS, if_pos (by omega)] at h2
    have := Nat.pow_pos (n := 128 - n.toNat) (show 0 < 2 by decide)
    omega
  · rintro ⟨h1, h2⟩
    exact ⟨h1, by rw [onlyS, if_neg (by omega)]⟩
/-- the list so far: its halves -/
structure Fl (l : List Int) (F S : Nat) : Prop where
  all : l.all field = true
  f : ofF l = F
  s : ofS l = S
  fl : F < 9223372036854775808
  sl : S < 9223372036854775808
theorem Fl.nil : Fl [] 0 0 := ⟨rfl, rfl, rfl, by decide, by decide⟩
theorem Fl.snoc {l : List Int} {F S : Nat} (h : Fl l F S) {n : Int} (hn : field n = true) : Fl (l ++ [n]) (F ||| onlyF n) (S ||| onlyS n) :=
  ⟨by rw [List.all_append, h.all]; simp [hn], by rw [ofF_snoc, h.f], by rw [ofS_snoc, h.s], or_half h.fl (St.only_half n hn).1, or_half h.sl (St.only_half n hn).2⟩
theorem Fl.ofV {l : List Int} {F S : Nat} (h : Fl l F S) : ofV l = (F, S, 0) := by rw [Of.ofV, if_pos h.all, h.f, h.s]
/-- only fields are in the row -/
theorem row_field {F S : Nat} (hF : F < 9223372036854775808) (hS : S < 9223372036854775808) (i : Nat) (hi : i ≤ 128) (h : rowF F S i = true) : field (i : Int) = true := by
  have b : ∀ x : Nat, x < 9223372036854775808 → x.testBit 63 = false := fun x hx => Nat.testBit_lt_two_pow hx
  have h0 : i ≠ 0 := by rintro rfl; simp [rowF] at h
  have h1 : i ≠ 1 := by rintro rfl; rw [rowF_lo (by omega) (by omega)] at h; rw [b F hF] at h; cases h
  have h65 : i ≠ 65 := by rintro rfl; rw [rowF_hi (by omega)] at h; rw [b S hS] at h; cases h
  simp only [field, Bool.and_eq_true, decide_eq_true_eq, Bool.not_eq_true', beq_eq_false_iff_ne]
  omega
/-- Has is the row's truth -/
theorem has_row {F S : Nat} (hF : F < 9223372036854775808) (hS : S < 9223372036854775808) (i : Nat) (hi : i ≤ 128) : hasB F S (i : Int) = rowF F S i := by
  unfold hasB
  cases h : rowF F S i
  · simp [h]
  · rw [row_field hF hS i hi h]; simp [h]
theorem has_out {F S : Nat} (n : Int) (h : n < 0 ∨ 128 < n) : hasB F S n = false := by
  unfold hasB
  have : field n = false := by
    cases h' : field n
    · rfl
    · have := St.field_bd h'; omega
  rw [this]; rfl
/-- how many are among the first -/
theorem cnt_step (F S k : Nat) (hk : k < 128) : (Np.L F S (k + 1)).length = (Np.L F S k).length + (rowF F S (k + 1)).toNat := by
  have e : Np.bitAt F S k = rowF F S (k + 1) := by
    rw [Np.bitAt]
    by_cases h : k < 64
    · rw [if_pos h, rowF_lo (by omega) (by omega)]; congr 1; omega
    · rw [if_neg h, rowF_hi (by omega)]; congr 1; omega
  cases hb : Np.bitAt F S k
  · rw [Np.L_miss hb, ← e, hb]; rfl
  · rw [Np.L_hit hb, ← e, hb]; simp
theorem L_bd (F S : Nat) : ∀ k, ∀ x ∈ Np.L F S k, 1 ≤ x ∧ x ≤ (k : Int)
  | 0, x, h => by simp [Np.L] at h
  | k + 1, x, h => by
    cases hb : Np.bitAt F S k
    · rw [Np.L_miss hb] at h; have := L_bd F S k x h; omega
    · rw [Np.L_hit hb] at h
      rcases List.mem_append.1 h with h | h
      · have := L_bd F S k x h; omega
      · simp at h; omega
theorem L_row (F S : Nat) : ∀ k, k ≤ 128 → ∀ x ∈ Np.L F S k, rowF F S x.toNat = true
  | 0, _, x, h => by simp [Np.L] at h
  | k + 1, hk, x, h => by
    have e : Np.bitAt F S k = rowF F S (k + 1) := by
      rw [Np.bitAt]
      by_cases h : k < 64
      · rw [if_pos h, rowF_lo (by omega) (by omega)]; congr 1; omega
      · rw [if_neg h, rowF_hi (by omega)]; congr 1; omega
    cases hb : Np.bitAt F S k
    · rw [Np.L_miss hb] at h; exact L_row F S k (by omega) x h
    · rw [Np.L_hit hb] at h
      rcases List.mem_append.1 h with h | h
      · exact L_row F S k (by omega) x h
      · simp at h; subst h; rw [show ((k : Int) + 1).toNat = k + 1 by omega, ← e, hb]
theorem L_sorted (F S : Nat) : ∀ k, (Np.L F S k).Pairwise (· < ·)
  | 0 => by simp [Np.L]
  | k + 1 => by
    cases hb : Np.bitAt F S k
    · rw [Np.L_miss hb]; exact L_sorted F S k
    · rw [Np.L_hit hb, List.pairwise_append]
      refine ⟨L_sorted F S k, by simp, fun a ha b hb => ?_⟩
      have := L_bd F S k a ha
      simp at hb; omega
/-- the last one so far; 0: none -/
def last (l : List Int) : Int := l.getLastD 0
theorem last_snoc (l : List Int) (x : Int) : last (l ++ [x]) = x := by simp [last]
/-- a beginning that goes on rises, and what comes is there -/
theorem goes_on {F S : Nat} {pre : List Int} {x : Int} (h : pre ++ [x] <+: Np.L F S 128) : last pre < x ∧ rowF F S x.toNat = true := by
  have hm : x ∈ Np.L F S 128 := h.subset (by simp)
  refine ⟨?_, L_row F S 128 (Nat.le_refl _) x hm⟩
  have hs : (pre ++ [x]).Pairwise (· < ·) := (L_sorted F S 128).sublist h.sublist
  have hb := L_bd F S 128 x hm
  rw [List.pairwise_append] at hs
  unfold last
  cases hp : pre.getLast? with
  | none => rw [List.getLastD_eq_getLast?, hp]; simp; omega
  | some y =>
    rw [List.getLastD_eq_getLast?, hp]
    exact hs.2.2 y (List.mem_of_getLast? hp) x (by simp)
end Go.Proofs.Ytkleoklcaalogaa.Bq
