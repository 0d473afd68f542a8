/- Plain: what both Encodes write is alike. -/
import Derived.Test.YtiepchghlopfnaaRe
import Derived.Test.YtiepchghlopfnaaEo
import Derived.Test.YtiepchghlopfnaaAk
namespace Go.Proofs.Ytiepchghlopfnaa.Eq
set_option linter.unusedVariables false
open Go.RowKit Pla Bm Bn Br Bv Bw Bx Hf Wr Wt En Eo Rh Re Ak
theorem half_split (f : Nat → Bool) (b t : Nat) : ∀ m, halfN f b (t + m) = 2 ^ m * halfN f b t + halfN f (b + t) m
  | 0 => by simp [halfN]
  | m + 1 => by
    rw [show t + (m + 1) = (t + m) + 1 by omega, halfN, half_split f b t m, halfN, Nat.pow_succ, show b + (t + m + 1) = b + t + (m + 1) by omega, Nat.mul_add, ← Nat.mul_assoc, Nat.mul_comm 2 (2 ^ m)]
    omega
theorem piece (f : Nat → Bool) (b t m : Nat) (h : t + m ≤ 64) : halfN f b 64 / 2 ^ (64 - (t + m)) % 2 ^ m = halfN f (b + t) m := by
  have e := half_split f b (t + m) (64 - (t + m))
  rw [show t + m + (64 - (t + m)) = 64 by omega] at e
  have l1 := halfN_lt f (b + (t + m)) (64 - (t + m))
  have l2 := halfN_lt f (b + t) m
  rw [e, Nat.mul_add_div (Nat.pow_pos (by decide)), Nat.div_eq_of_lt l1, Nat.add_zero, half_split f b t m, Nat.mul_add_mod, Nat.mod_eq_of_lt l2]
theorem hb_is_half (f : Nat → Bool) (b i : Nat) (h : i < 8) : Hf.hb (halfN f b 64) i = halfN f (b + 8 * i) 8 := by
  have := piece f b (8 * i) 8 (by omega)
  rw [Hf.hb, show 56 - 8 * i = 64 - (8 * i + 8) by omega]
  exact this
theorem nib_is_half (f : Nat → Bool) (b j : Nat) (h : j < 16) : nib (Hf.hb (halfN f b 64)) j = halfN f (b + 4 * j) 4 := by
  have e : halfN f (b + 8 * (j / 2)) 8 = 2 ^ 4 * halfN f (b + 8 * (j / 2)) 4 + halfN f (b + 8 * (j / 2) + 4) 4 := half_split f (b + 8 * (j / 2)) 4 4
  have l := halfN_lt f (b + 8 * (j / 2) + 4) 4
  rw [nib, hb_is_half f b (j / 2) (by omega), e]
  by_cases hj : j % 2 = 0
  · rw [if_pos hj, show b + 4 * j = b + 8 * (j / 2) by omega]
    omega
  · rw [if_neg hj, show b + 4 * j = b + 8 * (j / 2) + 4 by omega]
    omega
theorem pcs_map (enc : Int) (f : Nat → Bool) (b step : Nat) : ∀ j, pcs enc f b step j = (List.range j).map (fun i => UInt8.ofNat (chE enc (halfN f (b + step * i) step)))
  | 0 => rfl
  | j + 1 => by rw [pcs, pcs_map enc f b step j, List.range_succ, List.map_append]; rfl
theorem wr_is_ref (enc : Int) (f : Nat → Bool) (b : Nat) : wrL enc (Hf.hb (halfN f b 64)) = refL enc f b := by
  unfold wrL refL
  by_cases h : enc = 5
  · rw [if_pos h, if_pos h, pcs_map]
    apply List.map_congr_left
    intro i hi
    rw [hb_is_half f b i (List.mem_range.1 hi)]; rfl
  · rw [if_neg h, if_neg h, pcs_map]
    apply List.map_congr_left
    intro i hi
    rw [nib_is_half f b i (List.mem_range.1 hi), chE, if_neg h]
theorem mr_iff (f : Nat → Bool) : ∀ j, mr f j = true ↔ ∃ i, i < j ∧ f (66 + i) = true
  | 0 => by simp [mr]
  | j + 1 => by
    rw [mr, Bool.or_eq_true, mr_iff f j]
    constructor
    · rintro (⟨i, hi, h⟩ | h)
      · exact ⟨i, by omega, h⟩
      · exact ⟨j, by omega, h⟩
    · rintro ⟨i, hi, h⟩
      by_cases e : i = j
      · subst e; exact Or.inr h
      · exact Or.inl ⟨i, by omega, h⟩
theorem mr_is (F S : Nat) (hS : S < 9223372036854775808) : mr (rowF F S) 63 = !decide (S = 0) := by
  by_cases h0 : S = 0
  · subst h0
    cases hm : mr (rowF F 0) 63
    · rfl
    · obtain ⟨i, hi, h⟩ := (mr_iff _ 63).1 hm
      rw [rowF_hi (by omega)] at h; simp at h
  · rw [decide_eq_false h0]
    obtain ⟨i, hi⟩ := Nat.exists_testBit_of_ne_zero h0
    have hi63 : i < 63 := by
      rcases Nat.lt_or_ge i 63 with h | h
      · exact h
      · rw [Nat.testBit_lt_two_pow (Nat.lt_of_lt_of_le hS (by have := Nat.pow_le_pow_right (n := 2) (by decide) h; simpa using this))] at hi; cases hi
    exact (mr_iff _ 63).2 ⟨62 - i, by omega, by rw [rowF_hi (by omega), show 128 - (66 + (62 - i)) = i by omega]; exact hi⟩
theorem known_width (enc : Int) : widthN enc = 0 ↔ knownB enc = false := by
  unfold widthN knownB
  by_cases h5 : enc = 5
  · subst h5; decide
  · by_cases h1 : enc = 1
    · subst h1; decide
    · by_cases h4 : enc = 4
      · subst h4; decide
      · simp [h5, h1, h4]
theorem up_first (F S : Nat) (hF : F < 9223372036854775808) : halfN (upd (rowF F S) 1 true) 0 64 = F + 9223372036854775808 := by
  have e : F + 9223372036854775808 = 2 ^ 63 * 1 ||| F := by
    have := @Nat.two_pow_add_eq_or_of_lt 63 F hF 1
    omega
  refine half_first (by omega) fun i h1 h2 => ?_
  rw [e, Nat.testBit_or, Nat.mul_one, Nat.testBit_two_pow]
  by_cases hi : i = 1
  · subst hi; rfl
  · rw [upd_ne _ _ hi, rowF_lo h1 h2, decide_eq_false (show ¬ 63 = 64 - i by omega)]; rfl
theorem up_first0 (F S : Nat) (hF : F < 9223372036854775808) : halfN (upd (rowF F S) 1 false) 0 64 = F := by
  refine half_first (by omega) fun i h1 h2 => ?_
  by_cases hi : i = 1
  · subst hi
    rw [upd_same, bit63 F (by omega)]; exact (decide_eq_false (by omega)).symm
  · rw [upd_ne _ _ hi, rowF_lo h1 h2]
theorem up_second (F S : Nat) (m : Bool) (hS : S < 18446744073709551616) : halfN (upd (rowF F S) 1 m) 64 64 = S := by
  refine half_second hS fun i h1 h2 => ?_
  rw [upd_ne _ _ (by omega), rowF_hi h1]
theorem enc_like (enc : Int) (F S : Nat) (hF : F < 18446744073709551616) (hS : S < 18446744073709551616) : encV enc F S = encD enc (rowF F S) := by
  unfold encV encD
  rw [right_is F S hF hS]
  cases hk : knownB enc
  · rw [if_pos (Or.inl ((known_width enc).2 hk))]; rfl
  · have hw : ¬ widthN enc = 0 := fun h => by rw [(known_width enc).1 h] at hk; cases hk
    cases hr : rightB F S
    · rw [if_pos (Or.inr rfl)]; rfl
    · have h2 : F < 9223372036854775808 ∧ S < 9223372036854775808 := by simpa [rightB] using hr
      rw [if_neg (by simp [hw]), mr_is F S h2.2]
      simp only [Bool.and_self, if_true]
      rw [encL]
      by_cases h0 : S = 0
      · subst h0
        rw [if_pos rfl, decide_eq_true rfl]
        have := wr_is_ref enc (upd (rowF F 0) 1 false) 0
        rw [up_first0 F 0 h2.1] at this
        rw [this]; rfl
      · rw [if_neg h0, decide_eq_false h0]
        have a := wr_is_ref enc (upd (rowF F S) 1 true) 0
        have b := wr_is_ref enc (upd (rowF F S) 1 true) 64
        rw [up_first F S h2.1] at a
        rw [up_second F S true hS] at b
        rw [a, b]; rfl
end Go.Proofs.Ytiepchghlopfnaa.Eq
