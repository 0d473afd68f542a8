/- Numbers that are out, as bits of words, plain. -/
import Derived.Test.YtmnoplaepjaokaaGreatDoorYa
import Derived.Lib.TrailingZeros
namespace Go.Proofs.YtmnoplaepjaokaaGreatDoor.Yb
set_option linter.unusedVariables false
set_option linter.unusedSimpArgs false
open Ya
theorem ctz_bits {x : Nat} (h0 : x ≠ 0) (h : x < 18446744073709551616) : Lib.ctz 64 x < 64 ∧ x.testBit (Lib.ctz 64 x) = true ∧ ∀ i, i < Lib.ctz 64 x → x.testBit i = false := by
  obtain ⟨m, e, hl⟩ := Lib.ctzFrom_spec 64 x (by omega) h
  have hc : Lib.ctz 64 x = Lib.ctzFrom 64 x := by rw [Lib.ctz, if_neg h0]
  rw [hc]
  generalize Lib.ctzFrom 64 x = c at *
  refine ⟨hl, ?_, fun i hi => ?_⟩
  · rw [e, Nat.testBit_two_pow_mul]
    simp [Nat.testBit_zero]
  · rw [e, Nat.testBit_two_pow_mul]
    simp; omega
theorem bit_hi {x i : Nat} (h : x < 18446744073709551616) (hi : 64 ≤ i) : x.testBit i = false :=
  Nat.testBit_lt_two_pow (Nat.lt_of_lt_of_le h (Nat.pow_le_pow_right (n := 2) (by decide) hi))
theorem not_bit {y : Nat} (hy : y < 18446744073709551616) (i : Nat) : (18446744073709551615 - y).testBit i = (decide (i < 64) && !y.testBit i) := by
  have := Nat.testBit_two_pow_sub_succ (n := 64) (x := y) hy i
  rwa [show (2 : Nat) ^ 64 - (y + 1) = 18446744073709551615 - y by omega] at this
theorem zero_bits {x : Nat} (h : ∀ i, x.testBit i = false) : x = 0 := Nat.eq_of_testBit_eq fun i => by rw [h i, Nat.zero_testBit]
theorem pow_and (x k : Nat) : x &&& 2 ^ k = if x.testBit k then 2 ^ k else 0 := by
  apply Nat.eq_of_testBit_eq
  intro i
  rw [Nat.testBit_and, Nat.testBit_two_pow]
  by_cases e : k = i
  · subst e; cases h : x.testBit k <;> simp [h, Nat.testBit_two_pow]
  · cases h : x.testBit k <;> simp [e, h, Nat.testBit_two_pow]
theorem pow_lt (k : Nat) (h : k < 64) : 2 ^ k < 18446744073709551616 := Nat.pow_lt_pow_right (a := 2) (by decide) h
def upN (W : Nat → Nat) (k v : Nat) : Nat → Nat := fun i => if i = k then v else W i
structure Wd (mo : Nat) (out : Nat → Bool) (W : Nat → Nat) : Prop where
  lt : ∀ j, j ≤ mo / 64 → W j < 18446744073709551616
  bit : ∀ j i, j ≤ mo / 64 → i < 64 → (W j).testBit i = (out (64 * j + i) || decide (mo < 64 * j + i))
def top (mo : Nat) : Nat := 18446744073709551615 * 2 ^ (mo % 64 + 1) % 18446744073709551616
theorem top_lt (mo : Nat) : top mo < 18446744073709551616 := Nat.mod_lt _ (by decide)
theorem top_bit (mo i : Nat) (h : i < 64) : (top mo).testBit i = decide (mo % 64 < i) := by
  have e : top mo = (18446744073709551615 <<< (mo % 64 + 1)) % 2 ^ 64 := by rw [Nat.shiftLeft_eq]; rfl
  rw [e, Nat.testBit_mod_two_pow, Nat.testBit_shiftLeft, show (18446744073709551615 : Nat) = 2 ^ 64 - 1 by decide, Nat.testBit_two_pow_sub_one]
  by_cases h2 : mo % 64 < i
  · simp [h, h2]; omega
  · simp [h2]; omega
def new (mo : Nat) : Nat → Nat := upN (fun _ => 0) (mo / 64) (top mo)
theorem wd_new (mo : Nat) : Wd mo (fun _ => false) (new mo) := by
  refine ⟨fun j hj => ?_, fun j i hj hi => ?_⟩
  · unfold new upN; split
    · exact top_lt mo
    · exact Nat.zero_lt_succ _
  · unfold new upN; split
    · rename_i e; subst e
      rw [top_bit _ _ hi]
      simp; omega
    · rw [Nat.zero_testBit]
      simp; omega
theorem wd_is {mo : Nat} {out : Nat → Bool} {W : Nat → Nat} (h : Wd mo out W) {k : Nat} (hk : k ≤ mo) : (W (k / 64) &&& 2 ^ (k % 64) = 0) = (out k = false) := by
  rw [pow_and, h.bit _ _ (Nat.div_le_div_right hk) (Nat.mod_lt _ (by decide)), Nat.div_add_mod]
  have : ¬ mo < k := by omega
  cases ho : out k <;> simp [this]
theorem wd_flip {mo : Nat} {out : Nat → Bool} {W : Nat → Nat} (h : Wd mo out W) {k : Nat} (hk : k ≤ mo) : Wd mo (upd out k (!out k)) (upN W (k / 64) (W (k / 64) ^^^ 2 ^ (k % 64))) := by
  have hm : k % 64 < 64 := Nat.mod_lt _ (by decide)
  have hj0 : k / 64 ≤ mo / 64 := Nat.div_le_div_right hk
  refine ⟨fun j hj => ?_, fun j i hj hi => ?_⟩
  · unfold upN; split
    · exact Nat.xor_lt_two_pow (n := 64) (h.lt _ hj0) (pow_lt _ hm)
    · exact h.lt j hj
  · unfold upN
    by_cases e : j = k / 64
    · rw [if_pos e, e, Nat.testBit_xor, h.bit _ _ hj0 hi, Nat.testBit_two_pow]
      by_cases e2 : k % 64 = i
      · have e3 : 64 * (k / 64) + i = k := by omega
        have : ¬ mo < k := by omega
        rw [e3, upd_same]; simp [e2, this]
      · have e3 : 64 * (k / 64) + i ≠ k := by omega
        rw [upd_ne _ _ e3]; simp [e2]
    · have e3 : 64 * j + i ≠ k := by omega
      rw [if_neg e, upd_ne _ _ e3]; exact h.bit j i hj hi
/-- what is passed over in the word at j of a search from n on -/
def ahd (n j : Nat) : Nat := if j = n / 64 then 2 ^ (n % 64) - 1 else 0
theorem ahd_lt (n j : Nat) : ahd n j < 18446744073709551616 := by
  unfold ahd; split
  · have := pow_lt (n % 64) (Nat.mod_lt _ (by decide)); omega
  · decide
theorem ahd_bit (n j i : Nat) : (ahd n j).testBit i = (decide (j = n / 64) && decide (i < n % 64)) := by
  unfold ahd; split
  · rename_i e; rw [Nat.testBit_two_pow_sub_one]; simp [e]
  · rename_i e; simp [e]
theorem ahd_next (n j : Nat) (h : n / 64 ≤ j) : ahd n (j + 1) = 0 := by unfold ahd; rw [if_neg (by omega)]
def fre (W : Nat → Nat) (n j : Nat) : Nat := 18446744073709551615 - (W j ||| ahd n j)
theorem fre_lt (W : Nat → Nat) (n j : Nat) : fre W n j < 18446744073709551616 := by unfold fre; omega
theorem or_lt {x y : Nat} (hx : x < 18446744073709551616) (hy : y < 18446744073709551616) : x ||| y < 18446744073709551616 := Nat.or_lt_two_pow (n := 64) hx hy
theorem fre_bit {mo : Nat} {out : Nat → Bool} {W : Nat → Nat} (h : Wd mo out W) {n j i : Nat} (hj : j ≤ mo / 64) (hi : i < 64) : (fre W n j).testBit i = !(out (64 * j + i) || decide (mo < 64 * j + i) || (decide (j = n / 64) && decide (i < n % 64))) := by
  rw [fre, not_bit (or_lt (h.lt j hj) (ahd_lt n j)), Nat.testBit_or, h.bit j i hj hi, ahd_bit]
  simp [hi]
/-- nothing was found yet, up to the word at j -/
def Pre (mo : Nat) (out : Nat → Bool) (n j : Nat) : Prop := ∀ i, n ≤ i → i < 64 * j → i ≤ mo → out i = true
theorem pre_start (mo : Nat) (out : Nat → Bool) (n : Nat) : Pre mo out n (n / 64) := fun i h1 h2 _ => by omega
theorem fre_hit {mo : Nat} {out : Nat → Bool} {W : Nat → Nat} (h : Wd mo out W) {n j : Nat} (hj : j ≤ mo / 64) (hn : n / 64 ≤ j) (hp : Pre mo out n j) (hx : fre W n j ≠ 0) : ff mo out n = 64 * j + Lib.ctz 64 (fre W n j) ∧ Lib.ctz 64 (fre W n j) < 64 ∧ 64 * j + Lib.ctz 64 (fre W n j) ≤ mo ∧ n ≤ 64 * j + Lib.ctz 64 (fre W n j) := by
  obtain ⟨c1, c2, c3⟩ := ctz_bits hx (fre_lt W n j)
  rw [fre_bit h hj c1] at c2
  generalize hc : Lib.ctz 64 (fre W n j) = c at *
  simp at c2
  obtain ⟨⟨h1, h2⟩, h3⟩ := c2
  have hnc : n ≤ 64 * j + c := by
    by_cases e : j = n / 64
    · have := h3.resolve_left (fun x => x e); omega
    · omega
  refine ⟨ff_some hnc h2 h1 fun i k1 k2 => ?_, c1, h2, hnc⟩
  · by_cases e : i < 64 * j
    · exact hp i k1 e (by omega)
    · have := c3 (i - 64 * j) (by omega)
      rw [fre_bit h hj (by omega), show 64 * j + (i - 64 * j) = i by omega] at this
      have n1 : ¬ mo < i := by omega
      have n2 : ¬ (j = n / 64 ∧ i - 64 * j < n % 64) := by omega
      simp [n1] at this
      by_cases ho : out i = true
      · exact ho
      · exact absurd (this (by simpa using ho)) n2
theorem fre_miss {mo : Nat} {out : Nat → Bool} {W : Nat → Nat} (h : Wd mo out W) {n j : Nat} (hj : j ≤ mo / 64) (hn : n / 64 ≤ j) (hp : Pre mo out n j) (hx : fre W n j = 0) : Pre mo out n (j + 1) := by
  intro i k1 k2 k3
  by_cases e : i < 64 * j
  · exact hp i k1 e k3
  · have := fre_bit h (n := n) hj (i := i - 64 * j) (by omega)
    rw [hx, Nat.zero_testBit, show 64 * j + (i - 64 * j) = i by omega] at this
    have n1 : ¬ mo < i := by omega
    have n2 : ¬ (j = n / 64 ∧ i - 64 * j < n % 64) := by omega
    simp [n1] at this
    by_cases ho : out i = true
    · exact ho
    · exact absurd (this (by simpa using ho)) n2
theorem pre_end {mo : Nat} {out : Nat → Bool} {n j : Nat} (hj : mo / 64 < j) (hp : Pre mo out n j) : ff mo out n = 0 := ff_none fun i h1 h2 => hp i h1 (by omega) h2
end Go.Proofs.YtmnoplaepjaokaaGreatDoor.Yb
