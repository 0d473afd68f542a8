/- Which numbers a map has, as a list: plain. -/
import Derived.Test.YtkleoklcaalogaaPla
import Derived.Test.YtkleoklcaalogaaPop
import Derived.Lib.BitFns
namespace Go.Proofs.Ytkleoklcaalogaa.Np
set_option linter.unusedVariables false
open Go.RowKit Pla
/-- the m-th bit of two halves, the highest first -/
def bitAt (F S m : Nat) : Bool := if m < 64 then F.testBit (63 - m) else S.testBit (127 - m)
/-- the numbers of the first k bits that are set -/
def L (F S k : Nat) : List Int := ((List.range k).filter (bitAt F S)).map fun (m : Nat) => ((m : Int) + 1)
theorem L_hit {F S k : Nat} (h : bitAt F S k = true) : L F S (k + 1) = L F S k ++ [(k : Int) + 1] := by
  simp [L, List.range_succ, List.filter_append, h]
theorem L_miss {F S k : Nat} (h : bitAt F S k = false) : L F S (k + 1) = L F S k := by
  simp [L, List.range_succ, List.filter_append, h]
theorem L_skip {F S k : Nat} : ∀ d, (∀ m, k ≤ m → m < k + d → bitAt F S m = false) → L F S (k + d) = L F S k
  | 0, _ => rfl
  | d + 1, h => by
    rw [show k + (d + 1) = (k + d) + 1 by omega, L_miss (h (k + d) (by omega) (by omega))]
    exact L_skip d fun m h1 h2 => h m h1 (by omega)
theorem L_len (F S : Nat) : ∀ k, (L F S k).length ≤ k
  | 0 => by simp [L]
  | k + 1 => by
    cases h : bitAt F S k
    · rw [L_miss h]; have := L_len F S k; omega
    · rw [L_hit h]; have := L_len F S k; simp; omega
/-- the half with the number i -/
def hf (F S i : Nat) : Nat := if i = 0 then F else S
theorem bit_hf (F S i p : Nat) (hi : i < 2) (hp : p < 64) : bitAt F S (64 * i + p) = (hf F S i).testBit (63 - p) := by
  rcases (by omega : i = 0 ∨ i = 1) with rfl | rfl
  · simp [bitAt, hf, hp]
  · simp only [bitAt, hf, if_neg (show ¬ 64 * 1 + p < 64 by omega), if_neg (show ¬ 1 = 0 by omega)]
    congr 1; omega
theorem len_spec (x : Nat) (h : x < 18446744073709551616) : x < 2 ^ Lib.bitLen x ∧ (x ≠ 0 → 1 ≤ Lib.bitLen x ∧ 2 ^ (Lib.bitLen x - 1) ≤ x) := by
  induction x using Nat.strongRecOn with
  | ind x ih =>
    by_cases h0 : x = 0
    · subst h0; exact ⟨Nat.pow_pos (by decide), fun h => absurd rfl h⟩
    · obtain ⟨a, b⟩ := ih (x / 2) (by omega) (by omega)
      rw [Lib.bitLen_half x h0 h]
      refine ⟨by rw [Nat.add_comm, Nat.pow_succ]; omega, fun _ => ⟨by omega, ?_⟩⟩
      by_cases h1 : x / 2 = 0
      · rw [h1, show Lib.bitLen 0 = 0 by decide]; simp; omega
      · obtain ⟨c, d⟩ := b h1
        rw [show 1 + Lib.bitLen (x / 2) - 1 = (Lib.bitLen (x / 2) - 1) + 1 by omega, Nat.pow_succ]; omega
/-- one round: what is left is the half behind p bits; the next bit that is set -/
theorem round (F S i p r : Nat) (hi : i < 2) (hp : p ≤ 64) (hr : r = hf F S i % 2 ^ (64 - p)) (h0 : r ≠ 0) :
    p ≤ 64 - Lib.bitLen r ∧ 1 ≤ Lib.bitLen r ∧ Lib.bitLen r ≤ 64 ∧ L F S (64 * i + (64 - Lib.bitLen r + 1)) = L F S (64 * i + p) ++ [((64 * i + (64 - Lib.bitLen r) : Nat) : Int) + 1] ∧
    less r (2 ^ (Lib.bitLen r - 1)) = hf F S i % 2 ^ (64 - (64 - Lib.bitLen r + 1)) ∧ less r (2 ^ (Lib.bitLen r - 1)) < r := by
  have hlt : r < 2 ^ (64 - p) := by rw [hr]; exact Nat.mod_lt _ (Nat.pow_pos (by decide))
  have r64 : r < 18446744073709551616 := Nat.lt_of_lt_of_le hlt (by have := Nat.pow_le_pow_right (n := 2) (by decide) (show 64 - p ≤ 64 by omega); simpa using this)
  obtain ⟨l1, l2⟩ := len_spec r r64
  obtain ⟨b1, l2⟩ := l2 h0
  have b2 : Lib.bitLen r - 1 < 64 - p := (Nat.pow_lt_pow_iff_right (by decide : 1 < 2)).1 (Nat.lt_of_le_of_lt l2 hlt)
  generalize hB : Lib.bitLen r = B at *
  have bit : ∀ j, j < 64 - p → (hf F S i).testBit j = r.testBit j := fun j hj => by
    rw [hr, Nat.testBit_mod_two_pow]; simp [hj]
  have top : r.testBit (B - 1) = true := by
    obtain ⟨c, rfl⟩ : ∃ c, B = c + 1 := ⟨B - 1, by omega⟩
    simp only [Nat.add_sub_cancel] at *
    rw [Nat.testBit_eq_decide_div_mod_eq]
    have e : r / 2 ^ c = 1 := by
      apply Nat.div_eq_of_lt_le
      · simpa using l2
      · rw [Nat.pow_succ] at l1; omega
    rw [e]; rfl
  have hi' : ∀ j, B ≤ j → r.testBit j = false := fun j hj => Nat.testBit_lt_two_pow (Nat.lt_of_lt_of_le l1 (Nat.pow_le_pow_right (by decide) hj))
  have e1 : L F S (64 * i + (64 - B)) = L F S (64 * i + p) := by
    have := @L_skip F S (64 * i + p) (64 - B - p) (fun m h1 h2 => by
      obtain ⟨q, rfl⟩ : ∃ q, m = 64 * i + q := ⟨m - 64 * i, by omega⟩
      rw [bit_hf F S i q hi (by omega), bit _ (by omega)]
      exact hi' _ (by omega))
    rw [← this]; congr 1; omega
  have e2 : bitAt F S (64 * i + (64 - B)) = true := by
    rw [bit_hf F S i _ hi (by omega), show 63 - (64 - B) = B - 1 by omega, bit _ (by omega)]
    exact top
  have p64 : 2 ^ (B - 1) < 18446744073709551616 := Nat.lt_of_le_of_lt l2 r64
  have lb : ∀ j, (less r (2 ^ (B - 1))).testBit j = (r.testBit j && !decide (B - 1 = j)) := fun j => by
    rw [less, Nat.testBit_and, not_bit p64, Nat.testBit_two_pow]
    by_cases hj : j < 64
    · simp [hj]
    · rw [bit_lt r64 (by omega)]; simp
  refine ⟨by omega, b1, by omega, ?_, ?_, ?_⟩
  · rw [show 64 * i + (64 - B + 1) = (64 * i + (64 - B)) + 1 by omega, L_hit e2, e1]
  · apply Nat.eq_of_testBit_eq
    intro j
    rw [lb, Nat.testBit_mod_two_pow, show 64 - (64 - B + 1) = B - 1 by omega]
    by_cases h1 : j < B - 1
    · rw [bit j (by omega)]; simp [h1]; intro _; omega
    · by_cases h2 : B - 1 = j
      · simp [h2]
      · rw [hi' j (by omega)]; simp [h1]
  · have hle : less r (2 ^ (B - 1)) ≤ r := Nat.and_le_left
    rcases Nat.lt_or_eq_of_le hle with h | h
    · exact h
    · have := lb (B - 1)
      rw [h, top] at this
      simp at this
/-- the half's end -/
theorem ended (F S i p : Nat) (hi : i < 2) (hp : p ≤ 64) (h0 : hf F S i % 2 ^ (64 - p) = 0) : L F S (64 * i + p) = L F S (64 * (i + 1)) := by
  have := @L_skip F S (64 * i + p) (64 - p) (fun m h1 h2 => by
    obtain ⟨q, rfl⟩ : ∃ q, m = 64 * i + q := ⟨m - 64 * i, by omega⟩
    rw [bit_hf F S i q hi (by omega)]
    have : (hf F S i % 2 ^ (64 - p)).testBit (63 - q) = (hf F S i).testBit (63 - q) := by
      rw [Nat.testBit_mod_two_pow]; simp; omega
    rw [← this, h0]; simp)
  rw [← this]; congr 1; omega
/-- the document's: the numbers below n that are set -/
def R (f : Nat → Bool) (n : Nat) : List Int := ((List.range n).filter fun i => decide (2 ≤ i) && (!(i == 65) && f i)).map fun (m : Nat) => (m : Int)
theorem R_hit {f : Nat → Bool} {n : Nat} (h1 : 2 ≤ n) (h2 : n ≠ 65) (h : f n = true) : R f (n + 1) = R f n ++ [(n : Int)] := by
  simp [R, List.range_succ, List.filter_append, h, h1, h2]
theorem R_miss {f : Nat → Bool} {n : Nat} (h : n = 65 ∨ f n = false) : R f (n + 1) = R f n := by
  simp only [R, List.range_succ, List.filter_append, List.map_append]
  have : (List.filter (fun i => decide (2 ≤ i) && (!(i == 65) && f i)) [n]) = [] := by
    rcases h with rfl | h
    · simp
    · simp [h]
  rw [this]; simp
theorem R_start (f : Nat → Bool) : R f 2 = [] := by simp [R, List.range_succ]
theorem R_len (f : Nat → Bool) : ∀ n, (R f n).length ≤ n := fun n => by
  have := List.length_filter_le (fun i => decide (2 ≤ i) && (!(i == 65) && f i)) (List.range n)
  simpa [R] using this
theorem fld_top (x : Nat) : (fld x).testBit 63 = false := by rw [fld_bit]; simp
/-- both are the same -/
theorem L_eq_R (F S : Nat) : L (fld F) (fld S) 128 = R (rowF F S) 129 := by
  have e : List.range 129 = 0 :: (List.range 128).map (· + 1) := by decide +kernel
  simp only [L, R, e]
  rw [List.filter_cons_of_neg (by simp), List.filter_map, List.map_map]
  have : List.filter (bitAt (fld F) (fld S)) (List.range 128) = List.filter ((fun i => decide (2 ≤ i) && (!(i == 65) && rowF F S i)) ∘ fun x => x + 1) (List.range 128) := by
    apply List.filter_congr
    intro m hm
    have hm := List.mem_range.1 hm
    simp only [Function.comp, bitAt]
    by_cases h1 : m < 64
    · rw [if_pos h1, rowF_lo (by omega) (by omega), fld_bit, show 64 - (m + 1) = 63 - m by omega]
      by_cases h0 : m = 0
      · subst h0; simp
      · simp only [show decide (2 ≤ m + 1) = true by simp; omega, show ((m + 1 == 65) = false) by simp; omega, show decide (63 - m < 63) = true by simp; omega]
        simp
    · rw [if_neg h1, rowF_hi (by omega), fld_bit, show 128 - (m + 1) = 127 - m by omega]
      by_cases h0 : m = 64
      · subst h0; simp
      · simp only [show decide (2 ≤ m + 1) = true by simp; omega, show ((m + 1 == 65) = false) by simp; omega, show decide (127 - m < 63) = true by simp; omega]
        simp
  rw [this]
  apply List.map_congr_left
  intro m _
  simp
/-- how many there are -/
theorem L_pop (F S : Nat) : ∀ k, k ≤ 64 → (L F S k).length = Pop.cntN (fun j => F.testBit (64 - j)) 0 k
  | 0, _ => by simp [L, Pop.cntN]
  | k + 1, h => by
    have ih := L_pop F S k (by omega)
    rw [Pop.cntN, ← ih]
    have e : bitAt F S k = F.testBit (64 - (0 + (k + 1))) := by
      rw [bitAt, if_pos (by omega)]; congr 1; omega
    cases hb : bitAt F S k
    · rw [L_miss hb, ← e, hb]; rfl
    · rw [L_hit hb, ← e, hb]; simp
theorem L_pop2 (F S : Nat) : ∀ k, k ≤ 64 → (L F S (64 + k)).length = (L F S 64).length + Pop.cntN (fun j => S.testBit (128 - j)) 64 k
  | 0, _ => by simp [Pop.cntN]
  | k + 1, h => by
    have ih := L_pop2 F S k (by omega)
    have e : bitAt F S (64 + k) = S.testBit (128 - (64 + (k + 1))) := by
      rw [bitAt, if_neg (by omega)]; congr 1; omega
    have c : Pop.cntN (fun j => S.testBit (128 - j)) 64 (k + 1) = Pop.cntN (fun j => S.testBit (128 - j)) 64 k + (S.testBit (128 - (64 + (k + 1)))).toNat := rfl
    rw [c, ← e, show 64 + (k + 1) = (64 + k) + 1 from rfl]
    cases hb : bitAt F S (64 + k)
    · rw [L_miss hb, ih]; rfl
    · rw [L_hit hb]; simp; omega
theorem L_all (F S : Nat) (hF : F < 18446744073709551616) (hS : S < 18446744073709551616) : (L F S 128).length = Pop.popN 64 F + Pop.popN 64 S := by
  have h1 := L_pop2 F S 64 (by omega)
  have h2 := L_pop F S 64 (by omega)
  have p1 := Pop.pop_half (fun j => F.testBit (64 - j)) 0 64
  have p2 := Pop.pop_half (fun j => S.testBit (128 - j)) 64 64
  rw [half_first hF (fun i _ _ => rfl)] at p1
  rw [half_second hS (fun i _ _ => rfl)] at p2
  rw [show (128 : Nat) = 64 + 64 from rfl, h1, h2, p1, p2]
end Go.Proofs.Ytkleoklcaalogaa.Np
