/- Plain: a rate's digits; how near. -/
import Derived.Test.YtgojcebdlafbeaaDoorCp
namespace Go.Proofs.YtgojcebdlafbeaaDoor.Np
set_option linter.unusedVariables false
open Cp
/-- the last k digits of n -/
def dz : Nat → Nat → List UInt8
  | 0, _ => []
  | k + 1, n => UInt8.ofNat (48 + n / 10 ^ k % 10) :: dz k n
theorem dz_length (k n : Nat) : (dz k n).length = k := by induction k with
  | zero => rfl
  | succ k ih => simp [dz, ih]
theorem dig_nat (d : Nat) (h : d < 10) : (UInt8.ofNat (48 + d)).toNat = 48 + d := by
  simp [UInt8.toNat_ofNat']; omega
theorem num_cons (c : UInt8) (l : List UInt8) : num (c :: l) = (c.toNat - 48) * 10 ^ l.length + num l := by
  have key : ∀ (l : List UInt8) (a : Nat), l.foldl (fun n c => n * 10 + (c.toNat - 48)) a = a * 10 ^ l.length + num l := by
    intro l
    induction l with
    | nil => intro a; simp [num]
    | cons x l ih =>
      intro a
      have e1 := ih (a * 10 + (x.toNat - 48))
      have e2 := ih (0 * 10 + (x.toNat - 48))
      simp only [num, List.foldl_cons, List.length_cons, Nat.pow_succ] at *
      rw [e1, e2]
      simp only [Nat.zero_mul, Nat.zero_add, Nat.add_mul]
      rw [Nat.mul_assoc a 10, Nat.mul_comm 10]
      omega
  have := key l (0 * 10 + (c.toNat - 48))
  simp only [num, List.foldl_cons]
  rw [this]; simp [num]
theorem dz_num (k n : Nat) : num (dz k n) = n % 10 ^ k := by
  induction k with
  | zero => simp [dz, num, Nat.mod_one]
  | succ k ih =>
    rw [dz, num_cons, dz_length, ih, dig_nat _ (Nat.mod_lt _ (by decide)), Nat.add_sub_cancel_left, Nat.pow_succ, Nat.mod_mul]
    rw [Nat.mul_comm, Nat.add_comm]
theorem dz_dg (k n : Nat) : ad (dz k n) = true := by
  induction k with
  | zero => rfl
  | succ k ih =>
    have h : dg (UInt8.ofNat (48 + n / 10 ^ k % 10)) = true := by
      rw [dg_iff, dig_nat _ (Nat.mod_lt _ (by decide))]
      have := Nat.mod_lt (n / 10 ^ k) (show 10 > 0 by decide)
      omega
    simp only [ad, dz, List.all_cons, h, Bool.true_and]
    exact ih
def rtL (p n : Nat) : List UInt8 := UInt8.ofNat (48 + p) :: dz 7 n
theorem rtL_ok (p n : Nat) (hp : p ≤ 7) (hn : n < 10000000) (h0 : 0 < n) : rtB (rtL p n) = true ∧ rtP (rtL p n) = p ∧ rtN (rtL p n) = n := by
  have e1 : num ((rtL p n).take 1) = p := by
    rw [rtL, List.take_succ_cons, List.take_zero, num_cons, dig_nat _ (by omega)]; simp [num]
  have e2 : num ((rtL p n).drop 1) = n := by
    rw [rtL, List.drop_succ_cons, List.drop_zero, dz_num]; exact Nat.mod_eq_of_lt hn
  have e3 : ad (rtL p n) = true := by
    have h : dg (UInt8.ofNat (48 + p)) = true := by rw [dg_iff, dig_nat _ (by omega)]; omega
    have := dz_dg 7 n
    simp only [ad, rtL, List.all_cons, h, Bool.true_and] at *
    exact this
  refine ⟨?_, e1, e2⟩
  have hl : (rtL p n).length = 8 := by rw [rtL, List.length_cons, dz_length]
  rw [rtB, e1, e2, e3, hl]
  simp [hp, h0]
/-! the nearest -/
theorem nr_mono (a b d : Nat) (h : a ≤ b) (hd : 0 < d) : nr a d ≤ nr b d := by
  have e1 := Nat.div_add_mod a d
  have e2 := Nat.div_add_mod b d
  have m1 := Nat.mod_lt a hd
  have m2 := Nat.mod_lt b hd
  have hq := Nat.div_le_div_right (c := d) h
  rcases Nat.lt_or_ge (a / d) (b / d) with hlt | hge
  · unfold nr; split <;> split <;> omega
  · have heq : a / d = b / d := by omega
    rw [heq] at e1
    have hm : a % d ≤ b % d := by omega
    unfold nr
    rw [heq]
    split <;> split <;> omega
theorem nr_ten (n d : Nat) (hd : 0 < d) : nr (10 * n) (d * 10) = nr n d := by
  have e1 : 10 * n / (d * 10) = n / d := by rw [Nat.mul_comm d, Nat.mul_div_mul_left _ _ (by decide)]
  have e2 : 10 * n % (d * 10) = 10 * (n % d) := by rw [Nat.mul_comm d, Nat.mul_mod_mul_left]
  unfold nr
  rw [e1, e2]
  by_cases h : n % d * 2 > d ∨ n % d * 2 = d ∧ n / d % 2 = 1
  · rw [if_pos h, if_pos (by omega)]
  · rw [if_neg h, if_neg (by omega)]
/-- how far off the nearest is -/
theorem nr_near (n d : Nat) (hd : 0 < d) : 2 * (nr n d * d : Int) - 2 * n ≤ d ∧ 2 * (n : Int) - 2 * (nr n d * d : Int) ≤ d ∧ ((2 * (nr n d * d : Int) - 2 * n = d ∨ 2 * (n : Int) - 2 * (nr n d * d : Int) = d) → nr n d % 2 = 0) := by
  have e1 := Nat.div_add_mod n d
  have m1 := Nat.mod_lt n hd
  generalize hq : n / d = q at *
  generalize hr : n % d = r at *
  have e3 : ((q : Int) * (d : Int)) = (n : Int) - r := by
    have : ((d * q + r : Nat) : Int) = (n : Int) := by rw [e1]
    rw [Int.natCast_add, Int.natCast_mul, Int.mul_comm] at this
    omega
  unfold nr
  rw [hq, hr]
  split
  · rename_i h
    have e4 : (((q + 1 : Nat) : Int) * (d : Int)) = (n : Int) - r + d := by
      rw [Int.natCast_add, Int.add_mul, e3]; simp
    rw [e4]
    refine ⟨by omega, by omega, fun h2 => by omega⟩
  · rename_i h
    rw [e3]
    refine ⟨by omega, by omega, fun h2 => by omega⟩
theorem p10_add (a b : Nat) : p10 (a + b) = p10 a * p10 b := Nat.pow_add ..
theorem mv_near (n f k t : Nat) (hn : n ≤ 999999999999) :
    2 * (mv n ((t : Int) - f - k) * (p10 f * p10 k) : Nat) - 2 * ((n * p10 t : Nat) : Int) ≤ ((p10 f * p10 k : Nat) : Int) ∧
    2 * ((n * p10 t : Nat) : Int) - 2 * (mv n ((t : Int) - f - k) * (p10 f * p10 k) : Nat) ≤ ((p10 f * p10 k : Nat) : Int) ∧
    ((2 * (mv n ((t : Int) - f - k) * (p10 f * p10 k) : Nat) - 2 * ((n * p10 t : Nat) : Int) = ((p10 f * p10 k : Nat) : Int) ∨ 2 * ((n * p10 t : Nat) : Int) - 2 * (mv n ((t : Int) - f - k) * (p10 f * p10 k) : Nat) = ((p10 f * p10 k : Nat) : Int)) → mv n ((t : Int) - f - k) % 2 = 0) := by
  by_cases hK : (t : Int) - f - k < 0
  · obtain ⟨j, hj⟩ : ∃ j : Nat, f + k = t + j := ⟨f + k - t, by omega⟩
    have e1 : mv n ((t : Int) - f - k) = nr n (p10 j) := by
      rw [mv, if_pos hK, show (-((t : Int) - f - k)).toNat = j by omega]
    have e2 : p10 f * p10 k = p10 j * p10 t := by rw [← p10_add, hj, p10_add, Nat.mul_comm]
    rw [e1, e2]
    obtain ⟨h1, h2, h3⟩ := nr_near n (p10 j) (p10_pos j)
    have hT : (1 : Int) ≤ (p10 t : Int) := by have := p10_pos t; omega
    generalize nr n (p10 j) = a at *
    simp only [Int.natCast_mul] at *
    generalize (p10 t : Int) = T at *
    generalize (p10 j : Int) = J at *
    have x1 : (a : Int) * (J * T) = (a : Int) * J * T := by rw [Int.mul_assoc]
    rw [x1]
    generalize (a : Int) * J = A at *
    have m1 := Int.mul_le_mul_of_nonneg_right h1 (show 0 ≤ T by omega)
    have m2 := Int.mul_le_mul_of_nonneg_right h2 (show 0 ≤ T by omega)
    have y1 : (2 * A - 2 * (n : Int)) * T = 2 * (A * T) - 2 * ((n : Int) * T) := by rw [Int.sub_mul, Int.mul_assoc, Int.mul_assoc]
    have y2 : (2 * (n : Int) - 2 * A) * T = 2 * ((n : Int) * T) - 2 * (A * T) := by rw [Int.sub_mul, Int.mul_assoc, Int.mul_assoc]
    rw [y1] at m1
    rw [y2] at m2
    refine ⟨m1, m2, fun h => h3 ?_⟩
    rcases h with h | h
    · left
      rw [← y1] at h
      exact Int.eq_of_mul_eq_mul_right (by omega) h
    · right
      rw [← y2] at h
      exact Int.eq_of_mul_eq_mul_right (by omega) h
  · obtain ⟨j, hj⟩ : ∃ j : Nat, t = f + k + j := ⟨t - f - k, by omega⟩
    have e1 : mv n ((t : Int) - f - k) = n * p10 j := by
      rw [mv, if_neg hK, if_neg (by omega), show ((t : Int) - f - k).toNat = j by omega]
    have e2 : n * p10 t = n * p10 j * (p10 f * p10 k) := by rw [hj, p10_add, p10_add, Nat.mul_assoc n, Nat.mul_comm (p10 j)]
    rw [e1, e2]
    have hp : 1 ≤ p10 f * p10 k := Nat.mul_le_mul (p10_pos f) (p10_pos k)
    refine ⟨by omega, by omega, fun h => by omega⟩
theorem mv_ten (n : Nat) (K : Int) (hn : n ≤ 999999999999) : (mv (10 * n) (K - 1) ≤ 999999999999 ↔ mv n K ≤ 999999999999) ∧ (mv n K ≤ 999999999999 → mv (10 * n) (K - 1) = mv n K) := by
  by_cases hK : K ≤ 0
  · obtain ⟨j, hj⟩ : ∃ j : Nat, K = -(j : Int) := ⟨(-K).toNat, by omega⟩
    have e : mv (10 * n) (K - 1) = mv n K := by
      rw [mv, if_pos (by omega), show (-(K - 1)).toNat = j + 1 by omega, p10_succ, nr_ten _ _ (p10_pos j)]
      by_cases h0 : j = 0
      · subst h0
        have : n % 1 = 0 := Nat.mod_one n
        rw [mv, if_neg (by omega), if_neg (by omega), show K.toNat = 0 by omega]
        simp [nr, p10, this]
      · rw [mv, if_pos (by omega), show (-K).toNat = j by omega]
    rw [e]; exact ⟨Iff.rfl, fun _ => rfl⟩
  · obtain ⟨j, hj⟩ : ∃ j : Nat, K = ((j + 1 : Nat) : Int) := ⟨(K - 1).toNat, by omega⟩
    have e1 : mv n K = n * p10 (j + 1) := by rw [mv, if_neg (by omega), if_neg (by omega), show K.toNat = j + 1 by omega]
    have e2 : n * p10 (j + 1) = 10 * n * p10 j := by rw [p10_succ, Nat.mul_comm (p10 j), ← Nat.mul_assoc, Nat.mul_comm n]
    have e3 : 10 * n ≤ 10 * n * p10 j := Nat.le_mul_of_pos_right _ (p10_pos j)
    rw [e1, e2, mv, if_neg (by omega), show (K - 1).toNat = j by omega]
    by_cases h : 10 * n > 999999999999
    · rw [if_pos h]; exact ⟨by omega, fun h2 => by omega⟩
    · rw [if_neg h]; exact ⟨Iff.rfl, fun _ => rfl⟩
theorem mv_mono (a b : Nat) (K : Int) (h : a ≤ b) (hb : b ≤ 999999999999) : mv a K ≤ mv b K := by
  unfold mv
  split
  · exact nr_mono a b _ h (p10_pos _)
  · rw [if_neg (by omega), if_neg (by omega)]
    exact Nat.mul_le_mul_right _ h
theorem mv_one (u : Nat) (hu : u ≤ 999999999999) : mv (u * 1) 0 = u := by
  rw [mv, if_neg (by omega), if_neg (by omega)]; simp [p10]
theorem le_div (a d w : Nat) (hd : 1 ≤ d) (h : 2 * ((a * d : Nat) : Int) - 2 * (w : Int) ≤ (d : Int)) : a ≤ w / d + 1 := by
  rcases Nat.eq_zero_or_pos a with h0 | h0
  · rw [h0]; exact Nat.zero_le _
  · obtain ⟨b, rfl⟩ : ∃ b, a = b + 1 := ⟨a - 1, by omega⟩
    have e : (b + 1) * d = b * d + d := by rw [Nat.add_mul, Nat.one_mul]
    have : b ≤ w / d := (Nat.le_div_iff_mul_le (by omega)).2 (by omega)
    omega
end Go.Proofs.YtgojcebdlafbeaaDoor.Np
