/- nearest, moved, readRate, Convert: the program's. -/
import Derived.Test.YtgojcebdlafbeabCv
import Derived.Test.YtgojcebdlafbeabMs
import Derived.Deep.QuietTactic
namespace Go.Proofs.Ytgojcebdlafbeab.Cw
set_option linter.unusedVariables false
open Go.RowKit Kb Cp Pp Pc Mp Cv Ms
theorem below_dr {B : Nat} {a w : World} (h : Below B a w) : ∀ n, Below B a (w.drewN n)
  | 0 => h
  | n + 1 => (below_dr h n).drew
set_option maxRecDepth 100000 in
set_option maxHeartbeats 400000 in
theorem nearest_int (n d q r X : Int) (hX : Hid (X = if d < r * 2 ∨ r * 2 = d ∧ q % 2 = 1 then q + 1 else q)) (n0 : 0 ≤ n) (n1 : n < 10000000000000000000) (d1 : 1 ≤ d) (d2 : d ≤ 10000000000) (hq : n.tdiv d = q) (hr : n.tmod d = r) (q0 : 0 ≤ q) (q1 : q < 10000000000000000000) (r0 : 0 ≤ r) (r1 : r < 10000000000) (w : World) : Calls Try.prog 23 #[.int .u64 n, .int .u64 d] w fun e w' => e = .returned (.int .u64 X) ∧ Below w.heap.size w w' := by
  have z2 : ¬ d = 0 := by omega
  go_enter Try.func23, Try.ntmps23
  go_wp2_with fail
  go_quiet (fail)
  go_wp2
  all_goals go_ret
  all_goals refine ⟨ret_int ?_, below_dr (Below.refl _ _) _⟩
  all_goals rw [hX.out]
  all_goals first | (rw [if_pos (by simp_all)]; done) | (rw [if_neg (by simp_all; try omega)]; done) | (rw [if_pos (by omega)]; done) | (rw [if_neg (by omega)]; done)
theorem nearest_any (n d : Nat) (hn : n < 10000000000000000000) (hd : 1 ≤ d) (hd2 : d ≤ 10000000000) (w : World) : Calls Try.prog 23 #[.int .u64 (n : Int), .int .u64 (d : Int)] w fun e w' => e = .returned (.int .u64 (nr n d : Int)) ∧ Below w.heap.size w w' := by
  have h1 := Nat.div_le_self n d
  have h2 := Nat.mod_lt n (show d > 0 by omega)
  refine nearest_int n d ((n / d : Nat) : Int) ((n % d : Nat) : Int) _ ?_ (by omega) (by omega) (by omega) (by omega) ?_ ?_ (Int.natCast_nonneg _) (by omega) (Int.natCast_nonneg _) (by omega) w
  · show _ = _
    simp only [nr]
    by_cases h : n % d * 2 > d ∨ n % d * 2 = d ∧ n / d % 2 = 1
    · rw [if_pos h, if_pos (by omega)]; rfl
    · rw [if_neg h, if_neg (by omega)]
  · rw [Int.tdiv_eq_ediv_of_nonneg (by omega)]; rfl
  · rw [Int.tmod_eq_emod_of_nonneg (by omega)]; rfl
set_option maxRecDepth 100000 in
set_option maxHeartbeats 400000 in
theorem moved_neg (n m : Nat) (hn : n < 10000000000000000000) (h1 : 1 ≤ m) (h2 : m ≤ 10) (w : World) : Calls Try.prog 16 #[.int .u64 (n : Int), .int .i64 (-(m : Int))] w fun e w' => e = .returned (.int .u64 (nr n (p10 m) : Int)) ∧ Below w.heap.size w w' := by
  have m1 : (1 : Int) ≤ (m : Int) := by omega
  have m2 : (m : Int) ≤ 10 := by omega
  have m3 : -(m : Int) < 0 := by omega
  have pt := fun w => tenTo_any m (by omega) w
  have pn := fun w => nearest_any n (p10 m) hn (p10_pos m) (by have : (10 : Nat) ^ m ≤ 10 ^ 10 := Nat.pow_le_pow_right (by decide) h2; rw [p10]; omega) w
  generalize nr n (p10 m) = X at *
  generalize p10 m = d at *
  go_enter Try.func16, Try.ntmps16
  go_wp2_with (first
    | (go_at_call 24; refine (pt _).mono ?_; rintro e x ⟨rfl, rfl⟩)
    | (go_at_call 23; refine (pn _).mono ?_; rintro e x ⟨rfl, hb⟩))
  go_ret
  exact ⟨rfl, hb⟩
set_option maxRecDepth 100000 in
set_option maxHeartbeats 400000 in
theorem moved_up (n m : Nat) (hn : n ≤ 999999999999) (h2 : m ≤ 3) (w : World) : Calls Try.prog 16 #[.int .u64 (n : Int), .int .i64 (m : Int)] w fun e w' => e = .returned (.int .u64 ((n * p10 m : Nat) : Int)) ∧ Below w.heap.size w w' := by
  have m1 : (0 : Int) ≤ (m : Int) := by omega
  have n1 : (n : Int) ≤ 999999999999 := by omega
  have pt := fun w => tenTo_any m (by omega) w
  have hb : p10 m ≤ 1000 := by have : (10 : Nat) ^ m ≤ 10 ^ 3 := Nat.pow_le_pow_right (by decide) h2; rw [p10]; omega
  have hm : n * p10 m ≤ 999999999999 * 1000 := Nat.mul_le_mul hn hb
  have w1 : IntKind.u64.wrap ((n : Int) * (p10 m : Int)) = (n : Int) * (p10 m : Int) := wrap_u64 _ (by rw [← Int.natCast_mul]; omega) (by rw [← Int.natCast_mul]; omega)
  clear hb hm
  generalize p10 m = d at *
  go_enter Try.func16, Try.ntmps16
  go_wp2_with (go_at_call 24; refine (pt _).mono ?_; rintro e x ⟨rfl, rfl⟩)
  go_ret
  exact ⟨ret_int (by simp), Below.refl _ _⟩
set_option maxRecDepth 100000 in
set_option maxHeartbeats 400000 in
theorem moved_big (n m : Nat) (hn : 999999999999 < n) (hn2 : n < 10000000000000000000) (w : World) : Calls Try.prog 16 #[.int .u64 (n : Int), .int .i64 (m : Int)] w fun e w' => e = .returned (.int .u64 (n : Int)) ∧ Below w.heap.size w w' := by
  have m1 : (0 : Int) ≤ (m : Int) := by omega
  have n1 : (999999999999 : Int) < (n : Int) := by omega
  go_enter Try.func16, Try.ntmps16
  go_wp2
  go_ret
  exact ⟨rfl, Below.refl _ _⟩
theorem moved_any (n : Nat) (k : Int) (hn : n < 10000000000000000000) (h1 : -10 ≤ k) (h2 : k ≤ 3) (w : World) : Calls Try.prog 16 #[.int .u64 (n : Int), .int .i64 k] w fun e w' => e = .returned (.int .u64 (mv n k : Int)) ∧ Below w.heap.size w w' := by
  by_cases h : k < 0
  · obtain ⟨m, rfl⟩ : ∃ m : Nat, k = -(m : Int) := ⟨(-k).toNat, by omega⟩
    rw [mv, if_pos h, Int.neg_neg, Int.toNat_natCast]
    exact moved_neg n m hn (by omega) (by omega) w
  · obtain ⟨m, rfl⟩ : ∃ m : Nat, k = (m : Int) := ⟨k.toNat, by omega⟩
    rw [mv, if_neg h, Int.toNat_natCast]
    by_cases hb : n > 999999999999
    · rw [if_pos hb]; exact moved_big n m hb hn w
    · rw [if_neg hb]; exact moved_up n m (by omega) (by omega) w
end Go.Proofs.Ytgojcebdlafbeab.Cw
