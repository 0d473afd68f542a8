/- Tags and lengths: plain, and the program's. -/
import Derived.Test.YtgidjfhlooggkaaKb
import Derived.Laws.Bits128
import Derived.Deep.QuietTactic
import Derived.BigQuiet
namespace Go.Proofs.Ytgidjfhlooggkaa.Ga
set_option linter.unusedVariables false
set_option linter.unusedSimpArgs false
open Go.RowKit Kb
theorem and31 (n : Int) : bits .and .i64 n 31 = n % 32 := by
  have h : (BitVec.ofInt 64 31).toNat = 2 ^ 5 - 1 := by decide
  have key : (BitVec.ofInt 64 n &&& BitVec.ofInt 64 31).toNat = (n % ((2 ^ 64 : Nat) : Int)).toNat % 2 ^ 5 := by
    rw [BitVec.toNat_and, BitVec.toNat_ofInt, h, Nat.and_two_pow_sub_one_eq_mod]
  show IntKind.i64.wrap ((BitVec.ofInt 64 n &&& BitVec.ofInt 64 31).toNat : Nat) = n % 32
  rw [key, IntKind.wrap_i64]
  omega
theorem and255 (n : Int) : bits .and .i64 n 255 = n % 256 := by
  have h : (BitVec.ofInt 64 255).toNat = 2 ^ 8 - 1 := by decide
  have key : (BitVec.ofInt 64 n &&& BitVec.ofInt 64 255).toNat = (n % ((2 ^ 64 : Nat) : Int)).toNat % 2 ^ 8 := by
    rw [BitVec.toNat_and, BitVec.toNat_ofInt, h, Nat.and_two_pow_sub_one_eq_mod]
  show IntKind.i64.wrap ((BitVec.ofInt 64 n &&& BitVec.ofInt 64 255).toNat : Nat) = n % 256
  rw [key, IntKind.wrap_i64]
  omega
/-- does a tag that begins so have more bytes than one? -/
def gOn (f : Int) : Bool := f % 32 == 31
set_option maxRecDepth 100000 in
theorem goesOn_any (f : Int) (w : World) : Calls Try.prog 96 #[.int .i64 f] w fun e w' => e = .returned (.bool (gOn f)) ∧ w' = w := by
  have h := and31 f
  go_enter Try.func96, Try.ntmps96
  go_wp2
  go_ret
  exact ⟨rfl, rfl⟩
/-- how many bytes a length has -/
def lnS (n : Int) : Int := if n ≤ 127 then 1 else if n ≤ 255 then 2 else 3
set_option maxRecDepth 100000 in
theorem lengthSize_any (n : Int) (w : World) : Calls Try.prog 75 #[.int .i64 n] w fun e w' => e = .returned (.int .i64 (lnS n)) ∧ w' = w := by
  by_cases h0 : n ≤ 127
  · rw [show lnS n = 1 by rw [lnS, if_pos h0]]
    go_enter Try.func75, Try.ntmps75
    go_wp2
    go_ret
    exact ⟨rfl, rfl⟩
  · by_cases h1 : n ≤ 255
    · rw [show lnS n = 2 by rw [lnS, if_neg h0, if_pos h1]]
      go_enter Try.func75, Try.ntmps75
      go_wp2
      go_ret
      exact ⟨rfl, rfl⟩
    · rw [show lnS n = 3 by rw [lnS, if_neg h0, if_neg h1]]
      go_enter Try.func75, Try.ntmps75
      go_wp2
      go_ret
      exact ⟨rfl, rfl⟩
/-- how many bytes a tag has; 0: it is none -/
def tgS (t : Int) : Int := if t ≤ 0 then 0 else if t < 256 ∧ ¬ t % 32 = 31 then 1 else if t < 65536 ∧ t / 256 % 32 = 31 ∧ t % 256 < 128 then 2 else if t < 16777216 ∧ t / 65536 % 32 = 31 ∧ 128 < t / 256 % 256 ∧ t % 256 < 128 then 3 else 0
set_option maxRecDepth 100000 in
theorem tagSize_any (t : Int) (w : World) (ht : t ≤ 9223372036854775807) : Calls Try.prog 74 #[.int .i64 t] w fun e w' => e = .returned (.int .i64 (tgS t)) ∧ w' = w := by
  by_cases h0 : t ≤ 0
  · rw [show tgS t = 0 by rw [tgS, if_pos h0]]
    go_enter Try.func74, Try.ntmps74
    go_wp2
    go_ret
    exact ⟨rfl, rfl⟩
  · have a1 := and255 t
    have a2 := and255 (t / 256)
    by_cases h1 : t < 256
    · have e1 : gOn (t / 256) = false := by simp only [gOn, beq_eq_false_iff_ne, ne_eq]; omega
      have e2 : gOn (t / 65536) = false := by simp only [gOn, beq_eq_false_iff_ne, ne_eq]; omega
      cases e0 : gOn t
      · rw [show tgS t = 1 by simp only [gOn, beq_iff_eq, beq_eq_false_iff_ne, ne_eq] at e0 e1 e2; unfold tgS; split <;> (try omega) <;> split <;> (try omega) <;> split <;> (try omega) <;> split <;> omega]
        go_enter Try.func74, Try.ntmps74
        go_wp2_with (go_at_call 96; refine (goesOn_any _ _).mono ?_; rintro e x ⟨rfl, rfl⟩; first | rw [e0] | rw [e1] | rw [e2])
        all_goals (go_ret; exact ⟨rfl, rfl⟩)
      · rw [show tgS t = 0 by simp only [gOn, beq_iff_eq, beq_eq_false_iff_ne, ne_eq] at e0 e1 e2; unfold tgS; split <;> (try omega) <;> split <;> (try omega) <;> split <;> (try omega) <;> split <;> omega]
        go_enter Try.func74, Try.ntmps74
        go_wp2_with (go_at_call 96; refine (goesOn_any _ _).mono ?_; rintro e x ⟨rfl, rfl⟩; first | rw [e0] | rw [e1] | rw [e2])
        all_goals (go_ret; exact ⟨rfl, rfl⟩)
    · have h1' : 256 ≤ t := by omega
      cases e0 : gOn t
      · by_cases h2 : t < 65536
        · have e2 : gOn (t / 65536) = false := by simp only [gOn, beq_eq_false_iff_ne, ne_eq]; omega
          cases e1 : gOn (t / 256)
          · rw [show tgS t = 0 by simp only [gOn, beq_iff_eq, beq_eq_false_iff_ne, ne_eq] at e0 e1 e2; unfold tgS; split <;> (try omega) <;> split <;> (try omega) <;> split <;> (try omega) <;> split <;> omega]
            go_enter Try.func74, Try.ntmps74
            go_wp2_with (go_at_call 96; refine (goesOn_any _ _).mono ?_; rintro e x ⟨rfl, rfl⟩; first | rw [e0] | rw [e1] | rw [e2])
            all_goals (go_ret; exact ⟨rfl, rfl⟩)
          · by_cases p : t % 256 < 128
            · rw [show tgS t = 2 by simp only [gOn, beq_iff_eq, beq_eq_false_iff_ne, ne_eq] at e0 e1 e2; unfold tgS; split <;> (try omega) <;> split <;> (try omega) <;> split <;> (try omega) <;> split <;> omega]
              go_enter Try.func74, Try.ntmps74
              go_wp2_with (go_at_call 96; refine (goesOn_any _ _).mono ?_; rintro e x ⟨rfl, rfl⟩; first | rw [e0] | rw [e1] | rw [e2])
              all_goals (go_ret; exact ⟨rfl, rfl⟩)
            · rw [show tgS t = 0 by simp only [gOn, beq_iff_eq, beq_eq_false_iff_ne, ne_eq] at e0 e1 e2; unfold tgS; split <;> (try omega) <;> split <;> (try omega) <;> split <;> (try omega) <;> split <;> omega]
              go_enter Try.func74, Try.ntmps74
              go_wp2_with (go_at_call 96; refine (goesOn_any _ _).mono ?_; rintro e x ⟨rfl, rfl⟩; first | rw [e0] | rw [e1] | rw [e2])
              all_goals (go_ret; exact ⟨rfl, rfl⟩)
        · have e1 : gOn (t / 256) = gOn (t / 256) := rfl
          by_cases h3 : t < 16777216
          · cases e2 : gOn (t / 65536)
            · rw [show tgS t = 0 by simp only [gOn, beq_iff_eq, beq_eq_false_iff_ne, ne_eq] at e0 e1 e2; unfold tgS; split <;> (try omega) <;> split <;> (try omega) <;> split <;> (try omega) <;> split <;> omega]
              go_enter Try.func74, Try.ntmps74
              go_wp2_with (go_at_call 96; refine (goesOn_any _ _).mono ?_; rintro e x ⟨rfl, rfl⟩; first | rw [e0] | rw [e1] | rw [e2])
              all_goals (go_ret; exact ⟨rfl, rfl⟩)
            · by_cases q : 128 < t / 256 % 256
              · by_cases p : t % 256 < 128
                · rw [show tgS t = 3 by simp only [gOn, beq_iff_eq, beq_eq_false_iff_ne, ne_eq] at e0 e1 e2; unfold tgS; split <;> (try omega) <;> split <;> (try omega) <;> split <;> (try omega) <;> split <;> omega]
                  go_enter Try.func74, Try.ntmps74
                  go_wp2_with (go_at_call 96; refine (goesOn_any _ _).mono ?_; rintro e x ⟨rfl, rfl⟩; first | rw [e0] | rw [e1] | rw [e2])
                  all_goals (go_ret; exact ⟨rfl, rfl⟩)
                · rw [show tgS t = 0 by simp only [gOn, beq_iff_eq, beq_eq_false_iff_ne, ne_eq] at e0 e1 e2; unfold tgS; split <;> (try omega) <;> split <;> (try omega) <;> split <;> (try omega) <;> split <;> omega]
                  go_enter Try.func74, Try.ntmps74
                  go_wp2_with (go_at_call 96; refine (goesOn_any _ _).mono ?_; rintro e x ⟨rfl, rfl⟩; first | rw [e0] | rw [e1] | rw [e2])
                  all_goals (go_ret; exact ⟨rfl, rfl⟩)
              · rw [show tgS t = 0 by simp only [gOn, beq_iff_eq, beq_eq_false_iff_ne, ne_eq] at e0 e1 e2; unfold tgS; split <;> (try omega) <;> split <;> (try omega) <;> split <;> (try omega) <;> split <;> omega]
                go_enter Try.func74, Try.ntmps74
                go_wp2_with (go_at_call 96; refine (goesOn_any _ _).mono ?_; rintro e x ⟨rfl, rfl⟩; first | rw [e0] | rw [e1] | rw [e2])
                all_goals (go_ret; exact ⟨rfl, rfl⟩)
          · have e2 : gOn (t / 65536) = gOn (t / 65536) := rfl
            rw [show tgS t = 0 by simp only [gOn, beq_iff_eq, beq_eq_false_iff_ne, ne_eq] at e0 e1 e2; unfold tgS; split <;> (try omega) <;> split <;> (try omega) <;> split <;> (try omega) <;> split <;> omega]
            go_enter Try.func74, Try.ntmps74
            go_wp2_with (go_at_call 96; refine (goesOn_any _ _).mono ?_; rintro e x ⟨rfl, rfl⟩; first | rw [e0] | rw [e1] | rw [e2])
            all_goals (go_ret; exact ⟨rfl, rfl⟩)
      · by_cases h2 : t < 65536
        · have e2 : gOn (t / 65536) = false := by simp only [gOn, beq_eq_false_iff_ne, ne_eq]; omega
          cases e1 : gOn (t / 256)
          · rw [show tgS t = 0 by simp only [gOn, beq_iff_eq, beq_eq_false_iff_ne, ne_eq] at e0 e1 e2; unfold tgS; split <;> (try omega) <;> split <;> (try omega) <;> split <;> (try omega) <;> split <;> omega]
            go_enter Try.func74, Try.ntmps74
            go_wp2_with (go_at_call 96; refine (goesOn_any _ _).mono ?_; rintro e x ⟨rfl, rfl⟩; first | rw [e0] | rw [e1] | rw [e2])
            all_goals (go_ret; exact ⟨rfl, rfl⟩)
          · by_cases p : t % 256 < 128
            · rw [show tgS t = 2 by simp only [gOn, beq_iff_eq, beq_eq_false_iff_ne, ne_eq] at e0 e1 e2; unfold tgS; split <;> (try omega) <;> split <;> (try omega) <;> split <;> (try omega) <;> split <;> omega]
              go_enter Try.func74, Try.ntmps74
              go_wp2_with (go_at_call 96; refine (goesOn_any _ _).mono ?_; rintro e x ⟨rfl, rfl⟩; first | rw [e0] | rw [e1] | rw [e2])
              all_goals (go_ret; exact ⟨rfl, rfl⟩)
            · rw [show tgS t = 0 by simp only [gOn, beq_iff_eq, beq_eq_false_iff_ne, ne_eq] at e0 e1 e2; unfold tgS; split <;> (try omega) <;> split <;> (try omega) <;> split <;> (try omega) <;> split <;> omega]
              go_enter Try.func74, Try.ntmps74
              go_wp2_with (go_at_call 96; refine (goesOn_any _ _).mono ?_; rintro e x ⟨rfl, rfl⟩; first | rw [e0] | rw [e1] | rw [e2])
              all_goals (go_ret; exact ⟨rfl, rfl⟩)
        · have e1 : gOn (t / 256) = gOn (t / 256) := rfl
          by_cases h3 : t < 16777216
          · cases e2 : gOn (t / 65536)
            · rw [show tgS t = 0 by simp only [gOn, beq_iff_eq, beq_eq_false_iff_ne, ne_eq] at e0 e1 e2; unfold tgS; split <;> (try omega) <;> split <;> (try omega) <;> split <;> (try omega) <;> split <;> omega]
              go_enter Try.func74, Try.ntmps74
              go_wp2_with (go_at_call 96; refine (goesOn_any _ _).mono ?_; rintro e x ⟨rfl, rfl⟩; first | rw [e0] | rw [e1] | rw [e2])
              all_goals (go_ret; exact ⟨rfl, rfl⟩)
            · by_cases q : 128 < t / 256 % 256
              · by_cases p : t % 256 < 128
                · rw [show tgS t = 3 by simp only [gOn, beq_iff_eq, beq_eq_false_iff_ne, ne_eq] at e0 e1 e2; unfold tgS; split <;> (try omega) <;> split <;> (try omega) <;> split <;> (try omega) <;> split <;> omega]
                  go_enter Try.func74, Try.ntmps74
                  go_wp2_with (go_at_call 96; refine (goesOn_any _ _).mono ?_; rintro e x ⟨rfl, rfl⟩; first | rw [e0] | rw [e1] | rw [e2])
                  all_goals (go_ret; exact ⟨rfl, rfl⟩)
                · rw [show tgS t = 0 by simp only [gOn, beq_iff_eq, beq_eq_false_iff_ne, ne_eq] at e0 e1 e2; unfold tgS; split <;> (try omega) <;> split <;> (try omega) <;> split <;> (try omega) <;> split <;> omega]
                  go_enter Try.func74, Try.ntmps74
                  go_wp2_with (go_at_call 96; refine (goesOn_any _ _).mono ?_; rintro e x ⟨rfl, rfl⟩; first | rw [e0] | rw [e1] | rw [e2])
                  all_goals (go_ret; exact ⟨rfl, rfl⟩)
              · rw [show tgS t = 0 by simp only [gOn, beq_iff_eq, beq_eq_false_iff_ne, ne_eq] at e0 e1 e2; unfold tgS; split <;> (try omega) <;> split <;> (try omega) <;> split <;> (try omega) <;> split <;> omega]
                go_enter Try.func74, Try.ntmps74
                go_wp2_with (go_at_call 96; refine (goesOn_any _ _).mono ?_; rintro e x ⟨rfl, rfl⟩; first | rw [e0] | rw [e1] | rw [e2])
                all_goals (go_ret; exact ⟨rfl, rfl⟩)
          · have e2 : gOn (t / 65536) = gOn (t / 65536) := rfl
            rw [show tgS t = 0 by simp only [gOn, beq_iff_eq, beq_eq_false_iff_ne, ne_eq] at e0 e1 e2; unfold tgS; split <;> (try omega) <;> split <;> (try omega) <;> split <;> (try omega) <;> split <;> omega]
            go_enter Try.func74, Try.ntmps74
            go_wp2_with (go_at_call 96; refine (goesOn_any _ _).mono ?_; rintro e x ⟨rfl, rfl⟩; first | rw [e0] | rw [e1] | rw [e2])
            all_goals (go_ret; exact ⟨rfl, rfl⟩)
end Go.Proofs.Ytgidjfhlooggkaa.Ga
