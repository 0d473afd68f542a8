/- Message types: bytes, plain, and the program's questions. -/
import Derived.Test.YteaanenhefbkjaaDoorRows
import Derived.WalkKit
import Derived.Below
namespace Go.Proofs.YteaanenhefbkjaaDoor.Hp
set_option linter.unusedVariables false
set_option linter.unusedSimpArgs false
open Go.RowKit
def askN (c : Nat) : Bool := c == 48 || c == 50
def fnN (b c : Nat) : Bool := ((b == 49 || b == 50) && (decide (48 ≤ c) && decide (c ≤ 51))) || (b == 52 && (c == 50 || c == 51)) || ((b == 53 || b == 56) && (c == 48 || c == 49))
def orN (c d : Nat) : Bool := d == 48 || (d == 49 && askN c)
set_option maxRecDepth 100000 in
set_option maxHeartbeats 800000 in
theorem isAsking_any (c : Nat) (w : World) : Calls Tryd.prog 40 #[.int .u8 (c : Int)] w fun e w' => e = .returned (.bool (askN c)) ∧ w' = w := by
  by_cases h0 : c = 48
  · subst h0
    go_enter Tryd.func40, Tryd.ntmps40
    go_wp2
    go_ret
    exact ⟨rfl, rfl⟩
  · by_cases h1 : c = 50
    · subst h1
      go_enter Tryd.func40, Tryd.ntmps40
      go_wp2
      go_ret
      exact ⟨rfl, rfl⟩
    · have e : askN c = false := by simp [askN, h0, h1]
      rw [e]
      have g0 : ((c : Int) == 48) = false := by simp only [beq_eq_false_iff_ne, ne_eq]; omega
      have g1 : ((c : Int) == 50) = false := by simp only [beq_eq_false_iff_ne, ne_eq]; omega
      go_enter Tryd.func40, Tryd.ntmps40
      go_wp2
      go_ret
      exact ⟨rfl, rfl⟩
set_option maxRecDepth 100000 in
set_option maxHeartbeats 800000 in
theorem rightFunction_any (b c : Nat) (w : World) : Calls Tryd.prog 50 #[.int .u8 (b : Int), .int .u8 (c : Int)] w fun e w' => e = .returned (.bool (fnN b c)) ∧ w' = w := by
  by_cases hb : b = 49
  · subst hb
    by_cases h0 : 48 ≤ c
    · have g0 : (48 : Int) ≤ (c : Int) := by omega
      by_cases h1 : c ≤ 51
      · have g1 : (c : Int) ≤ 51 := by omega
        have e : fnN 49 c = true := by simp [fnN, h0, h1]
        rw [e]
        go_enter Tryd.func50, Tryd.ntmps50
        go_wp2
        go_ret
        exact ⟨rfl, rfl⟩
      · have g1 : ¬ (c : Int) ≤ 51 := by omega
        have e : fnN 49 c = false := by simp [fnN, h1]
        rw [e]
        go_enter Tryd.func50, Tryd.ntmps50
        go_wp2
        go_ret
        exact ⟨rfl, rfl⟩
    · have g0 : ¬ (48 : Int) ≤ (c : Int) := by omega
      have e : fnN 49 c = false := by simp [fnN, h0]
      rw [e]
      go_enter Tryd.func50, Tryd.ntmps50
      go_wp2
      go_ret
      exact ⟨rfl, rfl⟩
  · have k49 := hb
    clear hb
    by_cases hb : b = 50
    · subst hb
      by_cases h0 : 48 ≤ c
      · have g0 : (48 : Int) ≤ (c : Int) := by omega
        by_cases h1 : c ≤ 51
        · have g1 : (c : Int) ≤ 51 := by omega
          have e : fnN 50 c = true := by simp [fnN, h0, h1]
          rw [e]
          go_enter Tryd.func50, Tryd.ntmps50
          go_wp2
          go_ret
          exact ⟨rfl, rfl⟩
        · have g1 : ¬ (c : Int) ≤ 51 := by omega
          have e : fnN 50 c = false := by simp [fnN, h1]
          rw [e]
          go_enter Tryd.func50, Tryd.ntmps50
          go_wp2
          go_ret
          exact ⟨rfl, rfl⟩
      · have g0 : ¬ (48 : Int) ≤ (c : Int) := by omega
        have e : fnN 50 c = false := by simp [fnN, h0]
        rw [e]
        go_enter Tryd.func50, Tryd.ntmps50
        go_wp2
        go_ret
        exact ⟨rfl, rfl⟩
    · have k50 := hb
      clear hb
      by_cases hb : b = 52
      · subst hb
        by_cases h0 : c = 50
        · subst h0
          go_enter Tryd.func50, Tryd.ntmps50
          go_wp2
          go_ret
          exact ⟨rfl, rfl⟩
        · by_cases h1 : c = 51
          · subst h1
            go_enter Tryd.func50, Tryd.ntmps50
            go_wp2
            go_ret
            exact ⟨rfl, rfl⟩
          · have e : fnN 52 c = false := by simp [fnN, h0, h1]
            rw [e]
            have g0 : ((c : Int) == 50) = false := by simp only [beq_eq_false_iff_ne, ne_eq]; omega
            have g1 : ((c : Int) == 51) = false := by simp only [beq_eq_false_iff_ne, ne_eq]; omega
            go_enter Tryd.func50, Tryd.ntmps50
            go_wp2
            go_ret
            exact ⟨rfl, rfl⟩
      · have k52 := hb
        clear hb
        by_cases hb : b = 53
        · subst hb
          by_cases h0 : c = 48
          · subst h0
            go_enter Tryd.func50, Tryd.ntmps50
            go_wp2
            go_ret
            exact ⟨rfl, rfl⟩
          · by_cases h1 : c = 49
            · subst h1
              go_enter Tryd.func50, Tryd.ntmps50
              go_wp2
              go_ret
              exact ⟨rfl, rfl⟩
            · have e : fnN 53 c = false := by simp [fnN, h0, h1]
              rw [e]
              have g0 : ((c : Int) == 48) = false := by simp only [beq_eq_false_iff_ne, ne_eq]; omega
              have g1 : ((c : Int) == 49) = false := by simp only [beq_eq_false_iff_ne, ne_eq]; omega
              go_enter Tryd.func50, Tryd.ntmps50
              go_wp2
              go_ret
              exact ⟨rfl, rfl⟩
        · have k53 := hb
          clear hb
          by_cases hb : b = 56
          · subst hb
            by_cases h0 : c = 48
            · subst h0
              go_enter Tryd.func50, Tryd.ntmps50
              go_wp2
              go_ret
              exact ⟨rfl, rfl⟩
            · by_cases h1 : c = 49
              · subst h1
                go_enter Tryd.func50, Tryd.ntmps50
                go_wp2
                go_ret
                exact ⟨rfl, rfl⟩
              · have e : fnN 56 c = false := by simp [fnN, h0, h1]
                rw [e]
                have g0 : ((c : Int) == 48) = false := by simp only [beq_eq_false_iff_ne, ne_eq]; omega
                have g1 : ((c : Int) == 49) = false := by simp only [beq_eq_false_iff_ne, ne_eq]; omega
                go_enter Tryd.func50, Tryd.ntmps50
                go_wp2
                go_ret
                exact ⟨rfl, rfl⟩
          · have k56 := hb
            clear hb
            have e : fnN b c = false := by simp [fnN, *]
            rw [e]
            have g1 : ((b : Int) == 49) = false := by simp only [beq_eq_false_iff_ne, ne_eq]; omega
            have g2 : ((b : Int) == 50) = false := by simp only [beq_eq_false_iff_ne, ne_eq]; omega
            have g3 : ((b : Int) == 52) = false := by simp only [beq_eq_false_iff_ne, ne_eq]; omega
            have g4 : ((b : Int) == 53) = false := by simp only [beq_eq_false_iff_ne, ne_eq]; omega
            have g5 : ((b : Int) == 56) = false := by simp only [beq_eq_false_iff_ne, ne_eq]; omega
            go_enter Tryd.func50, Tryd.ntmps50
            go_wp2
            go_ret
            exact ⟨rfl, rfl⟩
set_option maxRecDepth 100000 in
set_option maxHeartbeats 800000 in
theorem rightOrigin_any (c d : Nat) (w : World) : Calls Tryd.prog 51 #[.int .u8 (c : Int), .int .u8 (d : Int)] w fun e w' => e = .returned (.bool (orN c d)) ∧ w' = w := by
  by_cases h0 : d = 48
  · subst h0
    have e : orN c 48 = true := by simp [orN]
    rw [e]
    obtain ⟨A, HA⟩ : ∃ A, Hid (askN c = A) := ⟨_, rfl⟩
    go_enter Tryd.func51, Tryd.ntmps51
    go_wp2_with (go_at_call 40; refine (isAsking_any c _).mono ?_; rintro e x ⟨rfl, hx⟩; rw [hx]; clear hx x; rw [HA.out])
    go_ret
    exact ⟨rfl, rfl⟩
  · have g0 : ((d : Int) == 48) = false := by simp only [beq_eq_false_iff_ne, ne_eq]; omega
    by_cases h1 : d = 49
    · subst h1
      have e : orN c 49 = askN c := by simp [orN]
      rw [e]
      cases hA : askN c with
      | false =>
        have HA : Hid (askN c = false) := hA
        clear hA e
        go_enter Tryd.func51, Tryd.ntmps51
        go_wp2_with (go_at_call 40; refine (isAsking_any c _).mono ?_; rintro e x ⟨rfl, hx⟩; rw [hx]; clear hx x; rw [HA.out])
        go_ret
        exact ⟨rfl, rfl⟩
      | true =>
        have HA : Hid (askN c = true) := hA
        clear hA e
        go_enter Tryd.func51, Tryd.ntmps51
        go_wp2_with (go_at_call 40; refine (isAsking_any c _).mono ?_; rintro e x ⟨rfl, hx⟩; rw [hx]; clear hx x; rw [HA.out])
        go_ret
        exact ⟨rfl, rfl⟩
    · have g1 : ((d : Int) == 49) = false := by simp only [beq_eq_false_iff_ne, ne_eq]; omega
      have e : orN c d = false := by simp [orN, h0, h1]
      rw [e]
      obtain ⟨A, HA⟩ : ∃ A, Hid (askN c = A) := ⟨_, rfl⟩
      go_enter Tryd.func51, Tryd.ntmps51
      go_wp2_with (go_at_call 40; refine (isAsking_any c _).mono ?_; rintro e x ⟨rfl, hx⟩; rw [hx]; clear hx x; rw [HA.out])
      go_ret
      exact ⟨rfl, rfl⟩
end Go.Proofs.YteaanenhefbkjaaDoor.Hp
