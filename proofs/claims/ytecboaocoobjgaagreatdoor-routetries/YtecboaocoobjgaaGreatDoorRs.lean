/- Small questions: digits, numbers, places. -/
import Derived.Test.YtecboaocoobjgaaGreatDoorRw
import Derived.BigQuiet
namespace Go.Proofs.YtecboaocoobjgaaGreatDoor.Rs
set_option linter.unusedVariables false
set_option linter.unusedSimpArgs false
open Go.RowKit Lib0 Kb Rp Rw
theorem isDigit_any (c : UInt8) (w : World) : Calls Tryz.prog 37 #[.int .u8 (c.toNat : Int)] w fun e w' => e = .returned (.bool (isD c)) ∧ w' = w := by
  have hc := toNat_lt c
  by_cases h1 : 48 ≤ (c.toNat : Int)
  · by_cases h2 : (c.toNat : Int) ≤ 57
    · have e : isD c = true := by rw [isD_iff]; omega
      rw [e]; clear e
      go_enter Tryz.func37, Tryz.ntmps37
      go_wp2
      go_ret
      exact ⟨rfl, rfl⟩
    · have e : isD c = false := by simp [isD]; omega
      rw [e]; clear e
      go_enter Tryz.func37, Tryz.ntmps37
      go_wp2
      go_ret
      exact ⟨rfl, rfl⟩
  · have e : isD c = false := by simp [isD]; omega
    rw [e]; clear e
    go_enter Tryz.func37, Tryz.ntmps37
    go_wp2
    go_ret
    exact ⟨rfl, rfl⟩
def inN (n a b : Int) : Bool := decide (a ≤ n) && decide (n ≤ b)
theorem within_any (n a b : Int) (w : World) : Calls Tryz.prog 38 #[.int .i64 n, .int .i64 a, .int .i64 b] w fun e w' => e = .returned (.bool (inN n a b)) ∧ w' = w := by
  by_cases h1 : a ≤ n
  · by_cases h2 : n ≤ b
    · have e : inN n a b = true := by simp [inN]; omega
      rw [e]; clear e
      go_enter Tryz.func38, Tryz.ntmps38
      go_wp2
      go_ret
      exact ⟨rfl, rfl⟩
    · have e : inN n a b = false := by simp [inN]; omega
      rw [e]; clear e
      go_enter Tryz.func38, Tryz.ntmps38
      go_wp2
      go_ret
      exact ⟨rfl, rfl⟩
  · have e : inN n a b = false := by simp [inN]; omega
    rw [e]; clear e
    go_enter Tryz.func38, Tryz.ntmps38
    go_wp2
    go_ret
    exact ⟨rfl, rfl⟩
theorem isPlace_any (n m : Int) (w : World) : Calls Tryz.prog 26 #[.int .i64 n, .int .i64 m] w fun e w' => e = .returned (.bool (decide (0 ≤ n) && decide (n < m))) ∧ w' = w := by
  by_cases h1 : 0 ≤ n
  · by_cases h2 : n < m
    · have e : (decide (0 ≤ n) && decide (n < m)) = true := by simp; omega
      rw [e]; clear e
      go_enter Tryz.func26, Tryz.ntmps26
      go_wp2
      go_ret
      exact ⟨rfl, rfl⟩
    · have e : (decide (0 ≤ n) && decide (n < m)) = false := by simp; omega
      rw [e]; clear e
      go_enter Tryz.func26, Tryz.ntmps26
      go_wp2
      go_ret
      exact ⟨rfl, rfl⟩
  · have e : (decide (0 ≤ n) && decide (n < m)) = false := by simp; omega
    rw [e]; clear e
    go_enter Tryz.func26, Tryz.ntmps26
    go_wp2
    go_ret
    exact ⟨rfl, rfl⟩
/-- digits, at least one and at most so many -/
def num (s : ByteArray) (m : Int) : Bool := s.data.toList.all isD && inN (s.size : Int) 1 m
theorem str_all (s : ByteArray) (p : UInt8 → Bool) (k : Nat) (hk : k < s.size) (h : p (s[k]'hk) = false) : s.data.toList.all p = false := by
  rw [List.all_eq_false]
  refine ⟨s[k]'hk, ?_, by rw [h]; decide⟩
  exact Array.mem_toList_iff.2 (Array.getElem_mem (xs := s.data) hk)
theorem str_every (s : ByteArray) (p : UInt8 → Bool) (h : ∀ j (h : j < s.size), p (s[j]'h) = true) : s.data.toList.all p = true := by
  rw [List.all_eq_true]
  intro c hcm
  obtain ⟨j, hj, rfl⟩ := Array.mem_iff_getElem.1 (Array.mem_toList_iff.1 hcm)
  exact h j hj
set_option maxRecDepth 100000 in
theorem isNumber_any (s : ByteArray) (m : Int) (w : World) (hs : s.size ≤ maxLen) : Calls Tryz.prog 22 #[.string s, .int .i64 m] w fun e w' => e = .returned (.bool (num s m)) ∧ w' = w := by
  have pd := fun c w => isDigit_any c w
  have pw := fun n a b w => within_any n a b w
  have hN : (s.size : Int) ≤ 9223372036854775807 := by have := hs; simp only [maxLen] at this; omega
  obtain ⟨R, HR⟩ : ∃ R, Hid (num s m = R) := ⟨_, rfl⟩
  rw [HR.out]
  clear hs
  go_enter Tryz.func22, Tryz.ntmps22
  go_wp2_with fail
  go_loopw [8] (fun iv wr => ∃ k : Nat, iv = .int .i64 (k : Int) ∧ k ≤ s.size ∧ (∀ j (h : j < s.size), j < k → isD (s[j]'h) = true) ∧ wr = w) (fun iv _ => s.size + 1 - (intOf iv).toNat)
  case atStart => exact ⟨0, rfl, Nat.zero_le _, fun j h hj => absurd hj (Nat.not_lt_zero _), rfl⟩
  case round =>
    obtain ⟨k, rfl, hk, hall, rfl⟩ := hrel
    have HA : Hid (∀ j (h : j < s.size), j < k → isD (s[j]'h) = true) := hall
    clear hall
    by_cases hc : k < s.size
    · have q0 : (k : Int) < (s.size : Int) := by omega
      have q1 : (0 : Int) ≤ (k : Int) := by omega
      have q2 : (k : Int) + 1 ≤ 9223372036854775807 := by omega
      have HC : Hid (k < s.size) := hc
      have a1 := pd (s[k]'hc)
      clear hk
      cases hd : isD (s[k]'hc) with
      | true =>
        have HX : Hid (∀ j (h : j < s.size), j < k + 1 → isD (s[j]'h) = true) := by
          intro j h hj
          by_cases hjk : j < k
          · exact HA.out j h hjk
          · have : j = k := by omega
            subst this
            exact hd
        rw [hd] at a1
        clear hd
        go_wp2_with fail
        refine (a1 _).mono ?_
        rintro e y ⟨rfl, hy⟩
        rw [hy]
        clear hy y
        go_wp2_with fail
        refine ⟨⟨k + 1, by simp, HC.out, HX.out, trivial⟩, ?_⟩
        simp only [intOf]
        have := HC.out
        omega
      | false =>
        have HX : Hid (R = false) := by show _ = _; rw [← HR.out, num, str_all s isD k hc hd]; rfl
        rw [hd] at a1
        clear hd
        go_wp2_with fail
        refine (a1 _).mono ?_
        rintro e y ⟨rfl, hy⟩
        rw [hy]
        clear hy y
        go_wp2_with fail
        go_ret
        exact ⟨by rw [HX.out]; rfl, rfl⟩
    · have q0 : ¬ (k : Int) < (s.size : Int) := by omega
      have HX : Hid (R = inN (s.size : Int) 1 m) := by show _ = _; rw [← HR.out, num, str_every s isD (fun j h => HA.out j h (by omega))]; rfl
      go_wp2_with fail
      refine (pw _ _ _ _).mono ?_
      rintro e y ⟨rfl, hy⟩
      rw [hy]
      clear hy y
      go_wp2_with fail
      go_ret
      exact ⟨by rw [HX.out]; rfl, rfl⟩
end Go.Proofs.YtecboaocoobjgaaGreatDoor.Rs
