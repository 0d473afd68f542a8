/- PINs: the small functions of the program. -/
import Derived.Test.YtciblmdpngnakabPp
import Derived.Test.YtciblmdpngnakabCb
namespace Go.Proofs.Ytciblmdpngnakab.Pf
set_option linter.unusedVariables false
open Go.RowKit Lib0 Six Pp
theorem ret_bool {a b : Bool} (h : a = b) : Ending.returned (.bool a) = .returned (.bool b) := by rw [h]
theorem worth_any (c : UInt8) (w : World) :
    Calls Try.prog 31 #[.int .u8 (c.toNat : Int)] w fun e w' => e = .returned (.int .i64 (six c)) ∧ w' = w := by
  go_enter Try.func31, Try.ntmps31
  go_wp2_with fail
  refine (ib2 _ _ _).mono ?_
  rintro e w' ⟨rfl, rfl⟩
  rw [back, show Lib.indexByte (ByteArray.mk #[48, 49, 50, 51, 52, 53, 54, 55, 56, 57, 65, 66, 67, 68, 69, 70]).data.toList c = six c from rfl]
  go_wp2
  go_ret
  exact ⟨rfl, rfl⟩
theorem ext16 : ∀ n : Fin 16, (ByteArray.mk #[48, 49, 50, 51, 52, 53, 54, 55, 56, 57, 65, 66, 67, 68, 69, 70]).extract n.val (n.val + 1) = ⟨#[hx n.val]⟩ := by decide +kernel
theorem sixteenth_any (n : Nat) (h : n < 16) (w : World) :
    Calls Try.prog 23 #[.int .i64 (n : Int)] w fun e w' => e = .returned (.string ⟨#[hx n]⟩) ∧ w' = w := by
  have h1 : (n : Int) + 1 ≤ 16 := by omega
  have h0 : (0 : Int) ≤ (n : Int) := by omega
  have h2 : (n : Int) ≤ (n : Int) + 1 := by omega
  have ht : ((n : Int) + 1).toNat = n + 1 := by omega
  have E := ext16 ⟨n, h⟩
  simp only at E
  go_enter Try.func23, Try.ntmps23
  go_wp2
  go_ret
  exact ⟨by simp, rfl⟩
theorem all_no (p : UInt8 → Bool) (s : ByteArray) (k : Nat) (h : k < s.size) (hp : p s[k] = false) : s.data.toList.all p = false := by
  rw [List.all_eq_false]
  exact ⟨s[k], List.getElem_mem (show k < s.data.toList.length from h), by simp [hp]⟩
set_option maxRecDepth 100000 in
theorem allDigits_any (s : ByteArray) (w : World) (hs : s.size ≤ maxLen) :
    Calls Try.prog 30 #[.string s] w fun e w' => e = .returned (.bool (adg s)) ∧ w' = w := by
  unfold maxLen at hs
  go_enter Try.func30, Try.ntmps30
  go_wp2
  go_loop [6] (fun i => ∃ k : Nat, k ≤ s.size ∧ i = .int .i64 k ∧ (s.data.toList.take k).all dg = true) (fun i => s.size - (intOf i).toNat)
  case atStart => exact ⟨0, Nat.zero_le _, rfl, rfl⟩
  case round =>
    obtain ⟨k, hk, rfl, hal⟩ := hrel
    have Hal : Hid ((s.data.toList.take k).all dg = true) := hal
    clear hal
    by_cases hlt : k < s.size
    · by_cases h1 : ((s[k].toNat : Nat) : Int) < 48
      · have hp : dg s[k] = false := by rw [Bool.eq_false_iff, Ne, dg_iff]; omega
        go_wp2
        go_ret
        exact ⟨ret_bool (show false = s.data.toList.all dg from (all_no dg s k hlt hp).symm), rfl⟩
      · by_cases h2 : (57 : Int) < ((s[k].toNat : Nat) : Int)
        · have hp : dg s[k] = false := by rw [Bool.eq_false_iff, Ne, dg_iff]; omega
          go_wp2
          go_ret
          exact ⟨ret_bool (show false = s.data.toList.all dg from (all_no dg s k hlt hp).symm), rfl⟩
        · have hp : dg s[k] = true := by rw [dg_iff]; omega
          have h1' : (48 : Int) ≤ ((s[k].toNat : Nat) : Int) := by omega
          have h2' : ((s[k].toNat : Nat) : Int) ≤ 57 := by omega
          go_wp2
          go_round
          case rel => exact ⟨k + 1, by omega, by go_num, all_snoc dg s k hlt Hal.out hp⟩
          case measure => simp [intOf]; omega
    · go_wp2
      go_ret
      exact ⟨ret_bool (by have := Hal.out; rw [take_all s k (by omega)] at this; exact this.symm), rfl⟩
set_option maxRecDepth 100000 in
theorem allSix_any (s : ByteArray) (w : World) (hs : s.size ≤ maxLen) :
    Calls Try.prog 34 #[.string s] w fun e w' => e = .returned (.bool (asx s)) ∧ w' = w := by
  unfold maxLen at hs
  go_enter Try.func34, Try.ntmps34
  go_wp2
  go_loop [6] (fun i => ∃ k : Nat, k ≤ s.size ∧ i = .int .i64 k ∧ (s.data.toList.take k).all isSix = true) (fun i => s.size - (intOf i).toNat)
  case atStart => exact ⟨0, Nat.zero_le _, rfl, rfl⟩
  case round =>
    obtain ⟨k, hk, rfl, hal⟩ := hrel
    have Hal : Hid ((s.data.toList.take k).all isSix = true) := hal
    clear hal
    by_cases hlt : k < s.size
    · have hb := six_bd s[k]
      go_wp2_with fail
      refine (worth_any s[k] _).mono ?_
      rintro e w' ⟨rfl, rfl⟩
      by_cases h1 : six s[k] < 0
      · have hp : isSix s[k] = false := by unfold isSix; rw [decide_eq_false_iff_not]; omega
        go_wp2
        go_ret
        exact ⟨ret_bool (show false = s.data.toList.all isSix from (all_no isSix s k hlt hp).symm), rfl⟩
      · have hp : isSix s[k] = true := by unfold isSix; rw [decide_eq_true_eq]; omega
        have h1' : (0 : Int) ≤ six s[k] := by omega
        go_wp2
        go_round
        case rel => exact ⟨k + 1, by omega, by go_num, all_snoc isSix s k hlt Hal.out hp⟩
        case measure => simp [intOf]; omega
    · go_wp2
      go_ret
      exact ⟨ret_bool (by have := Hal.out; rw [take_all s k (by omega)] at this; exact this.symm), rfl⟩
theorem isPIN_any (s : ByteArray) (w : World) (hs : s.size ≤ maxLen) :
    Calls Try.prog 20 #[.string s] w fun e w' => e = .returned (.bool (pinB s)) ∧ w' = w := by
  have AD := fun y => allDigits_any s y hs
  unfold maxLen at hs
  by_cases h1 : (4 : Int) ≤ s.size
  · by_cases h2 : (s.size : Int) ≤ 12
    · have e : pinB s = adg s := by unfold pinB; simp only [show decide (4 ≤ s.size) = true by simp; omega, show decide (s.size ≤ 12) = true by simp; omega, Bool.true_and]
      rw [e]
      go_enter Try.func20, Try.ntmps20
      go_wp2_with fail
      refine (AD _).mono ?_
      rintro e w' ⟨rfl, rfl⟩
      go_wp2
      go_ret
      exact ⟨rfl, rfl⟩
    · have e : pinB s = false := by unfold pinB; simp only [show decide (s.size ≤ 12) = false by simp; omega, Bool.and_false, Bool.false_and]
      rw [e]
      go_enter Try.func20, Try.ntmps20
      go_wp2
      go_ret
      exact ⟨rfl, rfl⟩
  · have e : pinB s = false := by unfold pinB; simp only [show decide (4 ≤ s.size) = false by simp; omega, Bool.false_and]
    rw [e]
    go_enter Try.func20, Try.ntmps20
    go_wp2
    go_ret
    exact ⟨rfl, rfl⟩
theorem isPAN_any (s : ByteArray) (w : World) (hs : s.size ≤ maxLen) :
    Calls Try.prog 16 #[.string s] w fun e w' => e = .returned (.bool (panB s)) ∧ w' = w := by
  have AD := fun y => allDigits_any s y hs
  unfold maxLen at hs
  by_cases h1 : (13 : Int) ≤ s.size
  · by_cases h2 : (s.size : Int) ≤ 19
    · have e : panB s = adg s := by unfold panB; simp only [show decide (13 ≤ s.size) = true by simp; omega, show decide (s.size ≤ 19) = true by simp; omega, Bool.true_and]
      rw [e]
      go_enter Try.func16, Try.ntmps16
      go_wp2_with fail
      refine (AD _).mono ?_
      rintro e w' ⟨rfl, rfl⟩
      go_wp2
      go_ret
      exact ⟨rfl, rfl⟩
    · have e : panB s = false := by unfold panB; simp only [show decide (s.size ≤ 19) = false by simp; omega, Bool.and_false, Bool.false_and]
      rw [e]
      go_enter Try.func16, Try.ntmps16
      go_wp2
      go_ret
      exact ⟨rfl, rfl⟩
  · have e : panB s = false := by unfold panB; simp only [show decide (13 ≤ s.size) = false by simp; omega, Bool.false_and]
    rw [e]
    go_enter Try.func16, Try.ntmps16
    go_wp2
    go_ret
    exact ⟨rfl, rfl⟩
theorem sub1 (a : Nat) (h : 1 ≤ a) : ((a : Int) - 1).toNat = a - 1 := by omega
theorem left_any (s : ByteArray) (n : Nat) (w : World) (h0 : 13 ≤ s.size) (h1 : s.size ≤ 19) (hn : n ≤ 12) :
    Calls Try.prog 28 #[.string s, .int .i64 (n : Int)] w fun e w' => e = .returned (.string (s.extract (s.size - 1 - n) (s.size - 1))) ∧ w' = w := by
  have i1 : (13 : Int) ≤ (s.size : Int) := by omega
  have i2 : (s.size : Int) ≤ 19 := by omega
  have i3 : (n : Int) ≤ 12 := by omega
  have i4 : (0 : Int) ≤ (s.size : Int) - 1 - (n : Int) := by omega
  have i5 : (s.size : Int) - 1 - (n : Int) ≤ (s.size : Int) - 1 := by omega
  have t1 : ((s.size : Int) - 1 - (n : Int)).toNat = s.size - 1 - n := by omega
  have t2 : ((s.size : Int) - 1).toNat = s.size - 1 := by omega
  go_enter Try.func28, Try.ntmps28
  go_wp2
  go_ret
  exact ⟨by simp, rfl⟩
end Go.Proofs.Ytciblmdpngnakab.Pf
