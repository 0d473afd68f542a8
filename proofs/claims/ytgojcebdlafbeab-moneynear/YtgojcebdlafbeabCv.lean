/- Convert and what it calls: the program's. -/
import Derived.Test.YtgojcebdlafbeabKb
import Derived.Test.YtgojcebdlafbeabCp
import Derived.Test.YtgojcebdlafbeabPc
import Derived.Test.YtgojcebdlafbeabMp
namespace Go.Proofs.Ytgojcebdlafbeab.Cv
set_option linter.unusedVariables false
open Go.RowKit Kb Cp Pp Pc Mp
theorem wrap_u64 (n : Int) (h0 : 0 ≤ n) (h1 : n < 18446744073709551616) : IntKind.u64.wrap n = n := by simp [IntKind.wrap, IntKind.signed, IntKind.bits]; omega
theorem ret_bool {a b : Bool} (h : a = b) : Ending.returned (.bool a) = .returned (.bool b) := by rw [h]
theorem ret_int {k : IntKind} {a b : Int} (h : a = b) : Ending.returned (.int k a) = .returned (.int k b) := by rw [h]
theorem all_no (p : UInt8 → Bool) (s : ByteArray) (k : Nat) (h : k < s.size) (hp : p s[k] = false) : s.data.toList.all p = false := by
  rw [List.all_eq_false]
  exact ⟨s[k], List.getElem_mem (show k < s.data.toList.length from h), by simp [hp]⟩
set_option maxRecDepth 100000 in
set_option maxHeartbeats 400000 in
theorem tenTo_any (p : Nat) (hp : p ≤ 19) (w : World) : Calls Try.prog 24 #[.int .i64 (p : Int)] w fun e w' => e = .returned (.int .u64 (p10 p : Int)) ∧ w' = w := by
  have p1 : (p : Int) ≤ 19 := by omega
  go_enter Try.func24, Try.ntmps24
  go_wp2_with fail
  go_loop [3, 5] (fun n i => ∃ k N : Nat, k ≤ p ∧ i = .int .i64 (k : Int) ∧ n = .int .u64 (N : Int) ∧ Hid (N = p10 k)) (fun _ i => p - (intOf i).toNat)
  case atStart => exact ⟨0, 1, Nat.zero_le _, rfl, rfl, rfl⟩
  case round =>
    obtain ⟨k, N, hk, rfl, rfl, HN⟩ := hrel
    by_cases hlt : k < p
    · have q : (k : Int) < (p : Int) := by omega
      have b1 := p10_le (p := k + 1) (by omega)
      rw [p10_succ, ← HN.out] at b1
      have b2 : (N : Int) * 10 < 18446744073709551616 := by omega
      have b0 : (0 : Int) ≤ (N : Int) * 10 := by omega
      have HN2 : Hid (N * 10 = p10 (k + 1)) := by show _ = _; rw [p10_succ, HN.out]
      clear b1
      go_wp2
      go_round
      case rel => exact ⟨k + 1, N * 10, by omega, by go_num, by go_num, HN2⟩
      case measure => simp [intOf]; omega
    · have q : ¬ (k : Int) < (p : Int) := by omega
      obtain rfl : k = p := by omega
      go_wp2
      go_ret
      exact ⟨ret_int (by rw [HN.out]), rfl⟩
set_option maxRecDepth 100000 in
set_option maxHeartbeats 400000 in
theorem allDigits_any (s : ByteArray) (hs : (s.size : Int) ≤ 9223372036854775000) (w : World) : Calls Try.prog 21 #[.string s] w fun e w' => e = .returned (.bool (ad s.data.toList)) ∧ w' = w := by
  go_enter Try.func21, Try.ntmps21
  go_wp2_with fail
  go_loop [6] (fun i => ∃ k : Nat, k ≤ s.size ∧ i = .int .i64 k ∧ Hid ((s.data.toList.take k).all dg = true)) (fun i => s.size - (intOf i).toNat)
  case atStart => exact ⟨0, Nat.zero_le _, rfl, rfl⟩
  case round =>
    obtain ⟨k, hk, rfl, Hal⟩ := hrel
    by_cases hlt : k < s.size
    · have q : (k : Int) < (s.size : Int) := by omega
      by_cases h1 : (48 : Int) ≤ (s[k].toNat : Int) <;> by_cases h2 : (s[k].toNat : Int) ≤ 57
      · have HA : Hid ((s.data.toList.take (k + 1)).all dg = true) := Lib0.all_snoc dg s k hlt Hal.out ((dg_iff _).2 (by omega))
        go_wp2
        go_round
        case rel => exact ⟨k + 1, by omega, by go_num, HA⟩
        case measure => simp [intOf]; omega
      all_goals
        have HF : Hid (ad s.data.toList = false) := all_no dg s k hlt (by rw [Bool.eq_false_iff, Ne, dg_iff]; omega)
        go_wp2
        go_ret
        exact ⟨ret_bool HF.out.symm, rfl⟩
    · have q : ¬ (k : Int) < (s.size : Int) := by omega
      go_wp2
      go_ret
      exact ⟨ret_bool (by have := Hal.out; rw [Lib0.take_all s k (by omega)] at this; exact this.symm), rfl⟩
set_option maxRecDepth 100000 in
set_option maxHeartbeats 400000 in
theorem number_any (s : ByteArray) (hs : s.size ≤ 18) (hd : ad s.data.toList = true) (w : World) : Calls Try.prog 22 #[.string s] w fun e w' => e = .returned (.int .u64 (num s.data.toList : Int)) ∧ w' = w := by
  have HD : Hid (s.data.toList.all dg = true) := hd
  have s1 : (s.size : Int) ≤ 18 := by omega
  clear hd
  go_enter Try.func22, Try.ntmps22
  go_wp2_with fail
  go_loop [3, 7] (fun n i => ∃ k N : Nat, k ≤ s.size ∧ i = .int .i64 (k : Int) ∧ n = .int .u64 (N : Int) ∧ Hid (N = num (s.data.toList.take k))) (fun _ i => s.size - (intOf i).toNat)
  case atStart => exact ⟨0, 0, Nat.zero_le _, rfl, rfl, rfl⟩
  case round =>
    obtain ⟨k, N, hk, rfl, rfl, HN⟩ := hrel
    by_cases hlt : k < s.size
    · have q : (k : Int) < (s.size : Int) := by omega
      have hd := (dg_iff _).1 (List.all_eq_true.1 HD.out s[k] (List.getElem_mem (show k < s.data.toList.length from hlt)))
      have h1 : (48 : Int) ≤ (s[k].toNat : Int) := by omega
      have h2 : (s[k].toNat : Int) ≤ 57 := by omega
      have hl : num (s.data.toList.take k) < 10 ^ (s.data.toList.take k).length := num_lt _ (List.all_eq_true.2 fun x hx => List.all_eq_true.1 HD.out x (List.mem_of_mem_take hx))
      rw [← HN.out, List.length_take] at hl
      have hl2 : (10 : Nat) ^ (min k s.data.toList.length) ≤ 10 ^ 17 := Nat.pow_le_pow_right (by decide) (by omega)
      have b2 : (N : Int) * 10 < 1000000000000000000 := by omega
      have b0 : (0 : Int) ≤ (N : Int) * 10 := by omega
      have HN2 : Hid (N * 10 + (s[k].toNat - 48) = num (s.data.toList.take (k + 1))) := by
        show _ = _
        rw [Lib0.take_snoc s k hlt, num_snoc, ← HN.out]
      clear hl hl2 hd
      go_wp2
      go_round
      case rel => exact ⟨k + 1, N * 10 + (s[k].toNat - 48), by omega, by go_num, by go_num, HN2⟩
      case measure => simp [intOf]; omega
    · have q : ¬ (k : Int) < (s.size : Int) := by omega
      go_wp2
      go_ret
      exact ⟨ret_int (by have := HN.out; rw [Lib0.take_all s k (by omega)] at this; rw [this]), rfl⟩
end Go.Proofs.Ytgojcebdlafbeab.Cv
