/- Cards: which texts are digits, their sums: the program's and the document's. -/
import Derived.Test.YtbekjlinnbmpgaaKp
namespace Go.Proofs.Ytbekjlinnbmpgaa.Kd
open Go.RowKit Lib0 Kp
theorem ret_bool {a b : Bool} (h : a = b) : Ending.returned (.bool a) = .returned (.bool b) := by rw [h]
theorem isDigit_any (c : UInt8) (w : World) :
    Calls Try.prog 35 #[.int .u8 (c.toNat : Int)] w fun e w' => e = .returned (.bool (dig c)) ∧ w' = w := by
  by_cases h1 : (48 : Int) ≤ c.toNat <;> by_cases h2 : (c.toNat : Int) ≤ 57
  all_goals
    go_enter Try.func35, Try.ntmps35
    go_wp2
    go_ret
    exact ⟨ret_bool (by rw [eq_comm]; first | (rw [dig_iff]; omega) | (rw [Bool.eq_false_iff, Ne, dig_iff]; omega)), rfl⟩
theorem digit_any (c : UInt8) (w : World) :
    Calls Try.prog 37 #[.int .u8 (c.toNat : Int)] w fun e w' => e = .returned (.bool (dig c)) ∧ w' = w := by
  by_cases h1 : (48 : Int) ≤ c.toNat <;> by_cases h2 : (c.toNat : Int) ≤ 57
  all_goals
    go_enter Try.func37, Try.ntmps37
    go_wp2
    go_ret
    exact ⟨ret_bool (by rw [eq_comm]; first | (rw [dig_iff]; omega) | (rw [Bool.eq_false_iff, Ne, dig_iff]; omega)), rfl⟩
theorem all_no (p : UInt8 → Bool) (s : ByteArray) (k : Nat) (h : k < s.size) (hp : p s[k] = false) : s.data.toList.all p = false := by
  rw [List.all_eq_false]
  exact ⟨s[k], List.getElem_mem (show k < s.data.toList.length from h), by simp [hp]⟩
set_option maxRecDepth 100000 in
theorem allDigits_any (s : ByteArray) (w : World) (hs : s.size ≤ 4194304) :
    Calls Try.prog 29 #[.string s] w fun e w' => e = .returned (.bool (ad s)) ∧ w' = w := by
  go_enter Try.func29, Try.ntmps29
  go_wp2
  go_loop [6] (fun i => ∃ k : Nat, k ≤ s.size ∧ i = .int .i64 k ∧ (s.data.toList.take k).all dig = true) (fun i => s.size - (intOf i).toNat)
  case atStart => exact ⟨0, Nat.zero_le _, rfl, rfl⟩
  case round =>
    obtain ⟨k, hk, rfl, hal⟩ := hrel
    have Hal : Hid ((s.data.toList.take k).all dig = true) := hal
    clear hal
    by_cases hlt : k < s.size
    · go_wp2_with fail
      refine (isDigit_any s[k] _).mono ?_
      rintro e w' ⟨rfl, rfl⟩
      cases hp : dig s[k]
      · go_wp2
        go_ret
        exact ⟨ret_bool (show false = s.data.toList.all dig from (all_no dig s k hlt hp).symm), rfl⟩
      · go_wp2
        go_round
        case rel => exact ⟨k + 1, by omega, by go_num, all_snoc dig s k hlt Hal.out hp⟩
        case measure => simp [intOf]; omega
    · go_wp2
      go_ret
      exact ⟨ret_bool (by have := Hal.out; rw [take_all s k (by omega)] at this; exact this.symm), rfl⟩
theorem twice_any (d : Nat) (w : World) (h : d ≤ 9) :
    Calls Try.prog 36 #[.int .i64 (d : Int)] w fun e w' => e = .returned (.int .i64 (tw d : Nat)) ∧ w' = w := by
  by_cases h1 : (d : Int) < 5
  all_goals
    go_enter Try.func36, Try.ntmps36
    go_wp2
    go_ret
    exact ⟨ret_int (by unfold tw; split <;> omega), rfl⟩
theorem dig_at (s : ByteArray) (h : ad s = true) (k : Nat) (hk : k < s.size) : dig s[k] = true := by
  unfold ad at h
  rw [List.all_eq_true] at h
  exact h _ (List.getElem_mem (show k < s.data.toList.length from hk))
theorem wt_i {n : Nat} {c : UInt8} : ((wt n c : Nat) : Int) = if n % 2 = 1 then ((tw (c.toNat - 48) : Nat) : Int) else ((c.toNat - 48 : Nat) : Int) := by unfold wt; split <;> rfl
set_option maxRecDepth 100000 in
theorem sum_any (s : ByteArray) (w : World) (hs : s.size ≤ 4194304) (ha : ad s = true) :
    Calls Try.prog 30 #[.string s] w fun e w' => e = .returned (.int .i64 ((sm s.data.toList % 10 : Nat) : Int)) ∧ w' = w := by
  have Ha : Hid (ad s = true) := ha
  clear ha
  go_enter Try.func30, Try.ntmps30
  go_wp2
  go_loop [3, 8] (fun n i => ∃ k v : Nat, k ≤ s.size ∧ i = .int .i64 k ∧ n = .int .i64 v ∧ v < 10 ∧ Hid ((v + sm (s.data.toList.drop k)) % 10 = sm s.data.toList % 10)) (fun _ i => s.size - (intOf i).toNat)
  case atStart => exact ⟨0, 0, Nat.zero_le _, rfl, rfl, by omega, by show _ = _; simp⟩
  case round =>
    obtain ⟨k, v, hk, rfl, rfl, hv, Hv⟩ := hrel
    by_cases hlt : k < s.size
    · have hd := (dig_iff _).1 (dig_at s Ha.out k hlt)
      obtain ⟨d, Hd, hd9⟩ : ∃ d : Nat, Hid (s[k].toNat = 48 + d) ∧ d ≤ 9 := ⟨s[k].toNat - 48, by show _ = _; omega, by omega⟩
      have e48 : (s[k].toNat : Int) = 48 + (d : Int) := by have := Hd.out; omega
      have HS : Hid (sm (s.data.toList.drop k) = (if (s.size - k - 1) % 2 = 1 then tw d else d) + sm (s.data.toList.drop (k + 1))) := by
        show _ = _
        rw [sm_drop s k hlt]; unfold wt; rw [Hd.out, show 48 + d - 48 = d by omega]
      clear hd
      by_cases hp : ((s.size : Int) - k) % 2 = 0
      · have ht := tw_le d hd9
        have e0 : (48 + (d : Int) - 48) = d := by omega
        go_wp2_with fail
        refine (twice_any d _ hd9).mono ?_
        rintro e w' ⟨rfl, rfl⟩
        have HS2 : Hid (sm (s.data.toList.drop k) = tw d + sm (s.data.toList.drop (k + 1))) := by show _ = _; rw [HS.out, if_pos (by omega)]
        clear HS
        generalize tw d = t at *
        go_wp2
        go_round
        case rel => exact ⟨k + 1, (v + t) % 10, by omega, by go_num, by go_num, Nat.mod_lt _ (by omega), by show _ = _; rw [← Hv.out, HS2.out]; omega⟩
        case measure => simp [intOf]; omega
      · have HS2 : Hid (sm (s.data.toList.drop k) = d + sm (s.data.toList.drop (k + 1))) := by show _ = _; rw [HS.out, if_neg (by omega)]
        clear HS
        go_wp2
        go_round
        case rel => exact ⟨k + 1, (v + d) % 10, by omega, by go_num, by go_num, Nat.mod_lt _ (by omega), by show _ = _; rw [← Hv.out, HS2.out]; omega⟩
        case measure => simp [intOf]; omega
    · have HE : Hid (v = sm s.data.toList % 10) := by have := Hv.out; rw [sm_end s k (by omega)] at this; show _ = _; omega
      go_wp2
      go_ret
      exact ⟨ret_int (by rw [HE.out]; omega), rfl⟩
end Go.Proofs.Ytbekjlinnbmpgaa.Kd
