/- Digits of texts: the program's. -/
import Derived.Test.YtpocbaaogkabeaaDoorDz
namespace Go.Proofs.YtpocbaaogkabeaaDoor.Sg
set_option linter.unusedVariables false
set_option linter.unusedSimpArgs false
open Go.RowKit Lib0 Kb Ca Ld De Oe Hx
def dig (c : UInt8) : Bool := decide (48 ≤ c.toNat) && decide (c.toNat ≤ 57)
theorem dig_iff {c : UInt8} : dig c = true ↔ 48 ≤ c.toNat ∧ c.toNat ≤ 57 := by simp [dig]
/-- all are digits -/
def ad (s : ByteArray) : Bool := s.data.toList.all dig
/-- the number of two digits, from a place on -/
def tw (l : List UInt8) (k : Nat) : Int := 10 * (((l.getD k 0).toNat : Int) - 48) + (((l.getD (k + 1) 0).toNat : Int) - 48)
theorem all_no (p : UInt8 → Bool) (s : ByteArray) (k : Nat) (h : k < s.size) (hp : p s[k] = false) : s.data.toList.all p = false := by
  rw [List.all_eq_false]
  exact ⟨s[k], List.getElem_mem (show k < s.data.toList.length from h), by simp [hp]⟩
theorem ad_at {s : ByteArray} (h : ad s = true) (k : Nat) (hk : k < s.size) : 48 ≤ s[k].toNat ∧ s[k].toNat ≤ 57 :=
  dig_iff.1 (List.all_eq_true.1 h s[k] (List.getElem_mem (show k < s.data.toList.length from hk)))
theorem getD_at (s : ByteArray) (k : Nat) (h : k < s.size) : s.data.toList.getD k 0 = s[k] := by
  have h' : k < s.data.toList.length := h
  simp only [List.getD, List.getElem?_eq_getElem h', Option.getD_some]
  rfl
set_option maxRecDepth 100000 in
set_option maxHeartbeats 400000 in
theorem allDigits_any (s : ByteArray) (w : World) (hs : s.size ≤ 140737488351232) :
    Calls Tryd.prog 49 #[.string s] w fun e w' => e = .returned (.bool (ad s)) ∧ w' = w := by
  go_enter Tryd.func49, Tryd.ntmps49
  go_wp2
  go_loop [6] (fun i => ∃ k : Nat, k ≤ s.size ∧ i = .int .i64 k ∧ (s.data.toList.take k).all dig = true) (fun i => s.size - (intOf i).toNat)
  case atStart => exact ⟨0, Nat.zero_le _, rfl, rfl⟩
  case round =>
    obtain ⟨k, hk, rfl, hal⟩ := hrel
    have Hal : Hid ((s.data.toList.take k).all dig = true) := hal
    clear hal
    by_cases hlt : k < s.size
    · by_cases c1 : (s[k].toNat : Int) < 48
      · go_wp2
        all_goals (go_ret; exact ⟨ret_bool (show false = s.data.toList.all dig from (all_no dig s k hlt (by rw [Bool.eq_false_iff, Ne, dig_iff]; omega)).symm), rfl⟩)
      by_cases c2 : 57 < (s[k].toNat : Int)
      · go_wp2
        all_goals (go_ret; exact ⟨ret_bool (show false = s.data.toList.all dig from (all_no dig s k hlt (by rw [Bool.eq_false_iff, Ne, dig_iff]; omega)).symm), rfl⟩)
      · have hp : Hid (dig s[k] = true) := dig_iff.2 (by omega)
        go_wp2
        go_round
        case rel => exact ⟨k + 1, by omega, by go_num, all_snoc dig s k hlt Hal.out hp.out⟩
        case measure => simp [intOf]; omega
    · go_wp2
      go_ret
      exact ⟨ret_bool (by have := Hal.out; rw [take_all s k (by omega)] at this; exact this.symm), rfl⟩
set_option maxRecDepth 100000 in
set_option maxHeartbeats 400000 in
theorem pair_any (s : ByteArray) (w : World) (hs : s.size ≤ 140737488351232) (h2 : 2 ≤ s.size) (hd : ad s = true) :
    Calls Tryd.prog 50 #[.string s] w fun e w' => e = .returned (.int .i64 (tw s.data.toList 0)) ∧ ∃ m, w' = w.drewN m := by
  have a0 := ad_at hd 0 (by omega)
  have a1 := ad_at hd 1 (by omega)
  have e0 := getD_at s 0 (by omega)
  have e1 := getD_at s 1 (by omega)
  have et : tw s.data.toList 0 = (10 : Int) * (((s[0]'(by omega)).toNat : Int) - (48 : Int)) + (((s[1]'(by omega)).toNat : Int) - (48 : Int)) := by
    unfold tw; rw [e0, e1]
  rw [et]
  clear et e0 e1 hd
  obtain ⟨a, ha⟩ : ∃ a : Nat, s[0].toNat = a := ⟨_, rfl⟩
  obtain ⟨b, hb⟩ : ∃ a : Nat, s[1].toNat = a := ⟨_, rfl⟩
  rw [ha, hb]
  rw [ha] at a0
  rw [hb] at a1
  have q1 : (48 : Int) ≤ (a : Int) := by omega
  have q2 : (a : Int) ≤ 57 := by omega
  have q3 : (48 : Int) ≤ (b : Int) := by omega
  have q4 : (b : Int) ≤ 57 := by omega
  have q5 : (1 : Int) < (s.size : Int) := by omega
  have q6 : (0 : Int) < (s.size : Int) := by omega
  go_enter Tryd.func50, Tryd.ntmps50
  go_wp2
  go_quiet (fail)
  go_wp2
  all_goals (go_ret; exact ⟨Ld.ret_int (by omega), _, rfl⟩)
theorem ad_from {s : ByteArray} (h : ad s = true) (k : Nat) : ad (s.extract k s.size) = true := by
  unfold ad at h ⊢
  rw [List.all_eq_true] at h ⊢
  intro c hc
  apply h
  rw [ByteArray.data_extract, Array.toList_extract] at hc
  exact List.mem_of_mem_drop (List.mem_of_mem_take hc)
theorem tw_from (s : ByteArray) (k : Nat) (h : k + 2 ≤ s.size) : tw (s.extract k s.size).data.toList 0 = tw s.data.toList k := by
  have e : (s.extract k s.size).data.toList = s.data.toList.drop k := by
    rw [ByteArray.data_extract, Array.toList_extract]
    rw [List.extract_eq_take_drop]
    apply List.take_of_length_le
    have : s.data.toList.length = s.size := rfl
    simp [this]
  rw [e]
  unfold tw
  simp [List.getD, List.getElem?_drop]
theorem size_from (s : ByteArray) (k : Nat) : (s.extract k s.size).size = s.size - k := by simp
/-- two digits are below a hundred -/
theorem tw_bd {s : ByteArray} (h : ad s = true) (k : Nat) (hk : k + 2 ≤ s.size) : 0 ≤ tw s.data.toList k ∧ tw s.data.toList k ≤ 99 := by
  have a0 := ad_at h k (by omega)
  have a1 := ad_at h (k + 1) (by omega)
  unfold tw
  rw [getD_at s k (by omega), getD_at s (k + 1) (by omega)]
  omega
/-- pair, of what stands from a place on -/
theorem pair_from (s : ByteArray) (k : Nat) (w : World) (hs : s.size ≤ 140737488351232) (h2 : k + 2 ≤ s.size) (hd : ad s = true) :
    Calls Tryd.prog 50 #[.string (s.extract k s.size)] w fun e w' => e = .returned (.int .i64 (tw s.data.toList k)) ∧ ∃ m, w' = w.drewN m := by
  rw [← tw_from s k h2]
  exact pair_any _ w (by rw [size_from]; omega) (by rw [size_from]; omega) (ad_from hd k)
end Go.Proofs.YtpocbaaogkabeaaDoor.Sg
