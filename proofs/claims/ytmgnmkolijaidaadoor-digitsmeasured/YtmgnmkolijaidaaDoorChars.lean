/- Which bytes are characters; the first that is none. -/
import Derived.Test.YtmgnmkolijaidaaDoorLib0
namespace Go.Proofs.YtmgnmkolijaidaaDoor.Chars
open Go.RowKit Lib0
def dig (c : UInt8) : Bool := decide (48 ≤ c.toNat ∧ c.toNat ≤ 57)
def hlf (c : UInt8) : Bool := decide ((48 ≤ c.toNat ∧ c.toNat ≤ 57) ∨ c.toNat = 61)
def sgn (c : UInt8) : Bool := decide (32 ≤ c.toNat ∧ c.toNat ≤ 126)
def byt (_ : UInt8) : Bool := true
theorem ret_bool {a b : Bool} (h : a = b) : Ending.returned (.bool a) = .returned (.bool b) := by rw [h]
theorem isDigit_any (c : UInt8) (w : World) :
    Calls Tryd.prog 15 #[.int .u8 (c.toNat : Int)] w fun e w' => e = .returned (.bool (dig c)) ∧ w' = w := by
  by_cases h1 : (48 : Int) ≤ c.toNat <;> by_cases h2 : (c.toNat : Int) ≤ 57
  all_goals
    go_enter Tryd.func15, Tryd.ntmps15
    go_wp2
    go_ret
    exact ⟨ret_bool (by unfold dig; first | (rw [eq_comm, decide_eq_true_eq]; omega) | (rw [eq_comm, decide_eq_false_iff_not]; omega)), rfl⟩
theorem isHalf_any (c : UInt8) (w : World) :
    Calls Tryd.prog 34 #[.int .u8 (c.toNat : Int)] w fun e w' => e = .returned (.bool (hlf c)) ∧ w' = w := by
  by_cases h0 : dig c = true
  · have hd : hlf c = true := by unfold dig at h0; unfold hlf; simp only [decide_eq_true_eq] at *; omega
    go_enter Tryd.func34, Tryd.ntmps34
    go_wp2_with fail
    refine (isDigit_any c _).mono ?_
    rintro e w' ⟨rfl, rfl⟩
    rw [h0]
    go_wp2
    go_ret
    exact ⟨ret_bool hd.symm, rfl⟩
  · have h0' : dig c = false := by simpa using h0
    by_cases h1 : ((c.toNat : Int) == 61) = true
    · have hd : hlf c = true := by unfold hlf; simp only [decide_eq_true_eq, beq_iff_eq] at *; omega
      go_enter Tryd.func34, Tryd.ntmps34
      go_wp2_with fail
      refine (isDigit_any c _).mono ?_
      rintro e w' ⟨rfl, rfl⟩
      rw [h0']
      go_wp2
      go_ret
      exact ⟨ret_bool (by rw [hd]), rfl⟩
    · have h1' : ((c.toNat : Int) == 61) = false := by simpa using h1
      have hd : hlf c = false := by unfold dig at h0; unfold hlf; simp only [decide_eq_true_eq, beq_iff_eq, decide_eq_false_iff_not] at *; omega
      go_enter Tryd.func34, Tryd.ntmps34
      go_wp2_with fail
      refine (isDigit_any c _).mono ?_
      rintro e w' ⟨rfl, rfl⟩
      rw [h0']
      go_wp2
      go_ret
      exact ⟨ret_bool (by rw [hd]), rfl⟩
theorem isSign_any (c : UInt8) (w : World) :
    Calls Tryd.prog 33 #[.int .u8 (c.toNat : Int)] w fun e w' => e = .returned (.bool (sgn c)) ∧ w' = w := by
  by_cases h1 : (32 : Int) ≤ c.toNat <;> by_cases h2 : (c.toNat : Int) ≤ 126
  all_goals
    go_enter Tryd.func33, Tryd.ntmps33
    go_wp2
    go_ret
    exact ⟨ret_bool (by unfold sgn; first | (rw [eq_comm, decide_eq_true_eq]; omega) | (rw [eq_comm, decide_eq_false_iff_not]; omega)), rfl⟩
theorem isByte_any (c : UInt8) (w : World) :
    Calls Tryd.prog 35 #[.int .u8 (c.toNat : Int)] w fun e w' => e = .returned (.bool (byt c)) ∧ w' = w := by
  go_enter Tryd.func35, Tryd.ntmps35
  go_wp2
  go_ret
  exact ⟨rfl, rfl⟩

set_option maxRecDepth 100000 in
theorem fu_dig (s : ByteArray) (w : World) (hs : s.size ≤ 4194304) :
    Calls Tryd.prog 18 #[.string s, .func (.func 15) #[] #[]] w fun e w' => e = .returned (.int .i64 (fuL dig s.data.toList)) ∧ w' = w := by
  go_enter Tryd.func18, Tryd.ntmps18
  go_wp2
  go_loop [8] (fun i => ∃ k : Nat, k ≤ s.size ∧ i = .int .i64 k ∧ (s.data.toList.take k).all dig = true) (fun i => s.size - (intOf i).toNat)
  case atStart => exact ⟨0, Nat.zero_le _, rfl, rfl⟩
  case round =>
    obtain ⟨k, hk, rfl, hal⟩ := hrel
    have Hal : Hid ((s.data.toList.take k).all dig = true) := hal
    clear hal
    by_cases hlt : k < s.size
    · go_wp2_with fail
      refine (isDigit_any s[k] _).mono ?_
      rintro e w' ⟨rfl, rfl⟩
      cases hp : dig s[k]
      · go_wp2
        go_ret
        exact ⟨ret_int (by rw [fuL_hit dig s.data.toList k (by simpa using hlt) Hal.out hp]), rfl⟩
      · go_wp2
        go_round
        case rel => exact ⟨k + 1, by omega, by go_num, all_snoc dig s k hlt Hal.out hp⟩
        case measure => simp [intOf]; omega
    · go_wp2
      go_ret
      exact ⟨ret_int (by rw [fuL_all dig s.data.toList (by have := Hal.out; rwa [take_all s k (by omega)] at this)]; simp), rfl⟩


set_option maxRecDepth 100000 in
theorem fu_hlf (s : ByteArray) (w : World) (hs : s.size ≤ 4194304) :
    Calls Tryd.prog 18 #[.string s, .func (.func 34) #[] #[]] w fun e w' => e = .returned (.int .i64 (fuL hlf s.data.toList)) ∧ w' = w := by
  go_enter Tryd.func18, Tryd.ntmps18
  go_wp2
  go_loop [8] (fun i => ∃ k : Nat, k ≤ s.size ∧ i = .int .i64 k ∧ (s.data.toList.take k).all hlf = true) (fun i => s.size - (intOf i).toNat)
  case atStart => exact ⟨0, Nat.zero_le _, rfl, rfl⟩
  case round =>
    obtain ⟨k, hk, rfl, hal⟩ := hrel
    have Hal : Hid ((s.data.toList.take k).all hlf = true) := hal
    clear hal
    by_cases hlt : k < s.size
    · go_wp2_with fail
      refine (isHalf_any s[k] _).mono ?_
      rintro e w' ⟨rfl, rfl⟩
      cases hp : hlf s[k]
      · go_wp2
        go_ret
        exact ⟨ret_int (by rw [fuL_hit hlf s.data.toList k (by simpa using hlt) Hal.out hp]), rfl⟩
      · go_wp2
        go_round
        case rel => exact ⟨k + 1, by omega, by go_num, all_snoc hlf s k hlt Hal.out hp⟩
        case measure => simp [intOf]; omega
    · go_wp2
      go_ret
      exact ⟨ret_int (by rw [fuL_all hlf s.data.toList (by have := Hal.out; rwa [take_all s k (by omega)] at this)]; simp), rfl⟩


set_option maxRecDepth 100000 in
theorem fu_sgn (s : ByteArray) (w : World) (hs : s.size ≤ 4194304) :
    Calls Tryd.prog 18 #[.string s, .func (.func 33) #[] #[]] w fun e w' => e = .returned (.int .i64 (fuL sgn s.data.toList)) ∧ w' = w := by
  go_enter Tryd.func18, Tryd.ntmps18
  go_wp2
  go_loop [8] (fun i => ∃ k : Nat, k ≤ s.size ∧ i = .int .i64 k ∧ (s.data.toList.take k).all sgn = true) (fun i => s.size - (intOf i).toNat)
  case atStart => exact ⟨0, Nat.zero_le _, rfl, rfl⟩
  case round =>
    obtain ⟨k, hk, rfl, hal⟩ := hrel
    have Hal : Hid ((s.data.toList.take k).all sgn = true) := hal
    clear hal
    by_cases hlt : k < s.size
    · go_wp2_with fail
      refine (isSign_any s[k] _).mono ?_
      rintro e w' ⟨rfl, rfl⟩
      cases hp : sgn s[k]
      · go_wp2
        go_ret
        exact ⟨ret_int (by rw [fuL_hit sgn s.data.toList k (by simpa using hlt) Hal.out hp]), rfl⟩
      · go_wp2
        go_round
        case rel => exact ⟨k + 1, by omega, by go_num, all_snoc sgn s k hlt Hal.out hp⟩
        case measure => simp [intOf]; omega
    · go_wp2
      go_ret
      exact ⟨ret_int (by rw [fuL_all sgn s.data.toList (by have := Hal.out; rwa [take_all s k (by omega)] at this)]; simp), rfl⟩


set_option maxRecDepth 100000 in
theorem fu_byt (s : ByteArray) (w : World) (hs : s.size ≤ 4194304) :
    Calls Tryd.prog 18 #[.string s, .func (.func 35) #[] #[]] w fun e w' => e = .returned (.int .i64 (fuL byt s.data.toList)) ∧ w' = w := by
  go_enter Tryd.func18, Tryd.ntmps18
  go_wp2
  go_loop [8] (fun i => ∃ k : Nat, k ≤ s.size ∧ i = .int .i64 k ∧ (s.data.toList.take k).all byt = true) (fun i => s.size - (intOf i).toNat)
  case atStart => exact ⟨0, Nat.zero_le _, rfl, rfl⟩
  case round =>
    obtain ⟨k, hk, rfl, hal⟩ := hrel
    have Hal : Hid ((s.data.toList.take k).all byt = true) := hal
    clear hal
    by_cases hlt : k < s.size
    · go_wp2_with fail
      refine (isByte_any s[k] _).mono ?_
      rintro e w' ⟨rfl, rfl⟩
      cases hp : byt s[k]
      · go_wp2
        go_ret
        exact ⟨ret_int (by rw [fuL_hit byt s.data.toList k (by simpa using hlt) Hal.out hp]), rfl⟩
      · go_wp2
        go_round
        case rel => exact ⟨k + 1, by omega, by go_num, all_snoc byt s k hlt Hal.out hp⟩
        case measure => simp [intOf]; omega
    · go_wp2
      go_ret
      exact ⟨ret_int (by rw [fuL_all byt s.data.toList (by have := Hal.out; rwa [take_all s k (by omega)] at this)]; simp), rfl⟩

/-- which function tells an encoding's characters -/
theorem chars_sign (enc : Int) (w : World) (h : enc = 1 ∨ enc = 4) : Calls Tryd.prog 20 #[.int .i64 enc] w fun e w' => e = .returned (.tuple #[.func (.func 33) #[] #[], .bool true]) ∧ w' = w := by
  rcases h with rfl | rfl
  all_goals
    go_enter Tryd.func20, Tryd.ntmps20
    go_wp2
    go_ret2
    exact ⟨rfl, rfl⟩
theorem chars_half (enc : Int) (w : World) (h : enc = 2 ∨ enc = 3) : Calls Tryd.prog 20 #[.int .i64 enc] w fun e w' => e = .returned (.tuple #[.func (.func 34) #[] #[], .bool true]) ∧ w' = w := by
  rcases h with rfl | rfl
  all_goals
    go_enter Tryd.func20, Tryd.ntmps20
    go_wp2
    go_ret2
    exact ⟨rfl, rfl⟩
theorem chars_byte (w : World) : Calls Tryd.prog 20 #[.int .i64 5] w fun e w' => e = .returned (.tuple #[.func (.func 35) #[] #[], .bool true]) ∧ w' = w := by
  go_enter Tryd.func20, Tryd.ntmps20
  go_wp2
  go_ret2
  exact ⟨rfl, rfl⟩
theorem chars_none (enc : Int) (w : World) (h : enc < 1 ∨ 5 < enc) : Calls Tryd.prog 20 #[.int .i64 enc] w fun e w' => e = .returned (.tuple #[.nilFunc, .bool false]) ∧ w' = w := by
  have h1 : (enc == 1) = false := by simp; omega
  have h2 : (enc == 2) = false := by simp; omega
  have h3 : (enc == 3) = false := by simp; omega
  have h4 : (enc == 4) = false := by simp; omega
  have h5 : (enc == 5) = false := by simp; omega
  go_enter Tryd.func20, Tryd.ntmps20
  go_wp2
  go_ret2
  exact ⟨rfl, rfl⟩
end Go.Proofs.YtmgnmkolijaidaaDoor.Chars
