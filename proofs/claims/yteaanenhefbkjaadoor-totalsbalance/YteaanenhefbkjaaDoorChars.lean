/- Which bytes are characters; the first that is none. -/
import Derived.Test.YteaanenhefbkjaaDoorLib0
namespace Go.Proofs.YteaanenhefbkjaaDoor.Chars
open Go.RowKit Lib0
def dig (c : UInt8) : Bool := decide (48 ≤ c.toNat ∧ c.toNat ≤ 57)
def hlf (c : UInt8) : Bool := decide ((48 ≤ c.toNat ∧ c.toNat ≤ 57) ∨ c.toNat = 61)
def sgn (c : UInt8) : Bool := decide (32 ≤ c.toNat ∧ c.toNat ≤ 126)
def byt (_ : UInt8) : Bool := true
theorem ret_bool {a b : Bool} (h : a = b) : Ending.returned (.bool a) = .returned (.bool b) := by rw [h]
theorem isDigit_any (c : UInt8) (w : World) :
    Calls Tryd.prog 53 #[.int .u8 (c.toNat : Int)] w fun e w' => e = .returned (.bool (dig c)) ∧ w' = w := by
  by_cases h1 : (48 : Int) ≤ c.toNat <;> by_cases h2 : (c.toNat : Int) ≤ 57
  all_goals
    go_enter Tryd.func53, Tryd.ntmps53
    go_wp2
    go_ret
    exact ⟨ret_bool (by unfold dig; first | (rw [eq_comm, decide_eq_true_eq]; omega) | (rw [eq_comm, decide_eq_false_iff_not]; omega)), rfl⟩
set_option maxRecDepth 100000 in
theorem fu_dig (s : ByteArray) (w : World) (hs : s.size ≤ 4194304) :
    Calls Tryd.prog 52 #[.string s, .func (.func 53) #[] #[]] w fun e w' => e = .returned (.int .i64 (fuL dig s.data.toList)) ∧ w' = w := by
  go_enter Tryd.func52, Tryd.ntmps52
  go_wp2
  go_loop [8] (fun i => ∃ k : Nat, k ≤ s.size ∧ i = .int .i64 k ∧ (s.data.toList.take k).all dig = true) (fun i => s.size - (intOf i).toNat)
  case atStart => exact ⟨0, Nat.zero_le _, rfl, rfl⟩
  case round =>
    obtain ⟨k, hk, rfl, hal⟩ := hrel
    have Hal : Hid ((s.data.toList.take k).all dig = true) := hal
    clear hal
    by_cases hlt : k < s.size
    · go_wp2_with fail
      refine (isDigit_any s[k] _).mono ?_
      rintro e w' ⟨rfl, rfl⟩
      cases hp : dig s[k]
      · go_wp2
        go_ret
        exact ⟨ret_int (by rw [fuL_hit dig s.data.toList k (by simpa using hlt) Hal.out hp]), rfl⟩
      · go_wp2
        go_round
        case rel => exact ⟨k + 1, by omega, by go_num, all_snoc dig s k hlt Hal.out hp⟩
        case measure => simp [intOf]; omega
    · go_wp2
      go_ret
      exact ⟨ret_int (by rw [fuL_all dig s.data.toList (by have := Hal.out; rwa [take_all s k (by omega)] at this)]; simp), rfl⟩


end Go.Proofs.YteaanenhefbkjaaDoor.Chars
