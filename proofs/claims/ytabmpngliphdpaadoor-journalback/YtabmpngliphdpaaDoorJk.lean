/- journal.wordOf. -/
import Derived.Test.YtabmpngliphdpaaDoorJd
import Derived.Test.YtabmpngliphdpaaDoorQl
import Derived.BigQuiet
import Derived.Laws.BitsAllLaws
namespace Go.Proofs.YtabmpngliphdpaaDoor.Jk
set_option linter.unusedVariables false
set_option linter.unusedSimpArgs false
open Go.RowKit Lib0 Kb Ja Jb Jd
attribute [local go_sem] Oper.semAt_some
theorem or_add (a b i : Nat) (h : b < 2 ^ i) : (2 ^ i * a) ||| b = 2 ^ i * a + b := (Nat.two_pow_add_eq_or_of_lt h a).symm
/-- the number that four bytes say -/
def n4 (a b c d : Nat) : Nat := 16777216 * a + 65536 * b + 256 * c + d
theorem or4 (a b c d : Nat) (ha : a < 256) (hb : b < 256) (hc : c < 256) (hd : d < 256) : bits .or .u32 (bits .or .u32 (bits .or .u32 ((a : Int) % 4294967296 * 16777216 % 4294967296) ((b : Int) % 4294967296 * 65536 % 4294967296)) ((c : Int) % 4294967296 * 256 % 4294967296)) ((d : Int) % 4294967296) = ((n4 a b c d : Nat) : Int) := by
  rw [show (a : Int) % 4294967296 * 16777216 % 4294967296 = ((2 ^ 24 * a : Nat) : Int) by omega, show (b : Int) % 4294967296 * 65536 % 4294967296 = ((65536 * b : Nat) : Int) by omega, show (c : Int) % 4294967296 * 256 % 4294967296 = ((256 * c : Nat) : Int) by omega, show (d : Int) % 4294967296 = ((d : Nat) : Int) by omega]
  rw [u32_or_nat _ _ (by omega) (by omega), or_add a (65536 * b) 24 (by omega)]
  rw [show 2 ^ 24 * a + 65536 * b = 2 ^ 16 * (256 * a + b) by omega, u32_or_nat _ _ (by omega) (by omega), or_add _ (256 * c) 16 (by omega)]
  rw [show 2 ^ 16 * (256 * a + b) + 256 * c = 2 ^ 8 * (65536 * a + 256 * b + c) by omega, u32_or_nat _ _ (by omega) (by omega), or_add _ d 8 (by omega)]
  congr 1
  unfold n4; omega
set_option maxRecDepth 100000 in
theorem wordOf_any (s : ByteArray) (h4 : 4 ≤ s.size) (w : World) : Calls Tryd.prog 74 #[.string s] w fun e w' => e = .returned (.int .u32 ((n4 (s[0]'(by omega)).toNat (s[1]'(by omega)).toNat (s[2]'(by omega)).toNat (s[3]'(by omega)).toNat : Nat) : Int)) ∧ Below w.heap.size w w' := by
  have HO : Hid _ := or4 (s[0]'(by omega)).toNat (s[1]'(by omega)).toNat (s[2]'(by omega)).toNat (s[3]'(by omega)).toNat (by have := (s[0]'(by omega)).toNat_lt; omega) (by have := (s[1]'(by omega)).toNat_lt; omega) (by have := (s[2]'(by omega)).toNat_lt; omega) (by have := (s[3]'(by omega)).toNat_lt; omega)
  have q0 : (0 : Int) < (s.size : Int) := by omega
  have q1 : (1 : Int) < (s.size : Int) := by omega
  have q2 : (2 : Int) < (s.size : Int) := by omega
  have q3 : (3 : Int) < (s.size : Int) := by omega
  have i0 : 0 < s.size := by omega
  have i1 : 1 < s.size := by omega
  have i2 : 2 < s.size := by omega
  have i3 : 3 < s.size := by omega
  go_enter Tryd.func74, Tryd.ntmps74
  go_wp2_with fail
  refine Ql.region_cl (by kernel_rfl) (by kernel_rfl) ?_
  repeat (first | go_big_quiet_skip | (go_big_quiet_want; go_big_quiet_op; first | go_big_quiet_on | (refine ⟨_, fun _ _ => rfl, ?_⟩; go_big_quiet_on) | (refine ⟨_, fun _ _ => ⟨rfl, rfl⟩, ?_⟩; go_big_quiet_on)))
  refine wpQuiet_nil ?_
  intro y hy
  go_wp2_with fail
  go_ret
  exact ⟨congrArg (fun z => Ending.returned (Value.int .u32 z)) HO.out, hy⟩
end Go.Proofs.YtabmpngliphdpaaDoor.Jk
