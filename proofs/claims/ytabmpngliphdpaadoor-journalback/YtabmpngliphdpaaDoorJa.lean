/- journal.Sum. -/
import Derived.Test.YtabmpngliphdpaaDoorKb
import Derived.Lib.LaidTab
namespace Go.Proofs.YtabmpngliphdpaaDoor.Ja
set_option linter.unusedVariables false
set_option linter.unusedSimpArgs false
open Go.RowKit Lib0 Kb
attribute [local go_sem] Oper.semAt_some
def haL : List Int := [0, 498536548, 997073096, 651767980, 1994146192, 1802195444, 1303535960, 1342533948, 3988292384, 4027552580, 3604390888, 3412177804, 2607071920, 2262029012, 2685067896, 3183342108]
abbrev Hal (w : World) : Prop := Lib.TabIs Tryd.prog w "turnstile/journal.halves" .u32 haL
def poly : Nat := 3988292384
/-- one bit -/
def bit (c : Nat) : Nat := (c / 2) ^^^ (if c % 2 = 1 then poly else 0)
def bitK : Nat → Nat → Nat
  | 0, c => c
  | k + 1, c => bitK k (bit c)
def haN (r : Nat) : Nat := (haL.getD r 0).toNat
/-- four bitK -/
def nib (c : Nat) : Nat := (c / 16) ^^^ haN (c % 16)
theorem bit_lin (a y : Nat) : bit ((2 * a) ^^^ y) = a ^^^ bit y := by
  unfold bit
  have h1 : ((2 * a) ^^^ y) / 2 = a ^^^ (y / 2) := by
    apply Nat.eq_of_testBit_eq
    intro i
    rw [show ((2 * a) ^^^ y) / 2 = ((2 * a) ^^^ y) >>> 1 from rfl, show y / 2 = y >>> 1 from rfl]
    simp only [Nat.testBit_shiftRight, Nat.testBit_xor]
    rw [show 2 * a = 2 ^ 1 * a by omega, Nat.testBit_two_pow_mul]
    simp [Nat.add_comm 1 i]
  have h2 : ((2 * a) ^^^ y) % 2 = y % 2 := by
    have e : ∀ z : Nat, z % 2 = if z.testBit 0 then 1 else 0 := fun z => by
      rw [Nat.testBit_zero]
      by_cases h : z % 2 = 1 <;> simp [h]
      omega
    rw [e, e, Nat.testBit_xor, show 2 * a = 2 ^ 1 * a by omega, Nat.testBit_two_pow_mul]
    simp
  rw [h1, h2, Nat.xor_assoc]
theorem bitK_lin (k : Nat) : ∀ (a y : Nat), bitK k ((2 ^ k * a) ^^^ y) = a ^^^ bitK k y := by
  induction k with
  | zero => intro a y; simp [bitK]
  | succ k ih =>
    intro a y
    rw [bitK, bitK, show 2 ^ (k + 1) * a = 2 * (2 ^ k * a) by rw [Nat.pow_succ, Nat.mul_comm (2 ^ k) 2, Nat.mul_assoc], bit_lin, ih]
theorem split16 (c : Nat) : c = (2 ^ 4 * (c / 16)) ^^^ (c % 16) := by
  apply Nat.eq_of_testBit_eq
  intro i
  rw [Nat.testBit_xor, Nat.testBit_two_pow_mul, show c / 16 = c / 2 ^ 4 from rfl, show c % 16 = c % 2 ^ 4 from rfl, Nat.testBit_div_two_pow, Nat.testBit_mod_two_pow]
  by_cases h : 4 ≤ i
  · have h2 : ¬ i < 4 := by omega
    simp [h, h2, Nat.sub_add_cancel h]
  · have h2 : i < 4 := by omega
    simp [h, h2]
theorem nib_bit (c : Nat) : nib c = bitK 4 c := by
  have hr : ∀ r, r < 16 → bitK 4 r = haN r := by decide
  conv => rhs; rw [split16 c, bitK_lin, hr _ (Nat.mod_lt _ (by decide))]
  rfl
end Go.Proofs.YtabmpngliphdpaaDoor.Ja
