/- The law's digits, plain: they say the number. -/
import Derived.Test.YteaanenhefbkjaaDoorTj
namespace Go.Proofs.YteaanenhefbkjaaDoor.Tk
set_option linter.unusedVariables false
set_option linter.unusedSimpArgs false
open Go.RowKit Lib0 Kb Num Chars Tj
theorem d8 (n : Nat) : (UInt8.ofNat (48 + n % 10)).toNat = 48 + n % 10 := by
  simp
  omega
theorem numV_dgs : ∀ w n, numV (dgs w n) = ((n % 10 ^ w : Nat) : Int)
  | 0, n => by simp [dgs, numV, Nat.mod_one]
  | w + 1, n => by
    rw [dgs, numV_snoc, numV_dgs w (n / 10), d8, Nat.pow_succ', Nat.mod_mul]
    omega
theorem dig_dgs : ∀ w n, (dgs w n).all dig = true
  | 0, n => rfl
  | w + 1, n => by
    rw [dgs, List.all_append, dig_dgs w, Bool.true_and, List.all_cons, List.all_nil, Bool.and_true]
    unfold dig
    rw [d8]
    exact decide_eq_true (by omega)
theorem num_dgs (n : Nat) (h : n < 1000000000000) : numR (dgs 12 n) = ((n : Int), 0) := by
  unfold numR
  rw [fuL_all dig _ (dig_dgs 12 n), if_neg (by rw [dgs_length]; omega), if_neg (by omega), numV_dgs 12 n, Nat.mod_eq_of_lt (by omega)]
/-- the six types of deals: none is sent that has no answer -/
def mtis : List ByteArray := [⟨#[48, 50, 48, 48]⟩, ⟨#[48, 49, 48, 48]⟩, ⟨#[49, 50, 48, 48]⟩, ⟨#[48, 50, 50, 48]⟩, ⟨#[48, 52, 50, 48]⟩, ⟨#[49, 52, 50, 49]⟩]
def mtiK (k : Nat) : ByteArray := mtis.getD k ⟨#[]⟩
theorem six {k : Nat} (h : k < 6) : k = 0 ∨ k = 1 ∨ k = 2 ∨ k = 3 ∨ k = 4 ∨ k = 5 := by omega
theorem mti_ok (k : Nat) (h : k < 6) : (mtiK k).size = 4 ∧ (Ht.dg (mtiK k) 1 = 1 ∨ Ht.dg (mtiK k) 1 = 2 ∨ Ht.dg (mtiK k) 1 = 4) ∧ Hx.anE (mtiK k) = 0 ∧ (Ht.dg (mtiK k) 1 = 4 ↔ decide (3 < k) = true) ∧ (Ht.dg (mtiK k) 2 = 2 ↔ decide (2 < k) = true) := by
  rcases six h with rfl | rfl | rfl | rfl | rfl | rfl <;> decide
end Go.Proofs.YteaanenhefbkjaaDoor.Tk
