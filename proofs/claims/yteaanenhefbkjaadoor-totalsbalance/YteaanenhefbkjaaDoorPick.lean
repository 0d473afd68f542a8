/- pick: a number below n, off any number. -/
import Derived.Test.YteaanenhefbkjaaDoorRows
import Derived.WalkKit
import Derived.WalkLawsBesides
import Derived.WalkSpells
namespace Go.Proofs.YteaanenhefbkjaaDoor.Pick
open Go.RowKit
def pickOf (c n : Int) : Int := (if c < 0 then -(c + 1) else c) % n
theorem ret_int {k : IntKind} {a b : Int} (h : a = b) : Ending.returned (.int k a) = .returned (.int k b) := by rw [h]
theorem pick_lo (c n : Int) (h : 0 < n) : 0 ≤ pickOf c n := Int.emod_nonneg _ (by omega)
theorem pick_hi (c n : Int) (h : 0 < n) : pickOf c n < n := Int.emod_lt_of_pos _ h
theorem pick_any (c n : Int) (w : World) (h0 : -9223372036854775808 ≤ c) (h1 : c ≤ 9223372036854775807) (h2 : 0 < n) (h3 : n ≤ 9223372036854775807) :
    Calls Tryd.prog 5 #[.int .i64 c, .int .i64 n] w fun e w' => e = .returned (.int .i64 (pickOf c n)) ∧ w' = w := by
  have hz : (n == 0) = false := by simp; omega
  have ho : (n == -1) = false := by simp; omega
  by_cases g : c < 0
  · go_enter Tryd.func5, Tryd.ntmps5
    go_wp2
    go_ret
    exact ⟨ret_int (by rw [pickOf, if_pos g, ← Int.tmod_eq_emod_of_nonneg (by omega), Int.neg_tmod]), rfl⟩
  · go_enter Tryd.func5, Tryd.ntmps5
    go_wp2
    go_ret
    exact ⟨ret_int (by rw [pickOf, if_neg (by omega)]), rfl⟩
end Go.Proofs.YteaanenhefbkjaaDoor.Pick
