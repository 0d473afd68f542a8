/- Count: the program's and the document's, as one function of three numbers. -/
import Derived.Test.YteaanenhefbkjaaDoorRows
import Derived.WalkKit
import Derived.WalkLawsBesides
import Derived.WalkSpells
namespace Go.Proofs.YteaanenhefbkjaaDoor.Cnt
open Go.RowKit
def mx (n : Int) : Int := if n < 0 then 0 else n
def countOf (n b m : Int) : Int := if mx m - mx n < mx b then mx m else mx n + mx b
theorem ret_int {k : IntKind} {a b : Int} (h : a = b) : Ending.returned (.int k a) = .returned (.int k b) := by rw [h]

theorem count_any (n b m : Int) (w : World) (h1 : n ≤ 9223372036854775807) (h2 : b ≤ 9223372036854775807) (h3 : m ≤ 9223372036854775807) :
    Calls Tryd.prog 30 #[.int .i64 n, .int .i64 b, .int .i64 m] w fun e w' => e = .returned (.int .i64 (countOf n b m)) ∧ w' = w := by
  by_cases g1 : n < 0 <;> by_cases g2 : b < 0 <;> by_cases g3 : m < 0
  all_goals
    go_enter Tryd.func30, Tryd.ntmps30
    go_wp2
    all_goals
      go_ret
      exact ⟨ret_int (by simp only [countOf, mx]; (repeat' split) <;> omega), rfl⟩
end Go.Proofs.YteaanenhefbkjaaDoor.Cnt
