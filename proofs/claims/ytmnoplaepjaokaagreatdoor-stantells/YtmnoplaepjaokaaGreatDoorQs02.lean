import Derived.Test.YtmnoplaepjaokaaGreatDoorQs01
import Derived.Deep.QuietTactic
import Derived.BigQuiet
/- Of: the program's. -/
namespace Go.Proofs.YtmnoplaepjaokaaGreatDoor.De
set_option linter.unusedVariables false
set_option linter.unusedSimpArgs false
open Go.RowKit Kb Ca Ld
set_option maxRecDepth 100000 in
set_option maxHeartbeats 400000 in
theorem isMoment_any (m : Int) (w : World) : Calls Tryz.prog 108 #[.int .i64 m] w fun e w' => e = .returned (.bool (decide (0 ≤ m ∧ m ≤ 3155759999))) ∧ w' = w := by
  go_enter Tryz.func108, Tryz.ntmps108
  go_wp2_with fail
  refine (within_any _ _ _ _).mono ?_
  rintro e x ⟨rfl, rfl⟩
  go_wp2
  go_ret
  exact ⟨ret_bool (by simp), rfl⟩
theorem within_b (n a b : Int) (v : Bool) (h : decide (a ≤ n ∧ n ≤ b) = v) (w : World) : Calls Tryz.prog 141 #[.int .i64 n, .int .i64 a, .int .i64 b] w fun e w' => e = .returned (.bool v) ∧ w' = w := by
  subst h; exact within_any n a b w
end Go.Proofs.YtmnoplaepjaokaaGreatDoor.De
/- Of: the program's. -/
namespace Go.Proofs.YtmnoplaepjaokaaGreatDoor.Oe
set_option linter.unusedVariables false
set_option linter.unusedSimpArgs false
open Go.RowKit Kb Ca Ld De
theorem held6 {x : World} {b : Nat} {t : TypeId} {v0 v1 v2 v3 v4 v5 : Value} (hx : x.heap[b]? = some (Obj.cells #[v0, v1, v2, v3, v4, v5] t)) :
    x.cell? ⟨b, 0, none⟩ = some v0 ∧ x.cell? ⟨b, 1, none⟩ = some v1 ∧ x.cell? ⟨b, 2, none⟩ = some v2 ∧ x.cell? ⟨b, 3, none⟩ = some v3 ∧ x.cell? ⟨b, 4, none⟩ = some v4 ∧ x.cell? ⟨b, 5, none⟩ = some v5 := by
  refine ⟨?_, ?_, ?_, ?_, ?_, ?_⟩ <;> simp [World.cell?, hx]
/-- the moment of a date, and why not -/
def ofV (Y M D h mi s : Int) : Int := if isD Y M D h mi s = true then mom Y M D h mi s else 0
def ofE (Y M D h mi s : Int) : Int := if isD Y M D h mi s = true then 0 else 80
theorem ret_two {a a' b b' : Int} (h : a = a') (g : b = b') : Ending.returned (.tuple #[.int .i64 a, .int .i64 b]) = .returned (.tuple #[.int .i64 a', .int .i64 b']) := by rw [h, g]
end Go.Proofs.YtmnoplaepjaokaaGreatDoor.Oe
