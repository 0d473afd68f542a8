/- The program's maps: And, Less, Without, With, Has. -/
import Derived.Test.YtmnoplaepjaokaaGreatDoorBm
namespace Go.Proofs.YtmnoplaepjaokaaGreatDoor.Bn
set_option linter.unusedVariables false
open Go.RowKit Pla Bm
theorem forall_and4 {α : Sort _} {p q r t : α → Prop} : (∀ o, p o ∧ q o ∧ r o ∧ t o) ↔ (∀ o, p o) ∧ (∀ o, q o) ∧ (∀ o, r o) ∧ (∀ o, t o) :=
  ⟨fun h => ⟨fun o => (h o).1, fun o => (h o).2.1, fun o => (h o).2.2.1, fun o => (h o).2.2.2⟩, fun h o => ⟨h.1 o, h.2.1 o, h.2.2.1 o, h.2.2.2 o⟩⟩
/-- is a map right? -/
def rightB (F S : Nat) : Bool := decide (F < 9223372036854775808) && decide (S < 9223372036854775808)
/-- With's answer -/
def withV (F S : Nat) (n : Int) : Nat × Nat × Int := if field n && rightB F S then (F ||| onlyF n, S ||| onlyS n, 0) else (0, 0, 1)
end Go.Proofs.YtmnoplaepjaokaaGreatDoor.Bn
