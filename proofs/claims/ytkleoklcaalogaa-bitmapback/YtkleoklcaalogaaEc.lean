/- encoding, of a raw number. -/
import Derived.Test.YtkleoklcaalogaaAg
namespace Go.Proofs.Ytkleoklcaalogaa.Ec
set_option linter.unusedVariables false
open Go.RowKit Hf
def rawI (c : Int) : Int := if c < 0 then -(c + 1) else c
def encOf (c : Int) : Int := if rawI c % 3 = 0 then 5 else if rawI c % 3 = 1 then 1 else 4
theorem encOf_width (c : Int) : widthN (encOf c) ≠ 0 := by unfold encOf; (repeat' split) <;> decide
set_option maxHeartbeats 800000 in
theorem encoding_any (c : Int) (h1 : -9223372036854775808 ≤ c) (h2 : c ≤ 9223372036854775807) (w : World) :
    Calls Try.prog 18 #[.int .i64 c] w fun e w' => e = .returned (.int .i64 (encOf c)) ∧ w' = w := by
  by_cases hc : c < 0
  · have e : rawI c = -(c + 1) := by rw [rawI, if_pos hc]
    have t : (-(c + 1)).tmod 3 = -(c + 1) % 3 := Int.tmod_eq_emod_of_nonneg (by omega)
    unfold encOf
    rw [e]
    generalize hr : -(c + 1) % 3 = r at *
    have hr3 : 0 ≤ r ∧ r < 3 := by omega
    have u : -(c + 1) = -c - 1 := by omega
    rcases (show r = 0 ∨ r = 1 ∨ r = 2 by omega) with rfl | rfl | rfl
    all_goals
      go_enter Try.func18, Try.ntmps18
      go_wp2
      all_goals first | (go_ret; exact ⟨rfl, rfl⟩) | (exfalso; simp_all; omega)
  · have e : rawI c = c := by rw [rawI, if_neg hc]
    have t : c.tmod 3 = c % 3 := Int.tmod_eq_emod_of_nonneg (by omega)
    unfold encOf
    rw [e]
    generalize hr : c % 3 = r at *
    have hr3 : 0 ≤ r ∧ r < 3 := by omega
    rcases (show r = 0 ∨ r = 1 ∨ r = 2 by omega) with rfl | rfl | rfl
    all_goals
      go_enter Try.func18, Try.ntmps18
      go_wp2
      all_goals first | (go_ret; exact ⟨rfl, rfl⟩) | (exfalso; simp_all; omega)
end Go.Proofs.Ytkleoklcaalogaa.Ec
