/- Months out of texts, Last: the program's. -/
import Derived.Test.YtpocbaaogkabeaaDoorSm
namespace Go.Proofs.YtpocbaaogkabeaaDoor.Sn
set_option linter.unusedVariables false
set_option linter.unusedSimpArgs false
open Go.RowKit Kb Ca Ld De Oe Hx Sg Sm
/-- four digits -/
def four (s : ByteArray) : Bool := decide (s.size = 4) && ad s
theorem ret_three {a b a' b' : Int} {c c' : Bool} (h : a = a') (g : b = b') (k : c = c') : Ending.returned (.tuple #[.int .i64 a, .int .i64 b, .bool c]) = .returned (.tuple #[.int .i64 a', .int .i64 b', .bool c']) := by rw [h, g, k]
set_option maxRecDepth 100000 in
set_option maxHeartbeats 1600000 in
theorem month_bad (s : ByteArray) (hs : s.size ≤ 140737488351232) (h : four s = false) (w : World) : Calls Tryd.prog 45 #[.string s] w fun e w' => e = .returned (.tuple #[.int .i64 0, .int .i64 0, .bool false]) ∧ Below w.heap.size w w' := by
  by_cases h1 : s.size = 4
  · have h2 : ad s = false := by simpa [four, h1] using h
    have cA := fun x => allDigits_any s x hs
    rw [h2] at cA
    have q : ((s.size : Int) == 4) = true := by rw [h1]; rfl
    clear h h2
    go_enter Tryd.func45, Tryd.ntmps45
    go_wp2_with fail
    refine (cA _).mono ?_
    rintro e x ⟨rfl, rfl⟩
    go_wp2_with fail
    all_goals (go_ret3; exact ⟨rfl, Below.refl _ _⟩)
  · have q : ((s.size : Int) == 4) = false := by rw [beq_eq_false_iff_ne]; omega
    go_enter Tryd.func45, Tryd.ntmps45
    go_wp2_with fail
    all_goals (go_ret3; exact ⟨rfl, Below.refl _ _⟩)
set_option maxRecDepth 100000 in
set_option maxHeartbeats 1600000 in
theorem month_good (s : ByteArray) (hs : s.size ≤ 140737488351232) (h : four s = true) (w : World) : Calls Tryd.prog 45 #[.string s] w fun e w' => e = .returned (.tuple #[.int .i64 (2000 + tw s.data.toList 0), .int .i64 (tw s.data.toList 2), .bool (decide (1 ≤ tw s.data.toList 2 ∧ tw s.data.toList 2 ≤ 12))]) ∧ Below w.heap.size w w' := by
  simp only [four, Bool.and_eq_true, decide_eq_true_eq] at h
  obtain ⟨h1, h2⟩ := h
  have cA := fun x => allDigits_any s x hs
  rw [h2] at cA
  have b0 := tw_bd h2 0 (by omega)
  have b2 := tw_bd h2 2 (by omega)
  have c0 := fun x => pair_any s x hs (by omega) h2
  have c2 := fun x => pair_from s 2 x hs (by omega) h2
  rw [h1] at c2
  have q : ((s.size : Int) == 4) = true := by rw [h1]; rfl
  have cM := fun x => isMonth_any (tw s.data.toList 2) x
  generalize tw s.data.toList 0 = Y at *
  generalize tw s.data.toList 2 = M at *
  generalize decide (1 ≤ M ∧ M ≤ 12) = b at *
  clear h2
  go_enter Tryd.func45, Tryd.ntmps45
  go_wp2_with fail
  refine (cA _).mono ?_
  rintro e x ⟨rfl, rfl⟩
  clear cA
  go_wp2_with fail
  go_quiet (first
    | (go_at_call_of 50 (Value.string s); exact Calls.quiet_of (c0 _))
    | (go_at_call_of 50 (Value.string (s.extract 2 4)); exact Calls.quiet_of (c2 _)))
  go_wp2_with fail
  refine (cM _).mono ?_
  rintro e x ⟨rfl, rfl⟩
  go_wp2
  go_ret3
  exact ⟨rfl, below_drewN (Below.refl _ _) _⟩
end Go.Proofs.YtpocbaaogkabeaaDoor.Sn
