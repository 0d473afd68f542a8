/- Days, Right, Of: the document's. -/
import Derived.Test.YtpocbaaogkabeaaDoorHx
namespace Go.Proofs.YtpocbaaogkabeaaDoor.Rd
set_option linter.unusedVariables false
set_option linter.unusedSimpArgs false
open Go.RowKit Kb Ca Ld De Oe Hx
set_option maxRecDepth 100000 in
set_option maxHeartbeats 400000 in
theorem leapr_any (y : Int) (w : World) : Calls Tryd.prog 15 #[.int .i64 y] w fun e w' => e = .returned (.bool (lp y)) ∧ w' = w := by
  go_enter Tryd.func15, Tryd.ntmps15
  by_cases h4 : y.tmod 4 = 0 <;> by_cases h1 : y.tmod 100 = 0 <;> by_cases h2 : y.tmod 400 = 0
  all_goals
    go_wp2_with fail
    go_ret
    simp [lp, h4, h1, h2]
set_option maxRecDepth 100000 in
set_option maxHeartbeats 400000 in
theorem days_any (y m : Int) (w : World) : Calls Tryd.prog 34 #[.int .i64 y, .int .i64 m] w fun e w' => e = .returned (.int .i64 (dd y m)) ∧ w' = w := by
  by_cases h4 : m = 4
  · subst h4
    go_enter Tryd.func34, Tryd.ntmps34
    go_wp2
    go_ret
    exact ⟨ret_int (by simp [dd]), rfl⟩
  by_cases h6 : m = 6
  · subst h6
    go_enter Tryd.func34, Tryd.ntmps34
    go_wp2
    go_ret
    exact ⟨ret_int (by simp [dd]), rfl⟩
  by_cases h9 : m = 9
  · subst h9
    go_enter Tryd.func34, Tryd.ntmps34
    go_wp2
    go_ret
    exact ⟨ret_int (by simp [dd]), rfl⟩
  by_cases h11 : m = 11
  · subst h11
    go_enter Tryd.func34, Tryd.ntmps34
    go_wp2
    go_ret
    exact ⟨ret_int (by simp [dd]), rfl⟩
  by_cases h2 : m = 2
  · subst h2
    go_enter Tryd.func34, Tryd.ntmps34
    go_wp2_with fail
    refine (leapr_any y _).mono ?_
    rintro e x ⟨rfl, rfl⟩
    cases hl : lp y
    · go_wp2
      go_ret
      exact ⟨ret_int (by simp [dd, hl]), rfl⟩
    · go_wp2
      go_ret
      exact ⟨ret_int (by simp [dd, hl]), rfl⟩
  · go_enter Tryd.func34, Tryd.ntmps34
    have k4 : (m == 4) = false := by simp [h4]
    have k6 : (m == 6) = false := by simp [h6]
    have k9 : (m == 9) = false := by simp [h9]
    have k11 : (m == 11) = false := by simp [h11]
    have k2 : (m == 2) = false := by simp [h2]
    go_wp2
    go_ret
    exact ⟨ret_int (by simp [dd, h4, h6, h9, h11, h2]), rfl⟩
set_option maxRecDepth 100000 in
set_option maxHeartbeats 1600000 in
theorem right_any (Y M D h mi s : Int) (w : World) : Calls Tryd.prog 33 #[dt Y M D h mi s] w fun e w' => e = .returned (.bool (isD Y M D h mi s)) ∧ Below w.heap.size w w' := by
  have hB : ∀ n o, Below w.heap.size w ((w.alloc o).drewN n) := fun n o => below_drewN (below_one w o) n
  have hB2 : ∀ n k o, Below w.heap.size w (((w.alloc o).drewN n).drewN k) := fun n k o => below_drewN (hB n o) k
  have cD := fun x => days_any Y M x
  unfold dt
  go_enter Tryd.func33, Tryd.ntmps33
  by_cases w0 : Y < 2000
  · have v0 := decide_eq_true w0
    go_wp2_with fail
    go_quiet (first | (go_at_call 34; exact Calls.quiet_of_same (cD _)))
    go_wp2
    all_goals (go_ret; exact ⟨ret_bool (decide_eq_false (by omega)).symm, hB _ _⟩)
  have v0 := decide_eq_false w0
  by_cases w1 : 2099 < Y
  · have v1 := decide_eq_true w1
    go_wp2_with fail
    go_quiet (first | (go_at_call 34; exact Calls.quiet_of_same (cD _)))
    go_wp2
    all_goals (go_ret; exact ⟨ret_bool (decide_eq_false (by omega)).symm, hB _ _⟩)
  have v1 := decide_eq_false w1
  by_cases w2 : M < 1
  · have v2 := decide_eq_true w2
    go_wp2_with fail
    go_quiet (first | (go_at_call 34; exact Calls.quiet_of_same (cD _)))
    go_wp2
    all_goals (go_ret; exact ⟨ret_bool (decide_eq_false (by omega)).symm, hB _ _⟩)
  have v2 := decide_eq_false w2
  by_cases w3 : 12 < M
  · have v3 := decide_eq_true w3
    go_wp2_with fail
    go_quiet (first | (go_at_call 34; exact Calls.quiet_of_same (cD _)))
    go_wp2
    all_goals (go_ret; exact ⟨ret_bool (decide_eq_false (by omega)).symm, hB _ _⟩)
  have v3 := decide_eq_false w3
  by_cases w4 : D < 1
  · have v4 := decide_eq_true w4
    go_wp2_with fail
    go_quiet (first | (go_at_call 34; exact Calls.quiet_of_same (cD _)))
    go_wp2
    all_goals (go_ret; exact ⟨ret_bool (decide_eq_false (by omega)).symm, hB _ _⟩)
  have v4 := decide_eq_false w4
  by_cases w5 : dd Y M < D
  · have v5 := decide_eq_true w5
    have e5 := dd_eq Y (m := M) (by omega) (by omega)
    go_wp2_with fail
    go_quiet (first | (go_at_call 34; exact Calls.quiet_of_same (cD _)))
    go_wp2
    all_goals (go_ret; exact ⟨ret_bool (decide_eq_false (by omega)).symm, hB _ _⟩)
  have v5 := decide_eq_false w5
  have e5 := dd_eq Y (m := M) (by omega) (by omega)
  go_wp2_with fail
  go_quiet (first | (go_at_call 34; exact Calls.quiet_of_same (cD _)))
  by_cases x0 : 0 ≤ h
  case neg =>
    have z0 := decide_eq_false x0
    go_wp2
    all_goals (go_ret; exact ⟨ret_bool (by first | rfl | (rw [decide_eq_false (by omega)]; exact (decide_eq_false (by omega)).symm) | exact (decide_eq_false (by omega)).symm), hB _ _⟩)
  have z0 := decide_eq_true x0
  by_cases x1 : h ≤ 23
  case neg =>
    have z1 := decide_eq_false x1
    go_wp2
    all_goals (go_ret; exact ⟨ret_bool (by first | rfl | (rw [decide_eq_false (by omega)]; exact (decide_eq_false (by omega)).symm) | exact (decide_eq_false (by omega)).symm), hB _ _⟩)
  have z1 := decide_eq_true x1
  by_cases x2 : 0 ≤ mi
  case neg =>
    have z2 := decide_eq_false x2
    go_wp2
    all_goals (go_ret; exact ⟨ret_bool (by first | rfl | (rw [decide_eq_false (by omega)]; exact (decide_eq_false (by omega)).symm) | exact (decide_eq_false (by omega)).symm), hB _ _⟩)
  have z2 := decide_eq_true x2
  by_cases x3 : mi ≤ 59
  case neg =>
    have z3 := decide_eq_false x3
    go_wp2
    all_goals (go_ret; exact ⟨ret_bool (by first | rfl | (rw [decide_eq_false (by omega)]; exact (decide_eq_false (by omega)).symm) | exact (decide_eq_false (by omega)).symm), hB _ _⟩)
  have z3 := decide_eq_true x3
  by_cases x4 : 0 ≤ s
  case neg =>
    have z4 := decide_eq_false x4
    go_wp2
    all_goals (go_ret; exact ⟨ret_bool (by first | rfl | (rw [decide_eq_false (by omega)]; exact (decide_eq_false (by omega)).symm) | exact (decide_eq_false (by omega)).symm), hB _ _⟩)
  have z4 := decide_eq_true x4
  by_cases x5 : s ≤ 59
  case neg =>
    have z5 := decide_eq_false x5
    go_wp2
    all_goals (go_ret; exact ⟨ret_bool (by first | rfl | (rw [decide_eq_false (by omega)]; exact (decide_eq_false (by omega)).symm) | exact (decide_eq_false (by omega)).symm), hB _ _⟩)
  have z5 := decide_eq_true x5
  go_wp2
  all_goals (go_ret; exact ⟨ret_bool (by first | (rw [decide_eq_true x5]; exact (decide_eq_true (by omega)).symm) | exact (decide_eq_true (by omega)).symm), hB _ _⟩)
end Go.Proofs.YtpocbaaogkabeaaDoor.Rd
