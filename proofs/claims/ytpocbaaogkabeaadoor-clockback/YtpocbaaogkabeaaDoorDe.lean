/- Of: the program's. -/
import Derived.Test.YtpocbaaogkabeaaDoorLd
import Derived.Deep.QuietTactic
import Derived.BigQuiet
namespace Go.Proofs.YtpocbaaogkabeaaDoor.De
set_option linter.unusedVariables false
set_option linter.unusedSimpArgs false
open Go.RowKit Kb Ca Ld
set_option maxRecDepth 100000 in
set_option maxHeartbeats 400000 in
theorem isMonth_any (m : Int) (w : World) : Calls Tryd.prog 47 #[.int .i64 m] w fun e w' => e = .returned (.bool (decide (1 ≤ m ∧ m ≤ 12))) ∧ w' = w := by
  go_enter Tryd.func47, Tryd.ntmps47
  go_wp2_with fail
  refine (within_any _ _ _ _).mono ?_
  rintro e x ⟨rfl, rfl⟩
  go_wp2
  go_ret
  exact ⟨ret_bool (by simp), rfl⟩
set_option maxRecDepth 100000 in
set_option maxHeartbeats 400000 in
theorem isMoment_any (m : Int) (w : World) : Calls Tryd.prog 35 #[.int .i64 m] w fun e w' => e = .returned (.bool (decide (0 ≤ m ∧ m ≤ 3155759999))) ∧ w' = w := by
  go_enter Tryd.func35, Tryd.ntmps35
  go_wp2_with fail
  refine (within_any _ _ _ _).mono ?_
  rintro e x ⟨rfl, rfl⟩
  go_wp2
  go_ret
  exact ⟨ret_bool (by simp), rfl⟩
set_option maxRecDepth 100000 in
set_option maxHeartbeats 400000 in
theorem daysOf_any (y m : Int) (h1 : 1 ≤ m) (h2 : m ≤ 12) (w : World) (hT : Tab w) : Calls Tryd.prog 48 #[.int .i64 y, .int .i64 m] w fun e w' => e = .returned (.int .i64 (dm y m)) ∧ w' = w := by
  have b := dm_bd y h1 h2
  unfold dm at b
  go_enter Tryd.func48, Tryd.ntmps48
  go_wp2_with fail
  refine (month_any y (m + 1) (by omega) (by omega) _ hT).mono ?_
  rintro e x ⟨rfl, rfl⟩
  go_wp2_with fail
  refine (month_any y m (by omega) (by omega) _ hT).mono ?_
  rintro e x ⟨rfl, rfl⟩
  go_wp2
  go_ret
  exact ⟨rfl, rfl⟩
theorem within_b (n a b : Int) (v : Bool) (h : decide (a ≤ n ∧ n ≤ b) = v) (w : World) : Calls Tryd.prog 40 #[.int .i64 n, .int .i64 a, .int .i64 b] w fun e w' => e = .returned (.bool v) ∧ w' = w := by
  subst h; exact within_any n a b w
theorem isMonth_b (m : Int) (v : Bool) (h : decide (1 ≤ m ∧ m ≤ 12) = v) (w : World) : Calls Tryd.prog 47 #[.int .i64 m] w fun e w' => e = .returned (.bool v) ∧ w' = w := by
  subst h; exact isMonth_any m w
set_option maxRecDepth 100000 in
set_option maxHeartbeats 1600000 in
theorem isDate_any (Y M D h mi s : Int) (w : World) (hT : Tab w) : Calls Tryd.prog 30 #[dt Y M D h mi s] w fun e w' => e = .returned (.bool (isD Y M D h mi s)) ∧ Below w.heap.size w w' := by
  have hT2 : ∀ n o, Tab ((w.alloc o).drewN n) := fun n o => hT.next (below_drewN (below_one w o) n)
  have hB : ∀ n o, Below w.heap.size w ((w.alloc o).drewN n) := fun n o => below_drewN (below_one w o) n
  unfold dt
  go_enter Tryd.func30, Tryd.ntmps30
  by_cases w0 : 2000 ≤ Y ∧ Y ≤ 2099
  case neg =>
    have v0 := decide_eq_false w0
    go_wp2_with fail
    go_quiet (first | (go_at_call_of 40 (Value.int .i64 Y); exact Calls.quiet_of_same (within_b Y 2000 2099 _ v0 _)))
    go_wp2
    all_goals (go_ret; exact ⟨ret_bool (decide_eq_false (by omega)).symm, hB _ _⟩)
  have v0 := decide_eq_true w0
  by_cases w1 : 1 ≤ M ∧ M ≤ 12
  case neg =>
    have v1 := decide_eq_false w1
    go_wp2_with fail
    go_quiet (first | (go_at_call_of 40 (Value.int .i64 Y); exact Calls.quiet_of_same (within_b Y 2000 2099 _ v0 _)) | (go_at_call 47; exact Calls.quiet_of_same (isMonth_b M _ v1 _)))
    go_wp2
    all_goals (go_ret; exact ⟨ret_bool (decide_eq_false (by omega)).symm, hB _ _⟩)
  have v1 := decide_eq_true w1
  by_cases w2 : 1 ≤ D ∧ D ≤ dm Y M
  case neg =>
    have v2 := decide_eq_false w2
    go_wp2_with fail
    go_quiet (first | (go_at_call_of 40 (Value.int .i64 Y); exact Calls.quiet_of_same (within_b Y 2000 2099 _ v0 _)) | (go_at_call 47; exact Calls.quiet_of_same (isMonth_b M _ v1 _)) | (go_at_call 48; exact Calls.quiet_of_same (daysOf_any Y M w1.1 w1.2 _ (hT2 _ _))) | (go_at_call_of 40 (Value.int .i64 D); exact Calls.quiet_of_same (within_b D 1 (dm Y M) _ v2 _)))
    go_wp2
    all_goals (go_ret; exact ⟨ret_bool (decide_eq_false (by omega)).symm, hB _ _⟩)
  have v2 := decide_eq_true w2
  by_cases w3 : 0 ≤ h ∧ h ≤ 23
  case neg =>
    have v3 := decide_eq_false w3
    go_wp2_with fail
    go_quiet (first | (go_at_call_of 40 (Value.int .i64 Y); exact Calls.quiet_of_same (within_b Y 2000 2099 _ v0 _)) | (go_at_call 47; exact Calls.quiet_of_same (isMonth_b M _ v1 _)) | (go_at_call 48; exact Calls.quiet_of_same (daysOf_any Y M w1.1 w1.2 _ (hT2 _ _))) | (go_at_call_of 40 (Value.int .i64 D); exact Calls.quiet_of_same (within_b D 1 (dm Y M) _ v2 _)) | (go_at_call_of 40 (Value.int .i64 h); exact Calls.quiet_of_same (within_b h 0 23 _ v3 _)))
    go_wp2
    all_goals (go_ret; exact ⟨ret_bool (decide_eq_false (by omega)).symm, hB _ _⟩)
  have v3 := decide_eq_true w3
  by_cases w4 : 0 ≤ mi ∧ mi ≤ 59
  case neg =>
    have v4 := decide_eq_false w4
    go_wp2_with fail
    go_quiet (first | (go_at_call_of 40 (Value.int .i64 Y); exact Calls.quiet_of_same (within_b Y 2000 2099 _ v0 _)) | (go_at_call 47; exact Calls.quiet_of_same (isMonth_b M _ v1 _)) | (go_at_call 48; exact Calls.quiet_of_same (daysOf_any Y M w1.1 w1.2 _ (hT2 _ _))) | (go_at_call_of 40 (Value.int .i64 D); exact Calls.quiet_of_same (within_b D 1 (dm Y M) _ v2 _)) | (go_at_call_of 40 (Value.int .i64 h); exact Calls.quiet_of_same (within_b h 0 23 _ v3 _)) | (go_at_call_of 40 (Value.int .i64 mi); exact Calls.quiet_of_same (within_b mi 0 59 _ v4 _)))
    go_wp2
    all_goals (go_ret; exact ⟨ret_bool (decide_eq_false (by omega)).symm, hB _ _⟩)
  have v4 := decide_eq_true w4
  by_cases w5 : 0 ≤ s ∧ s ≤ 59
  case neg =>
    have v5 := decide_eq_false w5
    go_wp2_with fail
    go_quiet (first | (go_at_call_of 40 (Value.int .i64 Y); exact Calls.quiet_of_same (within_b Y 2000 2099 _ v0 _)) | (go_at_call 47; exact Calls.quiet_of_same (isMonth_b M _ v1 _)) | (go_at_call 48; exact Calls.quiet_of_same (daysOf_any Y M w1.1 w1.2 _ (hT2 _ _))) | (go_at_call_of 40 (Value.int .i64 D); exact Calls.quiet_of_same (within_b D 1 (dm Y M) _ v2 _)) | (go_at_call_of 40 (Value.int .i64 h); exact Calls.quiet_of_same (within_b h 0 23 _ v3 _)) | (go_at_call_of 40 (Value.int .i64 mi); exact Calls.quiet_of_same (within_b mi 0 59 _ v4 _)) | (go_at_call_of 40 (Value.int .i64 s); exact Calls.quiet_of_same (within_b s 0 59 _ v5 _)))
    go_wp2
    all_goals (go_ret; exact ⟨ret_bool (decide_eq_false (by omega)).symm, hB _ _⟩)
  have v5 := decide_eq_true w5
  go_wp2_with fail
  go_quiet (first | (go_at_call_of 40 (Value.int .i64 Y); exact Calls.quiet_of_same (within_b Y 2000 2099 _ v0 _)) | (go_at_call 47; exact Calls.quiet_of_same (isMonth_b M _ v1 _)) | (go_at_call 48; exact Calls.quiet_of_same (daysOf_any Y M w1.1 w1.2 _ (hT2 _ _))) | (go_at_call_of 40 (Value.int .i64 D); exact Calls.quiet_of_same (within_b D 1 (dm Y M) _ v2 _)) | (go_at_call_of 40 (Value.int .i64 h); exact Calls.quiet_of_same (within_b h 0 23 _ v3 _)) | (go_at_call_of 40 (Value.int .i64 mi); exact Calls.quiet_of_same (within_b mi 0 59 _ v4 _)) | (go_at_call_of 40 (Value.int .i64 s); exact Calls.quiet_of_same (within_b s 0 59 _ v5 _)))
  go_wp2
  all_goals (go_ret; exact ⟨ret_bool (decide_eq_true (by omega)).symm, hB _ _⟩)
end Go.Proofs.YtpocbaaogkabeaaDoor.De
