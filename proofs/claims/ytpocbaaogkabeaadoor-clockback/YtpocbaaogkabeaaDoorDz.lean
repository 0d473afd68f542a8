/- Date: the program's. -/
import Derived.Test.YtpocbaaogkabeaaDoorDy
namespace Go.Proofs.YtpocbaaogkabeaaDoor.Dz
set_option linter.unusedVariables false
set_option linter.unusedSimpArgs false
open Go.RowKit Kb Ca Ld De Oe Hx Dy
set_option maxRecDepth 100000 in
set_option maxHeartbeats 1600000 in
theorem date_bad (n : Int) (hn : decide (0 ≤ n ∧ n ≤ 3155759999) = false) (w : World) : Calls Tryd.prog 12 #[.int .i64 n] w fun e w' => e = .returned (.tuple #[dt 0 0 0 0 0 0, .int .i64 80]) ∧ Below w.heap.size w w' := by
  have hI := fun w => isMoment_any n w
  rw [hn] at hI
  go_enter Tryd.func12, Tryd.ntmps12
  go_wp2_with fail
  refine (hI _).mono ?_
  rintro e x ⟨rfl, rfl⟩
  go_wp2_with fail
  exact bodyPost_ret (v := .tuple #[.agg (cs6 0 0 0 0 0 0), .int .i64 80]) (res_row_tmp (fn := Tryd.f12) (p := 2) (u := 3) rfl _ _ w.heap.size _ _ _ _ rfl (h1_0 w _) Tryd.underlying23 rfl (inf6 0 0 0 0 0 0)) rfl ⟨rfl, below_one w _⟩
set_option maxRecDepth 100000 in
set_option maxHeartbeats 1600000 in
theorem date_good (n : Int) (h0 : 0 ≤ n) (h1 : n ≤ 3155759999) (w : World) (hT : Tab w) : Calls Tryd.prog 12 #[.int .i64 n] w fun e w' => (∃ Y M D, IsDay (n / 86400) Y M D ∧ e = .returned (.tuple #[dt Y M D (n % 86400 / 3600) (n % 3600 / 60) (n % 60), .int .i64 0])) ∧ Below w.heap.size w w' := by
  have hI := fun w => isMoment_any n w
  rw [decide_eq_true ⟨h0, h1⟩] at hI
  go_enter Tryd.func12, Tryd.ntmps12
  go_wp2_with fail
  refine (hI _).mono ?_
  rintro e x ⟨rfl, rfl⟩
  go_wp2_with fail
  refine (dayOf_any (n / 86400) (by omega) (by omega) _ (hT.next (below_one w _))).mono ?_
  rintro e x ⟨⟨Y, M, D, hd, rfl⟩, hb⟩
  unfold dt
  have S0 : Six x w.heap.size 0 0 0 0 0 0 := kept hb (h1_0 w _)
  have B0 := keepB (below_one w _) hb
  obtain ⟨o0, o1, o2, o3, o4, o5⟩ := S0.at
  obtain ⟨z0, z1, z2, z3, z4, z5⟩ := S0.free
  have hlt : w.heap.size < x.heap.size := (Array.getElem?_eq_some_iff.1 S0).1
  go_wp2_with fail
  have S6 := S0.put Y M D (n % 86400 / 3600) (n % 3600 / 60) (n % 60)
  have B6 := below_set6 B0 (Nat.le_refl _) Y M D (n % 86400 / 3600) (n % 3600 / 60) (n % 60)
  exact bodyPost_ret (v := .tuple #[.agg (cs6 Y M D (n % 86400 / 3600) (n % 3600 / 60) (n % 60)), .int .i64 0]) (res_row_tmp (fn := Tryd.f12) (p := 2) (u := 3) rfl _ _ w.heap.size _ _ _ _ rfl (S6.next (below_one _ _)).row Tryd.underlying23 rfl (inf6 _ _ _ _ _ _)) rfl ⟨⟨Y, M, D, hd, rfl⟩, keepB B6 (below_one _ _)⟩
end Go.Proofs.YtpocbaaogkabeaaDoor.Dz
