import Derived.Test.YtmnoplaepjaokaaGreatDoorQs04
/- Date: the program's. -/
namespace Go.Proofs.YtmnoplaepjaokaaGreatDoor.Dz
set_option linter.unusedVariables false
set_option linter.unusedSimpArgs false
open Go.RowKit Kb Ca Ld De Oe Hx Dy
set_option maxRecDepth 100000 in
set_option maxHeartbeats 1600000 in
theorem date_bad (n : Int) (hn : decide (0 ≤ n ∧ n ≤ 3155759999) = false) (w : World) : Calls Tryz.prog 78 #[.int .i64 n] w fun e w' => e = .returned (.tuple #[dt 0 0 0 0 0 0, .int .i64 80]) ∧ Below w.heap.size w w' := by
  have hI := fun w => isMoment_any n w
  rw [hn] at hI
  go_enter Tryz.func78, Tryz.ntmps78
  go_wp2_with fail
  refine (hI _).mono ?_
  rintro e x ⟨rfl, rfl⟩
  go_wp2_with fail
  exact bodyPost_ret (v := .tuple #[.agg (cs6 0 0 0 0 0 0), .int .i64 80]) (res_row_tmp (fn := Tryz.f78) (p := 2) (u := 3) rfl _ _ w.heap.size _ _ _ _ rfl (h1_0 w _) Tryz.underlying119 rfl (inf6 0 0 0 0 0 0)) rfl ⟨rfl, below_one w _⟩
set_option maxRecDepth 100000 in
set_option maxHeartbeats 1600000 in
theorem date_good (n : Int) (h0 : 0 ≤ n) (h1 : n ≤ 3155759999) (w : World) (hT : Tab w) : Calls Tryz.prog 78 #[.int .i64 n] w fun e w' => (∃ Y M D, IsDay (n / 86400) Y M D ∧ e = .returned (.tuple #[dt Y M D (n % 86400 / 3600) (n % 3600 / 60) (n % 60), .int .i64 0])) ∧ Below w.heap.size w w' := by
  have hI := fun w => isMoment_any n w
  rw [decide_eq_true ⟨h0, h1⟩] at hI
  go_enter Tryz.func78, Tryz.ntmps78
  go_wp2_with fail
  refine (hI _).mono ?_
  rintro e x ⟨rfl, rfl⟩
  go_wp2_with fail
  refine (dayOf_any (n / 86400) (by omega) (by omega) _ (hT.next (below_one w _))).mono ?_
  rintro e x ⟨⟨Y, M, D, hd, rfl⟩, hb⟩
  unfold dt
  have S0 : Six x w.heap.size 0 0 0 0 0 0 := kept hb (h1_0 w _)
  have B0 := keepB (below_one w _) hb
  obtain ⟨o0, o1, o2, o3, o4, o5⟩ := S0.at
  obtain ⟨z0, z1, z2, z3, z4, z5⟩ := S0.free
  have hlt : w.heap.size < x.heap.size := (Array.getElem?_eq_some_iff.1 S0).1
  go_wp2_with fail
  have S6 := S0.put Y M D (n % 86400 / 3600) (n % 3600 / 60) (n % 60)
  have B6 := below_set6 B0 (Nat.le_refl _) Y M D (n % 86400 / 3600) (n % 3600 / 60) (n % 60)
  exact bodyPost_ret (v := .tuple #[.agg (cs6 Y M D (n % 86400 / 3600) (n % 3600 / 60) (n % 60)), .int .i64 0]) (res_row_tmp (fn := Tryz.f78) (p := 2) (u := 3) rfl _ _ w.heap.size _ _ _ _ rfl (S6.next (below_one _ _)).row Tryz.underlying119 rfl (inf6 _ _ _ _ _ _)) rfl ⟨⟨Y, M, D, hd, rfl⟩, keepB B6 (below_one _ _)⟩
end Go.Proofs.YtmnoplaepjaokaaGreatDoor.Dz
/- Date: the document's. -/
namespace Go.Proofs.YtmnoplaepjaokaaGreatDoor.Rz
set_option linter.unusedVariables false
set_option linter.unusedSimpArgs false
open Go.RowKit Kb Ca Ld De Oe Hx Rd Ro Dy
set_option maxRecDepth 100000 in
set_option maxHeartbeats 1600000 in
theorem dater_bad (n : Int) (hn : decide (0 ≤ n ∧ n ≤ 3155759999) = false) (w : World) : Calls Tryz.prog 81 #[.int .i64 n] w fun e w' => e = .returned (.tuple #[dt 0 0 0 0 0 0, .int .i64 80]) ∧ Below w.heap.size w w' := by
  have hn' := of_decide_eq_false hn
  clear hn
  go_enter Tryz.func81, Tryz.ntmps81
  by_cases h : n < 0
  · go_wp2_with fail
    exact bodyPost_ret (v := .tuple #[.agg (cs6 0 0 0 0 0 0), .int .i64 80]) (res_row_tmp (fn := Tryz.f81) (p := 2) (u := 3) rfl _ _ w.heap.size _ _ _ _ rfl (h1_0 w _) Tryz.underlying119 rfl (inf6 0 0 0 0 0 0)) rfl ⟨rfl, below_one w _⟩
  · have h2 : 3155759999 < n := by omega
    go_wp2_with fail
    exact bodyPost_ret (v := .tuple #[.agg (cs6 0 0 0 0 0 0), .int .i64 80]) (res_row_tmp (fn := Tryz.f81) (p := 2) (u := 3) rfl _ _ w.heap.size _ _ _ _ rfl (h1_0 w _) Tryz.underlying119 rfl (inf6 0 0 0 0 0 0)) rfl ⟨rfl, below_one w _⟩
set_option maxRecDepth 100000 in
set_option maxHeartbeats 1600000 in
theorem dater_good (n : Int) (h0 : 0 ≤ n) (h1 : n ≤ 3155759999) (w : World) : Calls Tryz.prog 81 #[.int .i64 n] w fun e w' => (∃ Y M D, IsDay (n / 86400) Y M D ∧ e = .returned (.tuple #[dt Y M D (n % 86400 / 3600) (n % 3600 / 60) (n % 60), .int .i64 0])) ∧ Below w.heap.size w w' := by
  rw [show n % 86400 / 3600 = n / 3600 % 24 by omega, show n % 3600 / 60 = n / 60 % 60 by omega]
  obtain ⟨H, hH⟩ : ∃ H, n / 3600 % 24 = H := ⟨_, rfl⟩
  obtain ⟨I, hI⟩ : ∃ H, n / 60 % 60 = H := ⟨_, rfl⟩
  obtain ⟨S, hS⟩ : ∃ H, n % 60 = H := ⟨_, rfl⟩
  obtain ⟨d, hd⟩ : ∃ d, n / 86400 = d := ⟨_, rfl⟩
  have hE : Hid (n / 3600 % 24 = H ∧ n / 60 % 60 = I ∧ n % 60 = S) := ⟨hH, hI, hS⟩
  have d0 : 0 ≤ d := by omega
  have d1 : d < 36525 := by omega
  go_enter Tryz.func81, Tryz.ntmps81
  go_wp2_with fail
  simp only [hH, hI, hS, hd]
  have F0 : ∀ a b, Below w.heap.size w ((w.alloc a).alloc b) := fun a b => below_two w a b
  go_loopw [5] (fun c wr => ∃ Y M N : Int, c = .int .i64 N ∧ 0 ≤ N ∧ N < 36525 ∧ 2000 ≤ Y ∧ Y ≤ 2099 ∧ 1 ≤ M ∧ M ≤ 12 ∧ Hid (d = ay Y + am Y M + N) ∧ Six wr (w.heap.size + 1) Y M 1 H I S ∧ Six wr w.heap.size 0 0 0 0 0 0 ∧ Below w.heap.size w wr) (fun c _ => (intOf c).toNat)
  case atStart => exact ⟨2000, 1, d, rfl, d0, d1, by omega, by omega, by omega, by omega, by (show _ = _; rw [ay_2000, am_one]; omega), h2_1 w _ _, h2_0 w _ _, F0 _ _⟩
  case round =>
    obtain ⟨Y, M, N, rfl, n0, n1, y0, y1, m0, m1, HN, S1, S0, B⟩ := hrel
    obtain ⟨r0, r1, r2, r3, r4, r5⟩ := S1.at
    obtain ⟨f0, f1, f2, f3, f4, f5⟩ := S1.free
    have de := dd_eq Y m0 m1
    have db := dm_bd Y m0 m1
    have st := am_step Y (m := M)
    by_cases hc : dd Y M ≤ N
    · have v0 : 28 ≤ dd Y M := by omega
      have v1 : dd Y M ≤ 31 := by omega
      have HN2 : Hid (d = ay Y + am Y (M + 1) + (N - dd Y M)) := by show _ = _; have := HN.out; omega
      have cD := fun x => days_any Y M x
      have S1a := S1.set1 (M + 1)
      have B' := below_setCell B (g := w.heap.size + 1) (by omega) 1 (.int .i64 (M + 1))
      clear de db st HN
      by_cases hM : M = 12
      · subst hM
        have ys := ay_succ (y := Y) (by omega) y1
        have HN3 : Hid (d = ay (Y + 1) + am (Y + 1) 1 + (N - dd Y 12)) := by
          show _ = _
          rw [am_one, ys]; have := HN2.out; rw [show (12 : Int) + 1 = 13 by decide] at this; omega
        have y3 : Y + 1 ≤ 2099 := by
          refine ay_up d1 y1 ?_
          have := HN3.out; rw [am_one] at this; omega
        clear HN2 ys
        have S1b := (S1a.set1 1).set0 (Y + 1)
        have S0b := ((S0.ne (c := w.heap.size + 1) (by omega) 1 (.int .i64 (12 + 1))).ne (c := w.heap.size + 1) (by omega) 1 (.int .i64 1)).ne (c := w.heap.size + 1) (by omega) 0 (.int .i64 (Y + 1))
        have Bb := below_setCell (below_setCell B' (g := w.heap.size + 1) (by omega) 1 (.int .i64 1)) (g := w.heap.size + 1) (by omega) 0 (.int .i64 (Y + 1))
        go_wp2_with fail
        refine (cD _).mono ?_
        rintro e x ⟨rfl, rfl⟩
        generalize dd Y 12 = V at *
        go_wp2_with fail
        refine (cD _).mono ?_
        rintro e x ⟨rfl, rfl⟩
        go_wp2_with fail
        go_round
        case rel => exact ⟨Y + 1, 1, N - V, by go_num, by omega, by omega, by omega, y3, by omega, by omega, HN3, S1b, S0b, Bb⟩
        case measure => simp [intOf]; omega
      · have S0a := S0.ne (c := w.heap.size + 1) (by omega) 1 (.int .i64 (M + 1))
        have hM2 : M + 1 ≤ 12 := by omega
        go_wp2_with fail
        refine (cD _).mono ?_
        rintro e x ⟨rfl, rfl⟩
        generalize dd Y M = V at *
        go_wp2_with fail
        refine (cD _).mono ?_
        rintro e x ⟨rfl, rfl⟩
        go_wp2_with fail
        go_round
        case rel => exact ⟨Y, M + 1, N - V, by go_num, by omega, by omega, y0, y1, by omega, hM2, HN2, S1a, S0a, B'⟩
        case measure => simp [intOf]; omega
    · have hday : Hid (IsDay (n / 86400) Y M (1 + N)) := by
        show IsDay _ Y M (1 + N)
        rw [hd]
        exact ⟨y0, y1, m0, m1, by omega, by omega, by have := HN.out; omega⟩
      have cD := fun x => days_any Y M x
      obtain ⟨o0, o1, o2, o3, o4, o5⟩ := S0.at
      obtain ⟨z0, z1, z2, z3, z4, z5⟩ := S0.free
      have S0' := S0.ne (c := w.heap.size + 1) (by omega) 2 (.int .i64 (1 + N))
      have B' := below_setCell B (g := w.heap.size + 1) (by omega) 2 (.int .i64 (1 + N))
      clear de db st HN
      clear f0 f1 f3 f4 f5
      clear hH hI hS hd
      go_wp2_with fail
      refine (cD _).mono ?_
      rintro e x ⟨rfl, rfl⟩
      clear cD
      generalize dd Y M = V at *
      go_wp2_with fail
      have S6 := S0'.put Y M (1 + N) H I S
      have B6 := below_set6 B' (Nat.le_refl _) Y M (1 + N) H I S
      exact bodyPost_ret (v := .tuple #[.agg (cs6 Y M (1 + N) H I S), .int .i64 0]) (res_row_tmp (fn := Tryz.f81) (p := 2) (u := 3) rfl _ _ w.heap.size _ _ _ _ rfl S6.row Tryz.underlying119 rfl (inf6 _ _ _ _ _ _)) rfl ⟨⟨Y, M, 1 + N, hday.out, by rw [hE.out.1, hE.out.2.1, hE.out.2.2]; rfl⟩, B6⟩
end Go.Proofs.YtmnoplaepjaokaaGreatDoor.Rz
