import Derived.Test.YtmnoplaepjaokaaGreatDoorQs03
/- Of: the document's. -/
namespace Go.Proofs.YtmnoplaepjaokaaGreatDoor.Ro
set_option linter.unusedVariables false
set_option linter.unusedSimpArgs false
open Go.RowKit Kb Ca Ld De Oe Hx Rd
end Go.Proofs.YtmnoplaepjaokaaGreatDoor.Ro
/- dayOf: the program's. -/
namespace Go.Proofs.YtmnoplaepjaokaaGreatDoor.Dy
set_option linter.unusedVariables false
set_option linter.unusedSimpArgs false
open Go.RowKit Kb Ca Ld De Oe Hx
theorem ay_up {n Y : Int} (hn : n < 36525) (hY : Y ≤ 2099) (h : ay (Y + 1) ≤ n) : Y + 1 ≤ 2099 := by
  rcases (by omega : Y + 1 ≤ 2099 ∨ Y = 2099) with h' | rfl
  · exact h'
  · rw [show (2099 : Int) + 1 = 2100 by decide, ay_2100] at h; omega
theorem am_up {r Y M : Int} (hr : r < am Y 13) (hM : M ≤ 12) (h : am Y (M + 1) ≤ r) : M + 1 ≤ 12 := by
  rcases (by omega : M + 1 ≤ 12 ∨ M = 12) with h' | rfl
  · exact h'
  · rw [show (12 : Int) + 1 = 13 by decide] at h; omega
theorem size3 (w : World) (a b : Obj) : ((w.alloc a).alloc b).heap.size = w.heap.size + 2 := by simp
/-- which number stands in the cell -/
def numAt (x : World) (b o : Nat) : Int := intOf ((x.cell? ⟨b, o, none⟩).getD undef)
set_option maxRecDepth 100000 in
set_option maxHeartbeats 1600000 in
theorem dayOf_any (n : Int) (h0 : 0 ≤ n) (h1 : n < 36525) (w : World) (hT : Tab w) : Calls Tryz.prog 109 #[.int .i64 n] w fun e w' => (∃ Y M D, IsDay n Y M D ∧ e = .returned (dt Y M D 0 0 0)) ∧ Below w.heap.size w w' := by
  have q0 : 2000 ≤ 2000 + n / 366 := by omega
  have q1 : 2000 + n / 366 ≤ 2099 := by omega
  have q2 : Hid (ay (2000 + n / 366) ≤ n) := by show ay _ ≤ n; rw [ay_eq (by omega)]; omega
  go_enter Tryz.func109, Tryz.ntmps109
  go_wp2_with fail
  obtain ⟨g, hg⟩ : ∃ g, g = w.heap.size := ⟨_, rfl⟩
  have F0 : ∀ a b, Below w.heap.size w ((w.alloc a).alloc b) := fun a b => below_two w a b
  go_loopw [] (fun wr => ∃ Y : Int, 2000 ≤ Y ∧ Y ≤ 2099 ∧ Hid (ay Y ≤ n) ∧ Six wr (w.heap.size + 1) Y 1 0 0 0 0 ∧ Six wr w.heap.size 0 0 0 0 0 0 ∧ Below w.heap.size w wr) (fun wr => (2100 - numAt wr (w.heap.size + 1) 0).toNat)
  case atStart => exact ⟨_, q0, q1, q2, h2_1 w _ _, h2_0 w _ _, F0 _ _⟩
  case round =>
    obtain ⟨Y, y0, y1, y2, S1, S0, B⟩ := hrel
    obtain ⟨r0, r1, -, -, -, -⟩ := S1.at
    obtain ⟨f0, -, -, -, -, -⟩ := S1.free
    have hTr := hT.next B
    have ym : numAt wr (w.heap.size + 1) 0 = Y := by unfold numAt; rw [r0]; rfl
    by_cases hc : ay (Y + 1) ≤ n
    · have y3 := ay_up h1 y1 hc
      have S1' := S1.set0 (Y + 1)
      have S0' := S0.ne (c := w.heap.size + 1) (by omega) 0 (.int .i64 (Y + 1))
      have B' := below_setCell B (g := w.heap.size + 1) (by omega) 0 (.int .i64 (Y + 1))
      have ym' : numAt (wr.setCell ⟨w.heap.size + 1, 0, none⟩ (.int .i64 (Y + 1))) (w.heap.size + 1) 0 = Y + 1 := by
        unfold numAt; rw [S1'.at.1]; rfl
      go_wp2_with fail
      refine (year_any (Y + 1) (by omega) (by omega) _).mono ?_
      rintro e x ⟨rfl, rfl⟩
      go_wp2_with fail
      go_round
      case rel => exact ⟨Y + 1, by omega, y3, hc, S1', S0', B'⟩
      case measure => rw [ym, ym']; omega
    · go_wp2_with fail
      refine (year_any (Y + 1) (by omega) (by omega) _).mono ?_
      rintro e x ⟨rfl, rfl⟩
      go_wp2_with fail
      refine (year_any Y (by omega) (by omega) _).mono ?_
      rintro e x ⟨rfl, rfl⟩
      have y4 := y2.out
      have ys := ay_succ (y := Y) (by omega) y1
      obtain ⟨r, hr⟩ : ∃ r, n - ay Y = r := ⟨_, rfl⟩
      have hr0 : 0 ≤ r := by omega
      have hr1 : Hid (r < am Y 13) := by show r < _; omega
      have hr2 : r ≤ 36525 := by
        have := ay_mono (y := 2000) (z := Y) (by omega) y0
        rw [ay_2000] at this; omega
      clear hc ys
      have hay : 0 ≤ ay Y := by
        have := ay_mono (y := 2000) (z := Y) (by omega) y0
        rw [ay_2000] at this; omega
      have hHn : Hid (n = ay Y + r) := by show _ = _; omega
      obtain ⟨A, hA⟩ : ∃ A, ay Y = A := ⟨_, rfl⟩
      have hAH : Hid (ay Y = A) := hA
      rw [hA] at hr y4 hay hHn ⊢
      clear hA
      go_wp2_with fail
      try rw [hr]
      clear hr y4 hay
      clear ym r0 r1 f0
      have S1a := S1; have S0a := S0; have Ba := B
      clear S1 S0 B
      have m1 := am_one Y
      go_loopw [] (fun wr => ∃ M : Int, 1 ≤ M ∧ M ≤ 12 ∧ Hid (am Y M ≤ r) ∧ Six wr (w.heap.size + 1) Y M 0 0 0 0 ∧ Six wr w.heap.size 0 0 0 0 0 0 ∧ Below w.heap.size w wr) (fun wr => (13 - numAt wr (w.heap.size + 1) 1).toNat)
      case atStart => exact ⟨1, by omega, by omega, (by show am Y 1 ≤ r; omega), S1a, S0a, Ba⟩
      case round =>
        obtain ⟨M, g0, g1, g2, S1, S0, B⟩ := hrel
        obtain ⟨r0, r1, -, -, -, -⟩ := S1.at
        obtain ⟨-, f1, f2, -, -, -⟩ := S1.free
        have hTr := hT.next B
        have ym : numAt wr (w.heap.size + 1) 1 = M := by unfold numAt; rw [r1]; rfl
        by_cases hc : am Y (M + 1) ≤ r
        · have y3 := am_up hr1.out g1 hc
          have S1' := S1.set1 (M + 1)
          have S0' := S0.ne (c := w.heap.size + 1) (by omega) 1 (.int .i64 (M + 1))
          have B' := below_setCell B (g := w.heap.size + 1) (by omega) 1 (.int .i64 (M + 1))
          have ym' : numAt (wr.setCell ⟨w.heap.size + 1, 1, none⟩ (.int .i64 (M + 1))) (w.heap.size + 1) 1 = M + 1 := by
            unfold numAt; rw [S1'.at.2.1]; rfl
          go_wp2_with fail
          refine (month_any Y (M + 1) (by omega) (by omega) _ hTr).mono ?_
          rintro e x ⟨rfl, rfl⟩
          go_wp2_with fail
          go_round
          case rel => exact ⟨M + 1, by omega, y3, hc, S1', S0', B'⟩
          case measure => rw [ym, ym']; omega
        · go_wp2_with fail
          refine (month_any Y (M + 1) (by omega) (by omega) _ hTr).mono ?_
          rintro e x ⟨rfl, rfl⟩
          go_wp2_with fail
          refine (month_any Y M (by omega) (by omega) _ hTr).mono ?_
          rintro e x ⟨rfl, rfl⟩
          have g4 := g2.out
          have g5 := am_bd Y (m := M) (by omega) (by omega)
          have st := am_step Y (m := M)
          obtain ⟨D, hD⟩ : ∃ D, r - am Y M + 1 = D := ⟨_, rfl⟩
          have hday : Hid (IsDay n Y M D) := ⟨y0, y1, g0, g1, by omega, by omega, by have := hHn.out; have := hAH.out; omega⟩
          clear st hc
          generalize am Y M = A at *
          have S1' := S1.set2 D
          have S0' := S0.ne (c := w.heap.size + 1) (by omega) 2 (.int .i64 D)
          have B' := below_setCell B (g := w.heap.size + 1) (by omega) 2 (.int .i64 D)
          obtain ⟨r0, r1, r2, r3, r4, r5⟩ := S1.at
          obtain ⟨o0, o1, o2, o3, o4, o5⟩ := S0.at
          obtain ⟨z0, z1, z2, z3, z4, z5⟩ := S0.free
          have S0w := (((((S0'.set0 Y).set1 M).set2 D).set3 0).set4 0).set5 0
          have Bw := below_setCell (below_setCell (below_setCell (below_setCell (below_setCell (below_setCell B' (Nat.le_refl _) 0 (.int .i64 Y)) (Nat.le_refl _) 1 (.int .i64 M)) (Nat.le_refl _) 2 (.int .i64 D)) (Nat.le_refl _) 3 (.int .i64 0)) (Nat.le_refl _) 4 (.int .i64 0)) (Nat.le_refl _) 5 (.int .i64 0)
          go_wp2_with fail
          exact bodyPost_ret (v := .agg (cs6 Y M D 0 0 0)) (results_cell_row rfl _ _ w.heap.size _ _ _ _ rfl S0w.row Tryz.underlying119 rfl (inf6 _ _ _ _ _ _)) rfl ⟨⟨Y, M, D, hday.out, rfl⟩, Bw⟩
end Go.Proofs.YtmnoplaepjaokaaGreatDoor.Dy
