/- Of: the document's. -/
import Derived.Test.YtpocbaaogkabeaaDoorRd
namespace Go.Proofs.YtpocbaaogkabeaaDoor.Ro
set_option linter.unusedVariables false
set_option linter.unusedSimpArgs false
open Go.RowKit Kb Ca Ld De Oe Hx Rd
set_option maxRecDepth 100000 in
set_option maxHeartbeats 1600000 in
theorem ofr_any (Y M D h mi s : Int) (w : World) : Calls Tryd.prog 11 #[dt Y M D h mi s] w fun e w' => e = .returned (.tuple #[.int .i64 (ofV Y M D h mi s), .int .i64 (ofE Y M D h mi s)]) ∧ Below w.heap.size w w' := by
  cases hd : isD Y M D h mi s
  · have hI : ∀ o, Calls _ _ _ (w.alloc o) _ := fun o => right_any Y M D h mi s (w.alloc o)
    rw [hd] at hI
    rw [show ofV Y M D h mi s = 0 by simp [ofV, hd], show ofE Y M D h mi s = 80 by simp [ofE, hd]]
    clear hd
    unfold dt at hI ⊢
    go_enter Tryd.func11, Tryd.ntmps11
    go_wp2_with fail
    refine (hI _).mono ?_
    rintro e x ⟨rfl, hb⟩
    have hB := keepB (below_one w _) hb
    go_wp2
    go_ret2
    exact ⟨rfl, hB⟩
  · have hI : ∀ o, Calls _ _ _ (w.alloc o) _ := fun o => right_any Y M D h mi s (w.alloc o)
    rw [hd] at hI
    have b := (isD_day hd).bd
    have e := of_decide_eq_true hd
    have e31 := dm_bd Y (m := M) (by omega) (by omega)
    obtain ⟨g1, g2, g3, g4, g5, g6, g7, g8, g9, g10, g11, g12⟩ := e
    have g13 : D ≤ 31 := by omega
    have eV : mom Y M D h mi s = (ay Y + am Y M + D - 1) * 86400 + h * 3600 + mi * 60 + s := rfl
    have eW : ofV Y M D h mi s = mom Y M D h mi s := by simp [ofV, hd]
    have eE : ofE Y M D h mi s = 0 := by simp [ofE, hd]
    rw [eW, eE, eV]
    clear eW eE eV hd b e31 g6
    unfold dt at hI ⊢
    go_enter Tryd.func11, Tryd.ntmps11
    go_wp2_with fail
    refine (hI _).mono ?_
    rintro e x ⟨rfl, hb⟩
    have hB := keepB (below_one w _) hb
    obtain ⟨r0, r1, r2, r3, r4, r5⟩ := held6 (kept hb (h1_0 w _))
    clear hI hb
    go_wp2_with fail
    go_loop [5, 6] (fun n y => ∃ N K : Int, n = .int .i64 N ∧ y = .int .i64 K ∧ 2000 ≤ K ∧ K ≤ Y ∧ Hid (N = D - 1 + ay K)) (fun _ y => (Y - intOf y).toNat)
    case atStart => exact ⟨D - 1, 2000, rfl, rfl, by omega, g1, by show _ = _; rw [ay_2000]; omega⟩
    case round =>
      obtain ⟨N, K, rfl, rfl, k0, k1, HN⟩ := hrel
      by_cases hlt : K < Y
      · have N0 : 0 ≤ N := by
          have := HN.out; have := ay_mono (y := 2000) (z := K) (by omega) k0
          rw [ay_2000] at this; omega
        have N1 : N ≤ 40000 := by
          have := HN.out; have := ay_eq (y := K) (by omega); omega
        go_wp2_with fail
        go_loop [5, 7] (fun n m => ∃ N K2 : Int, n = .int .i64 N ∧ m = .int .i64 K2 ∧ 1 ≤ K2 ∧ K2 ≤ 13 ∧ Hid (N = D - 1 + ay K + am K K2)) (fun _ m => (13 - intOf m).toNat)
        case atStart => exact ⟨N, 1, rfl, rfl, by omega, by omega, by show _ = _; rw [am_one, HN.out]; omega⟩
        case round =>
          obtain ⟨N2, K2, rfl, rfl, j0, j1, HN2⟩ := hrel
          have a0 := am_bd K j0 j1
          have Ke := ay_eq (y := K) (by omega)
          have M0 : 0 ≤ N2 := by have := HN2.out; omega
          have M1 : N2 ≤ 80000 := by have := HN2.out; omega
          clear Ke
          by_cases hl2 : K2 ≤ 12
          · have st := am_step K (m := K2)
            have de := dd_eq K j0 hl2
            have db := dm_bd K j0 hl2
            have HN3 : Hid (N2 + dd K K2 = D - 1 + ay K + am K (K2 + 1)) := by show _ = _; have := HN2.out; omega
            have d0 : 0 ≤ dd K K2 := by omega
            have d1 : dd K K2 ≤ 31 := by omega
            clear st de db
            go_wp2_with fail
            refine (days_any K K2 _).mono ?_
            rintro e x ⟨rfl, rfl⟩
            generalize dd K K2 = V at *
            go_wp2_with fail
            go_round
            case rel => exact ⟨N2 + V, K2 + 1, by go_num, by go_num, by omega, by omega, HN3⟩
            case measure => simp [intOf]; omega
          · obtain rfl : K2 = 13 := by omega
            go_wp2_with fail
            go_round
            case rel =>
              refine ⟨N2, K + 1, by go_num, by go_num, by omega, by omega, ?_⟩
              show _ = _
              have := HN2.out; have := ay_succ (y := K) (by omega) (by omega); omega
            case measure => simp [intOf]; omega
      · obtain rfl : K = Y := by omega
        have N0 : 0 ≤ N := by
          have := HN.out; have := ay_mono (y := 2000) (z := K) (by omega) k0
          rw [ay_2000] at this; omega
        have N1 : N ≤ 40000 := by
          have := HN.out; have := ay_eq (y := K) (by omega); omega
        go_wp2_with fail
        go_loop [5, 8] (fun n m => ∃ N K2 : Int, n = .int .i64 N ∧ m = .int .i64 K2 ∧ 1 ≤ K2 ∧ K2 ≤ M ∧ Hid (N = D - 1 + ay K + am K K2)) (fun _ m => (13 - intOf m).toNat)
        case atStart => exact ⟨N, 1, rfl, rfl, by omega, by omega, by show _ = _; rw [am_one, HN.out]; omega⟩
        case round =>
          obtain ⟨N2, K2, rfl, rfl, j0, j1, HN2⟩ := hrel
          have a0 := am_bd K j0 (by omega)
          have Ke := ay_eq (y := K) (by omega)
          have M0 : 0 ≤ N2 := by have := HN2.out; omega
          have M1 : N2 ≤ 80000 := by have := HN2.out; omega
          clear Ke
          by_cases hl2 : K2 < M
          · have st := am_step K (m := K2)
            have de := dd_eq K j0 (by omega)
            have db := dm_bd K j0 (by omega)
            have HN3 : Hid (N2 + dd K K2 = D - 1 + ay K + am K (K2 + 1)) := by show _ = _; have := HN2.out; omega
            have d0 : 0 ≤ dd K K2 := by omega
            have d1 : dd K K2 ≤ 31 := by omega
            clear st de db
            go_wp2_with fail
            refine (days_any K K2 _).mono ?_
            rintro e x ⟨rfl, rfl⟩
            generalize dd K K2 = V at *
            go_wp2_with fail
            go_round
            case rel => exact ⟨N2 + V, K2 + 1, by go_num, by go_num, by omega, by omega, HN3⟩
            case measure => simp [intOf]; omega
          · obtain rfl : K2 = M := by omega
            go_wp2
            go_ret2
            refine ⟨ret_two ?_ rfl, hB⟩
            have := HN2.out
            omega
end Go.Proofs.YtpocbaaogkabeaaDoor.Ro
