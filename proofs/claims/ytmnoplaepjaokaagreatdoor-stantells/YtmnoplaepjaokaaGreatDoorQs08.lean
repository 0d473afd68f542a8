import Derived.Test.YtmnoplaepjaokaaGreatDoorQs07
/- Julian: the document's. -/
namespace Go.Proofs.YtmnoplaepjaokaaGreatDoor.Rj
set_option linter.unusedVariables false
set_option linter.unusedSimpArgs false
open Go.RowKit Lib0 Kb Ca Ld De Oe Hx Rd Ro Rz Pa Te Rt
theorem juL_eq {Y M D : Int} (hy : 0 ≤ Y) (ht : 0 ≤ am Y M + D ∧ am Y M + D ≤ 366) :
    juL Y M D = [dc (Y % 10), dc ((am Y M + D) / 100 % 10), dc ((am Y M + D) / 10 % 10), dc ((am Y M + D) % 10)] := by
  unfold juL prL
  generalize am Y M + D = t at *
  simp only [List.flatMap_cons, List.flatMap_nil, List.append_nil, List.cons_append, List.nil_append]
  rw [show (Y % 10 * 10 + t / 100) / 10 = Y % 10 by omega, show (Y % 10 * 10 + t / 100) % 10 = t / 100 % 10 by omega, show t % 100 / 10 = t / 10 % 10 by omega, show t % 100 % 10 = t % 10 by omega]
set_option maxRecDepth 100000 in
set_option maxHeartbeats 1600000 in
theorem julianr_date (n : Int) (hn : decide (0 ≤ n ∧ n ≤ 3155759999) = false) (w : World) : Calls Tryz.prog 47 #[.int .i64 n] w fun e w' => e = .returned (.tuple #[.string ⟨#[]⟩, .int .i64 80]) ∧ Below w.heap.size w w' := by
  have c := fun x => dater_bad n hn x
  unfold dt at c
  clear hn
  go_enter Tryz.func47, Tryz.ntmps47
  go_wp2_with fail
  refine (c _).mono ?_
  rintro e x ⟨rfl, hb⟩
  go_wp2_with fail
  go_ret2
  refine ⟨rfl, ?_⟩
  first | exact hb | exact keepB hb (below_one _ _)
set_option maxRecDepth 100000 in
set_option maxHeartbeats 3200000 in
theorem julianr_good (n : Int) (h0 : 0 ≤ n) (h1 : n ≤ 3155759999) (w : World) : Calls Tryz.prog 47 #[.int .i64 n] w fun e w' => (∃ Y M D, IsDay (n / 86400) Y M D ∧ e = .returned (.tuple #[.string ⟨(juL Y M D).toArray⟩, .int .i64 0])) ∧ Below w.heap.size w w' := by
  have c := dater_good n h0 h1 w
  obtain ⟨H, hH⟩ : ∃ H, n % 86400 / 3600 = H := ⟨_, rfl⟩
  obtain ⟨I, hI⟩ : ∃ H, n % 3600 / 60 = H := ⟨_, rfl⟩
  obtain ⟨S, hS⟩ : ∃ H, n % 60 = H := ⟨_, rfl⟩
  rw [hH, hI, hS] at c
  clear hH hI hS
  unfold dt at c
  go_enter Tryz.func47, Tryz.ntmps47
  go_wp2_with fail
  refine c.mono ?_
  rintro e x ⟨⟨Y, M, D, hd, rfl⟩, hb⟩
  have dd1 := dm_bd Y hd.m0 hd.m1
  have st := am_step Y (m := M)
  have eM2 := am_bd Y (m := M + 1) (by have := hd.m0; omega) (by have := hd.m1; omega)
  have bD : 1 ≤ D ∧ D ≤ 31 := by have := hd.d0; have := hd.d1; omega
  have eM := am_bd Y hd.m0 (by have := hd.m1; omega)
  have bT : 1 ≤ am Y M + D ∧ am Y M + D ≤ 366 := by have := hd.d0; have := hd.d1; omega
  have y0 := hd.y0
  have y1 := hd.y1
  have m0 := hd.m0
  have m1 := hd.m1
  have hju := juL_eq (Y := Y) (M := M) (D := D) (by omega) (by omega)
  have hfin : Hid (IsDay (n / 86400) Y M D) := hd
  obtain ⟨X, hX⟩ : ∃ X, X = x.alloc (Obj.cells #[.int .i64 Y, .int .i64 M, .int .i64 D, .int .i64 H, .int .i64 I, .int .i64 S] 119) := ⟨_, rfl⟩
  have SX : Six X x.heap.size Y M D H I S := by rw [hX]; exact h1_0 x _
  have BX : Below w.heap.size w X := by rw [hX]; exact keepB hb (below_one _ _)
  have hlt : x.heap.size < X.heap.size := (Array.getElem?_eq_some_iff.1 SX).1
  obtain ⟨r0, r1, r2, r3, r4, r5⟩ := SX.at
  clear c st eM2 hd
  go_wp2_with fail
  rw [← hX]
  clear hX
  go_loop [6, 7] (fun t m => ∃ N K : Int, t = .int .i64 N ∧ m = .int .i64 K ∧ 1 ≤ K ∧ K ≤ M ∧ Hid (N = D + am Y K)) (fun _ m => (13 - intOf m).toNat)
  case atStart => exact ⟨D, 1, rfl, rfl, by omega, by omega, by show _ = _; rw [am_one]; omega⟩
  case round =>
    obtain ⟨N, K, rfl, rfl, j0, j1, HN⟩ := hrel
    have a0 := am_bd Y j0 (by omega)
    have N0 : 0 ≤ N := by have := HN.out; omega
    have N1 : N ≤ 800 := by have := HN.out; omega
    by_cases hl2 : K < M
    · have st := am_step Y (m := K)
      have de := dd_eq Y j0 (by omega)
      have db := dm_bd Y j0 (by omega)
      have HN3 : Hid (N + dd Y K = D + am Y (K + 1)) := by show _ = _; have := HN.out; omega
      have d0 : 0 ≤ dd Y K := by omega
      have d1 : dd Y K ≤ 31 := by omega
      clear st de db
      go_wp2_with fail
      refine (days_any Y K _).mono ?_
      rintro e x ⟨rfl, rfl⟩
      generalize dd Y K = V at *
      go_wp2_with fail
      go_round
      case rel => exact ⟨N + V, K + 1, by go_num, by go_num, by omega, by omega, HN3⟩
      case measure => simp [intOf]; omega
    · obtain rfl : K = M := by omega
      have eN : am Y K + D = N := by have := HN.out; omega
      rw [eN] at hju bT
      have hju' : Hid (juL Y K D = [dc (Y % 10), dc (N / 100 % 10), dc (N / 10 % 10), dc (N % 10)]) := hju
      have c3 := fun y => three_any N (by omega) (by omega) y
      obtain ⟨t1, e1⟩ : ∃ t, dc (N / 100 % 10) = t := ⟨_, rfl⟩
      obtain ⟨t2, e2⟩ : ∃ t, dc (N / 10 % 10) = t := ⟨_, rfl⟩
      obtain ⟨t3, e3⟩ : ∃ t, dc (N % 10) = t := ⟨_, rfl⟩
      rw [e1, e2, e3] at c3 hju'
      clear hju e1 e2 e3 eN HN
      obtain ⟨A, hA⟩ : ∃ A, Y % 10 = A := ⟨_, rfl⟩
      have hA2 : Hid (Y % 10 = A) := hA
      have d1 : 0 ≤ A := by omega
      have d2 : A < 10 := by omega
      have t3 : Y.tmod 10 = A := by rw [Int.tmod_eq_emod_of_nonneg (by omega), hA]
      have t4 : IntKind.i64.wrap (48 + A) = 48 + A := wrap_i64 _ (by omega) (by omega)
      have d5 : IntKind.u8.wrap (48 + A) = 48 + A := wrap_u8 _ (by omega) (by omega)
      clear hA
      have cv : ∀ x : World, (convert 110 9 (.slice (some ⟨x.heap.size, 0, none⟩) 1 1)).run Tryz.prog (x.alloc (Obj.cells #[.int .u8 (48 + A)] 5)) = .ok (.string ⟨#[dc A]⟩) (x.alloc (Obj.cells #[.int .u8 (48 + A)] 5)) := fun x => conv1 d1 d2 (h1_0 x _)
      have cvd : ∀ x : World, (convert 110 9 (.slice (some ⟨x.heap.size, 0, none⟩) 1 1)).run Tryz.prog ((x.alloc (Obj.cells #[.int .u8 (48 + A)] 5)).drew) = .ok (.string ⟨#[dc A]⟩) ((x.alloc (Obj.cells #[.int .u8 (48 + A)] 5)).drew) := fun x => conv1 d1 d2 (h1_0 x _)
      have SXd : Six X.drew x.heap.size Y K D H I S := SX
      have BXd : Below w.heap.size w X.drew := below_drewN BX 1
      have BXa : ∀ o, Below w.heap.size w (X.alloc o).drew := fun o => below_drewN (keepB BX (below_one _ _)) 1
      have hXa : ∀ o, (X.alloc o).drew.heap[X.heap.size]? = some o := fun o => h1_0 X o
      clear r2 r3 r4 r5 eM
      go_wp2_with fail
      go_region_with (first
        | (go_at_call 83; refine (c3 _).mono ?_; rintro e y ⟨rfl, hy⟩; have cvy := conv1 d1 d2 (kept hy (hXa _)); have hy2 := keepB (BXa _) hy; clear hy)
        | (go_at_call 83; refine (c3 _).mono ?_; rintro e y ⟨rfl, hy⟩; have hy2 := keepB BXd hy; have r0y := (SXd.next hy).at.1; clear hy))
      all_goals
        go_wp2
        go_ret2
        refine ⟨⟨Y, K, D, hfin.out, ?_⟩, by first | exact hy2 | exact keepB hy2 (below_one _ _)⟩
        rw [hju'.out, hA2.out]
        show Ending.returned (.tuple #[.string ((⟨#[dc A]⟩ : ByteArray) ++ ⟨#[_, _, _]⟩), .int .i64 0]) = _
        rw [cat_mk]
        rfl
end Go.Proofs.YtmnoplaepjaokaaGreatDoor.Rj
