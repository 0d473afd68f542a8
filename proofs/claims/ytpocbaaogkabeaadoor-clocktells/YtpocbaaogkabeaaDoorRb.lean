/- Business: the document's. -/
import Derived.Test.YtpocbaaogkabeaaDoorRj
import Derived.Test.YtpocbaaogkabeaaDoorBu
namespace Go.Proofs.YtpocbaaogkabeaaDoor.Rb
set_option linter.unusedVariables false
set_option linter.unusedSimpArgs false
open Go.RowKit Lib0 Kb Ca Ld De Oe Hx Rd Ro Rz Pa Te Rt Bu
set_option maxRecDepth 100000 in
set_option maxHeartbeats 1600000 in
theorem businessr_date (n h : Int) (hn : okM n = false) (w : World) : Calls Tryd.prog 23 #[.int .i64 n, .int .i64 h] w fun e w' => e = .returned (.tuple #[.string ⟨#[]⟩, .int .i64 80]) ∧ Below w.heap.size w w' := by
  have c := fun x => dater_bad n hn x
  unfold dt at c
  clear hn
  go_enter Tryd.func23, Tryd.ntmps23
  go_wp2_with fail
  refine (c _).mono ?_
  rintro e x ⟨rfl, hb⟩
  go_wp2_with fail
  go_ret2
  refine ⟨rfl, ?_⟩
  first | exact hb | exact keepB hb (below_one _ _)
set_option maxRecDepth 100000 in
set_option maxHeartbeats 1600000 in
theorem businessr_hour (n h : Int) (hn : okM n = true) (hh : decide (0 ≤ h ∧ h ≤ 23) = false) (w : World) : Calls Tryd.prog 23 #[.int .i64 n, .int .i64 h] w fun e w' => e = .returned (.tuple #[.string ⟨#[]⟩, .int .i64 1]) ∧ Below w.heap.size w w' := by
  obtain ⟨h0, h1⟩ := of_decide_eq_true hn
  have hk := of_decide_eq_false hh
  have c := dater_good n h0 h1 w
  unfold dt at c
  clear hn hh
  go_enter Tryd.func23, Tryd.ntmps23
  go_wp2_with fail
  refine c.mono ?_
  rintro e x ⟨⟨Y, M, D, hd, rfl⟩, hb⟩
  by_cases k0 : h < 0
  · go_wp2_with fail
    go_ret2
    exact ⟨rfl, keepB hb (below_one _ _)⟩
  · have k1 : 23 < h := by omega
    go_wp2_with fail
    go_ret2
    exact ⟨rfl, keepB hb (below_one _ _)⟩
/-- the region's end: two and two -/
theorem cat4 {M D : Int} {pM qM pD qD : UInt8} (eM : dc (M / 10) = pM) (fM : dc (M % 10) = qM) (eD : dc (D / 10) = pD) (fD : dc (D % 10) = qD) : (⟨#[pM, qM]⟩ : ByteArray) ++ ⟨#[pD, qD]⟩ = ⟨(prL [M, D]).toArray⟩ := by
  rw [cat_mk]
  simp [prL, eM, eD, fM, fD]
set_option maxRecDepth 100000 in
set_option maxHeartbeats 1600000 in
theorem businessr_same (n h : Int) (hn : okM n = true) (hh : decide (0 ≤ h ∧ h ≤ 23) = true) (hs : ¬ (0 < h ∧ h ≤ n % 86400 / 3600)) (w : World) : Calls Tryd.prog 23 #[.int .i64 n, .int .i64 h] w fun e w' => (∃ Y M D, IsDay (n / 86400) Y M D ∧ e = .returned (.tuple #[.string ⟨(prL [M, D]).toArray⟩, .int .i64 0])) ∧ Below w.heap.size w w' := by
  obtain ⟨h0, h1⟩ := of_decide_eq_true hn
  obtain ⟨k0, k1⟩ := of_decide_eq_true hh
  have c := dater_good n h0 h1 w
  obtain ⟨H, hH⟩ : ∃ H, n % 86400 / 3600 = H := ⟨_, rfl⟩
  obtain ⟨I, hI⟩ : ∃ H, n % 3600 / 60 = H := ⟨_, rfl⟩
  obtain ⟨S, hS⟩ : ∃ H, n % 60 = H := ⟨_, rfl⟩
  rw [hH] at hs
  rw [hH, hI, hS] at c
  clear hH hI hS
  unfold dt at c
  clear hn hh
  go_enter Tryd.func23, Tryd.ntmps23
  go_wp2_with fail
  refine c.mono ?_
  rintro e x ⟨⟨Y, M, D, hd, rfl⟩, hb⟩
  have dd1 := dm_bd Y hd.m0 hd.m1
  have bM : 0 ≤ M ∧ M < 100 := by have := hd.m0; have := hd.m1; omega
  have bD : 0 ≤ D ∧ D < 100 := by have := hd.d0; have := hd.d1; omega
  obtain ⟨pM, eM⟩ : ∃ t, dc (M / 10) = t := ⟨_, rfl⟩
  obtain ⟨qM, fM⟩ : ∃ t, dc (M % 10) = t := ⟨_, rfl⟩
  obtain ⟨pD, eD⟩ : ∃ t, dc (D / 10) = t := ⟨_, rfl⟩
  obtain ⟨qD, fD⟩ : ∃ t, dc (D % 10) = t := ⟨_, rfl⟩
  have cM := fun y => two_p M bM y
  have cD := fun y => two_p D bD y
  rw [eM, fM] at cM
  rw [eD, fD] at cD
  have hfin : Hid ((⟨#[pM, qM]⟩ : ByteArray) ++ ⟨#[pD, qD]⟩ = ⟨(prL [M, D]).toArray⟩) := cat4 eM fM eD fD
  clear eM eD fM fD
  obtain ⟨X, hX⟩ : ∃ X, X = x.alloc (Obj.cells #[.int .i64 Y, .int .i64 M, .int .i64 D, .int .i64 H, .int .i64 I, .int .i64 S] 23) := ⟨_, rfl⟩
  have SX : Six X x.heap.size Y M D H I S := by rw [hX]; exact h1_0 x _
  have BX : Below w.heap.size w X := by rw [hX]; exact keepB hb (below_one _ _)
  have hlt : x.heap.size < X.heap.size := (Array.getElem?_eq_some_iff.1 SX).1
  obtain ⟨-, r1, r2, r3, -, -⟩ := SX.at
  clear c bM bD dd1
  by_cases hz : 0 < h
  · have hz1 : decide (0 < h) = true := decide_eq_true hz
    have hz2 : decide (h ≤ H) = false := decide_eq_false (by omega)
    have hz3 : H < h := by omega
    go_wp2_with fail
    rw [← hX]
    refine Ql.region_cl (by kernel_rfl) (by kernel_rfl) ?_
    repeat (refine wpQuiet_step (fun K hK => ?_); first
      | (refine Ql.q_cell (by rfl) 3 _ rfl x.heap.size 1 rfl _ r1 hlt Tryd.isAgg3 (hK _ ?_); clear hK K)
      | (refine Ql.q_cell (by rfl) 3 _ rfl x.heap.size 2 rfl _ r2 hlt Tryd.isAgg3 (hK _ ?_); clear hK K)
      | (go_simp; apply Exists.intro; refine ⟨fun y hy => ?_, hK _ ?_⟩; (first
          | (go_at_call_of 38 (Value.int .i64 M); exact Ql.cl_of hy (cM y))
          | (go_at_call_of 38 (Value.int .i64 D); exact Ql.cl_of hy (cD y))); clear hK K)
      | (go_simp; refine hK _ ?_; clear hK K)
      | (go_simp; refine ⟨_, fun _ _ => rfl, hK _ ?_⟩; clear hK K)
      | (go_simp; refine ⟨_, fun _ _ => ⟨rfl, rfl⟩, hK _ ?_⟩; clear hK K))
    refine wpQuiet_nil ?_
    intro y1 hy1
    replace hy1 : Below X.heap.size X y1 := hy1
    have B1 := keepB BX hy1
    clear r1 r2 cM cD
    go_wp2
    go_ret2
    exact ⟨⟨Y, M, D, hd, by rw [← hfin.out]; rfl⟩, B1⟩
  · have hz1 : decide (0 < h) = false := decide_eq_false hz
    go_wp2_with fail
    rw [← hX]
    refine Ql.region_cl (by kernel_rfl) (by kernel_rfl) ?_
    repeat (refine wpQuiet_step (fun K hK => ?_); first
      | (refine Ql.q_cell (by rfl) 3 _ rfl x.heap.size 1 rfl _ r1 hlt Tryd.isAgg3 (hK _ ?_); clear hK K)
      | (refine Ql.q_cell (by rfl) 3 _ rfl x.heap.size 2 rfl _ r2 hlt Tryd.isAgg3 (hK _ ?_); clear hK K)
      | (go_simp; apply Exists.intro; refine ⟨fun y hy => ?_, hK _ ?_⟩; (first
          | (go_at_call_of 38 (Value.int .i64 M); exact Ql.cl_of hy (cM y))
          | (go_at_call_of 38 (Value.int .i64 D); exact Ql.cl_of hy (cD y))); clear hK K)
      | (go_simp; refine hK _ ?_; clear hK K)
      | (go_simp; refine ⟨_, fun _ _ => rfl, hK _ ?_⟩; clear hK K)
      | (go_simp; refine ⟨_, fun _ _ => ⟨rfl, rfl⟩, hK _ ?_⟩; clear hK K))
    refine wpQuiet_nil ?_
    intro y1 hy1
    replace hy1 : Below X.heap.size X y1 := hy1
    have B1 := keepB BX hy1
    clear r1 r2 cM cD
    go_wp2
    go_ret2
    exact ⟨⟨Y, M, D, hd, by rw [← hfin.out]; rfl⟩, B1⟩
set_option maxRecDepth 100000 in
set_option maxHeartbeats 1600000 in
theorem businessr_late (n h : Int) (hn : okM n = true) (hh : decide (0 ≤ h ∧ h ≤ 23) = true) (hs : 0 < h ∧ h ≤ n % 86400 / 3600) (hn2 : okM (n + 86400) = false) (w : World) : Calls Tryd.prog 23 #[.int .i64 n, .int .i64 h] w fun e w' => e = .returned (.tuple #[.string ⟨#[]⟩, .int .i64 80]) ∧ Below w.heap.size w w' := by
  have c2 := fun x => dater_bad (n + 86400) hn2 x
  obtain ⟨h0, h1⟩ := of_decide_eq_true hn
  obtain ⟨k0, k1⟩ := of_decide_eq_true hh
  have c := dater_good n h0 h1 w
  obtain ⟨H, hH⟩ : ∃ H, n % 86400 / 3600 = H := ⟨_, rfl⟩
  obtain ⟨I, hI⟩ : ∃ H, n % 3600 / 60 = H := ⟨_, rfl⟩
  obtain ⟨S, hS⟩ : ∃ H, n % 60 = H := ⟨_, rfl⟩
  rw [hH] at hs
  rw [hH, hI, hS] at c
  clear hH hI hS
  obtain ⟨s0, s1⟩ := hs
  unfold dt at c c2
  clear hn hh hn2
  go_enter Tryd.func23, Tryd.ntmps23
  go_wp2_with fail
  refine c.mono ?_
  rintro e x ⟨⟨Y, M, D, hd, rfl⟩, hb⟩
  have S1 : Six (x.alloc (Obj.cells #[.int .i64 Y, .int .i64 M, .int .i64 D, .int .i64 H, .int .i64 I, .int .i64 S] 23)) x.heap.size Y M D H I S := h1_0 x _
  have hbx : ∀ o, Below w.heap.size w (x.alloc o) := fun o => keepB hb (below_one _ _)
  go_wp2_with fail
  refine (c2 _).mono ?_
  rintro e y ⟨rfl, hy⟩
  have S2 := S1.next hy
  have hy2 := keepB (hbx _) hy
  have hxw : w.heap.size ≤ x.heap.size := hb.size
  have B6 := below_set6 hy2 hxw 0 0 0 0 0 0
  obtain ⟨o0, o1, o2, o3, o4, o5⟩ := S2.at
  obtain ⟨z0, z1, z2, z3, z4, z5⟩ := S2.free
  clear S1 S2 c2
  go_wp2_with fail
  go_ret2
  exact ⟨rfl, B6⟩
set_option maxRecDepth 100000 in
set_option maxHeartbeats 1600000 in
theorem businessr_next (n h : Int) (hn : okM n = true) (hh : decide (0 ≤ h ∧ h ≤ 23) = true) (hs : 0 < h ∧ h ≤ n % 86400 / 3600) (hn2 : okM (n + 86400) = true) (w : World) : Calls Tryd.prog 23 #[.int .i64 n, .int .i64 h] w fun e w' => (∃ Y M D, IsDay ((n + 86400) / 86400) Y M D ∧ e = .returned (.tuple #[.string ⟨(prL [M, D]).toArray⟩, .int .i64 0])) ∧ Below w.heap.size w w' := by
  obtain ⟨h2, h3⟩ := of_decide_eq_true hn2
  have c2 := fun x => dater_good (n + 86400) h2 h3 x
  obtain ⟨H', hH⟩ : ∃ H, (n + 86400) % 86400 / 3600 = H := ⟨_, rfl⟩
  obtain ⟨I', hI⟩ : ∃ H, (n + 86400) % 3600 / 60 = H := ⟨_, rfl⟩
  obtain ⟨S', hS⟩ : ∃ H, (n + 86400) % 60 = H := ⟨_, rfl⟩
  rw [hH, hI, hS] at c2
  clear hH hI hS
  obtain ⟨h0, h1⟩ := of_decide_eq_true hn
  obtain ⟨k0, k1⟩ := of_decide_eq_true hh
  have c := dater_good n h0 h1 w
  obtain ⟨H, hH⟩ : ∃ H, n % 86400 / 3600 = H := ⟨_, rfl⟩
  obtain ⟨I, hI⟩ : ∃ H, n % 3600 / 60 = H := ⟨_, rfl⟩
  obtain ⟨S, hS⟩ : ∃ H, n % 60 = H := ⟨_, rfl⟩
  rw [hH] at hs
  rw [hH, hI, hS] at c
  clear hH hI hS
  obtain ⟨s0, s1⟩ := hs
  unfold dt at c c2
  clear hn hh hn2
  go_enter Tryd.func23, Tryd.ntmps23
  go_wp2_with fail
  refine c.mono ?_
  rintro e x ⟨⟨Y, M, D, hd, rfl⟩, hb⟩
  have S1 : Six (x.alloc (Obj.cells #[.int .i64 Y, .int .i64 M, .int .i64 D, .int .i64 H, .int .i64 I, .int .i64 S] 23)) x.heap.size Y M D H I S := h1_0 x _
  have hbx : ∀ o, Below w.heap.size w (x.alloc o) := fun o => keepB hb (below_one _ _)
  go_wp2_with fail
  refine (c2 _).mono ?_
  rintro e y ⟨⟨Y', M', D', hd', rfl⟩, hy⟩
  have S2 := S1.next hy
  have hy2 := keepB (hbx _) hy
  have hxw : w.heap.size ≤ x.heap.size := hb.size
  have BX0 := below_set6 hy2 hxw Y' M' D' H' I' S'
  have SX0 := S2.put Y' M' D' H' I' S'
  obtain ⟨o0, o1, o2, o3, o4, o5⟩ := S2.at
  obtain ⟨z0, z1, z2, z3, z4, z5⟩ := S2.free
  have dd1 := dm_bd Y' hd'.m0 hd'.m1
  have bM : 0 ≤ M' ∧ M' < 100 := by have := hd'.m0; have := hd'.m1; omega
  have bD : 0 ≤ D' ∧ D' < 100 := by have := hd'.d0; have := hd'.d1; omega
  obtain ⟨pM, eM⟩ : ∃ t, dc (M' / 10) = t := ⟨_, rfl⟩
  obtain ⟨qM, fM⟩ : ∃ t, dc (M' % 10) = t := ⟨_, rfl⟩
  obtain ⟨pD, eD⟩ : ∃ t, dc (D' / 10) = t := ⟨_, rfl⟩
  obtain ⟨qD, fD⟩ : ∃ t, dc (D' % 10) = t := ⟨_, rfl⟩
  have cM := fun y => two_p M' bM y
  have cD := fun y => two_p D' bD y
  rw [eM, fM] at cM
  rw [eD, fD] at cD
  have hfin : Hid ((⟨#[pM, qM]⟩ : ByteArray) ++ ⟨#[pD, qD]⟩ = ⟨(prL [M', D']).toArray⟩) := cat4 eM fM eD fD
  clear eM eD fM fD
  clear S1 S2 c2 c bM bD dd1
  go_wp2_with fail
  obtain ⟨X, hX⟩ : ∃ X, X = set6 y x.heap.size Y' M' D' H' I' S' := ⟨_, rfl⟩
  have SX : Six X x.heap.size Y' M' D' H' I' S' := by rw [hX]; exact SX0
  have BX : Below w.heap.size w X := by rw [hX]; exact BX0
  have hlt : x.heap.size < X.heap.size := (Array.getElem?_eq_some_iff.1 SX).1
  obtain ⟨-, r1, r2, -, -, -⟩ := SX.at
  have hX2 := hX
  unfold set6 at hX2
  rw [← hX2]
  clear hX2 hX SX0 BX0 o0 o1 o2 o3 o4 o5 z0 z1 z2 z3 z4 z5
  refine Ql.region_cl (by kernel_rfl) (by kernel_rfl) ?_
  repeat (refine wpQuiet_step (fun K hK => ?_); first
    | (refine Ql.q_cell (by rfl) 3 _ rfl x.heap.size 1 rfl _ r1 hlt Tryd.isAgg3 (hK _ ?_); clear hK K)
    | (refine Ql.q_cell (by rfl) 3 _ rfl x.heap.size 2 rfl _ r2 hlt Tryd.isAgg3 (hK _ ?_); clear hK K)
    | (go_simp; apply Exists.intro; refine ⟨fun y hy => ?_, hK _ ?_⟩; (first
        | (go_at_call_of 38 (Value.int .i64 M'); exact Ql.cl_of hy (cM y))
        | (go_at_call_of 38 (Value.int .i64 D'); exact Ql.cl_of hy (cD y))); clear hK K)
    | (go_simp; refine hK _ ?_; clear hK K)
    | (go_simp; refine ⟨_, fun _ _ => rfl, hK _ ?_⟩; clear hK K)
    | (go_simp; refine ⟨_, fun _ _ => ⟨rfl, rfl⟩, hK _ ?_⟩; clear hK K))
  refine wpQuiet_nil ?_
  intro y1 hy1
  replace hy1 : Below X.heap.size X y1 := hy1
  have B1 := keepB BX hy1
  clear r1 r2 cM cD
  go_wp2
  go_ret2
  exact ⟨⟨Y', M', D', hd', by rw [← hfin.out]; rfl⟩, B1⟩
end Go.Proofs.YtpocbaaogkabeaaDoor.Rb
