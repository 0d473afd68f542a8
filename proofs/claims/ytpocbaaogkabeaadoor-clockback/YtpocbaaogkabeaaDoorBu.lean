/- Business: the program's. -/
import Derived.Test.YtpocbaaogkabeaaDoorTe
namespace Go.Proofs.YtpocbaaogkabeaaDoor.Bu
set_option linter.unusedVariables false
set_option linter.unusedSimpArgs false
open Go.RowKit Kb Ca Ld De Oe Hx Dy Dz Pa Te
def okM (n : Int) : Bool := decide (0 ≤ n ∧ n ≤ 3155759999)
/-- the moment whose day counts -/
def dayN (n h : Int) : Int := if 0 < h ∧ h ≤ n % 86400 / 3600 then n + 86400 else n
set_option maxRecDepth 100000 in
set_option maxHeartbeats 1600000 in
theorem business_date (n h : Int) (hn : okM n = false) (w : World) : Calls Tryd.prog 22 #[.int .i64 n, .int .i64 h] w fun e w' => e = .returned (.tuple #[.string ⟨#[]⟩, .int .i64 80]) ∧ Below w.heap.size w w' := by
  have c := fun x => date_bad n hn x
  unfold dt at c
  clear hn
  go_enter Tryd.func22, Tryd.ntmps22
  go_wp2_with fail
  refine (c _).mono ?_
  rintro e x ⟨rfl, hb⟩
  go_wp2_with fail
  go_ret2
  refine ⟨rfl, ?_⟩
  first | exact hb | exact keepB hb (below_one _ _)
set_option maxRecDepth 100000 in
set_option maxHeartbeats 1600000 in
theorem business_hour (n h : Int) (hn : okM n = true) (hh : decide (0 ≤ h ∧ h ≤ 23) = false) (w : World) (hT : Tab w) : Calls Tryd.prog 22 #[.int .i64 n, .int .i64 h] w fun e w' => e = .returned (.tuple #[.string ⟨#[]⟩, .int .i64 1]) ∧ Below w.heap.size w w' := by
  obtain ⟨h0, h1⟩ := of_decide_eq_true hn
  have c := date_good n h0 h1 w hT
  have cw := fun x => within_b h 0 23 false hh x
  unfold dt at c
  clear hn hh
  go_enter Tryd.func22, Tryd.ntmps22
  go_wp2_with fail
  refine c.mono ?_
  rintro e x ⟨⟨Y, M, D, hd, rfl⟩, hb⟩
  go_wp2_with fail
  refine (cw _).mono ?_
  rintro e y ⟨rfl, rfl⟩
  go_wp2_with fail
  go_ret2
  exact ⟨rfl, keepB hb (below_one _ _)⟩
set_option maxRecDepth 100000 in
set_option maxHeartbeats 1600000 in
theorem business_same (n h : Int) (hn : okM n = true) (hh : decide (0 ≤ h ∧ h ≤ 23) = true) (hs : ¬ (0 < h ∧ h ≤ n % 86400 / 3600)) (w : World) (hT : Tab w) : Calls Tryd.prog 22 #[.int .i64 n, .int .i64 h] w fun e w' => (∃ Y M D, IsDay (n / 86400) Y M D ∧ e = .returned (.tuple #[.string ⟨(prL [M, D]).toArray⟩, .int .i64 0])) ∧ Below w.heap.size w w' := by
  obtain ⟨h0, h1⟩ := of_decide_eq_true hn
  obtain ⟨k0, k1⟩ := of_decide_eq_true hh
  have c := date_good n h0 h1 w hT
  have cw := fun x => within_b h 0 23 true hh x
  obtain ⟨H, hH⟩ : ∃ H, n % 86400 / 3600 = H := ⟨_, rfl⟩
  obtain ⟨I, hI⟩ : ∃ H, n % 3600 / 60 = H := ⟨_, rfl⟩
  obtain ⟨S, hS⟩ : ∃ H, n % 60 = H := ⟨_, rfl⟩
  rw [hH] at hs
  rw [hH, hI, hS] at c
  clear hH hI hS
  unfold dt at c
  clear hn hh
  go_enter Tryd.func22, Tryd.ntmps22
  go_wp2_with fail
  refine c.mono ?_
  rintro e x ⟨⟨Y, M, D, hd, rfl⟩, hb⟩
  have dd1 := dm_bd Y hd.m0 hd.m1
  have bM : 0 ≤ M ∧ M < 100 := by have := hd.m0; have := hd.m1; omega
  have bD : 0 ≤ D ∧ D < 100 := by have := hd.d0; have := hd.d1; omega
  have hq : ∀ o1 k o2, (((x.alloc o1).drewN k).alloc o2).heap[x.heap.size + 1]? = some o2 := fun o1 k o2 => h2_1 x o1 o2
  have hbx : ∀ o, Below w.heap.size w (x.alloc o) := fun o => keepB hb (below_one _ _)
  go_wp2_with fail
  refine (cw _).mono ?_
  rintro e y ⟨rfl, rfl⟩
  by_cases hz : h = 0
  · subst hz
    go_wp2_with fail
    all_goals
      first
        | (refine (pairs2 (h2_1 x _ _) bM bD).mono ?_; rintro e y ⟨rfl, hy⟩; have hy2 := keepB (keepB (hbx _) (below_one _ _)) hy)
        | (refine (pairs2 (hq _ _ _) bM bD).mono ?_; rintro e y ⟨rfl, hy⟩; have hy2 := keepB (keepB (below_drewN (hbx _) _) (below_one _ _)) hy)
      go_wp2
      go_ret2
      exact ⟨⟨Y, M, D, hd, rfl⟩, hy2⟩
  · have hz1 : (h == 0) = false := by simp [hz]
    have hz2 : decide (h ≤ H) = false := decide_eq_false (by omega)
    have hz3 : H < h := by omega
    go_wp2_with fail
    all_goals
      refine (pairs2 (h2_1 x _ _) bM bD).mono ?_
      rintro e y ⟨rfl, hy⟩
      have hy2 := keepB (keepB (hbx _) (below_one _ _)) hy
      go_wp2
      go_ret2
      exact ⟨⟨Y, M, D, hd, rfl⟩, hy2⟩
set_option maxRecDepth 100000 in
set_option maxHeartbeats 1600000 in
theorem business_late (n h : Int) (hn : okM n = true) (hh : decide (0 ≤ h ∧ h ≤ 23) = true) (hs : 0 < h ∧ h ≤ n % 86400 / 3600) (hn2 : okM (n + 86400) = false) (w : World) (hT : Tab w) : Calls Tryd.prog 22 #[.int .i64 n, .int .i64 h] w fun e w' => e = .returned (.tuple #[.string ⟨#[]⟩, .int .i64 80]) ∧ Below w.heap.size w w' := by
  obtain ⟨h0, h1⟩ := of_decide_eq_true hn
  obtain ⟨k0, k1⟩ := of_decide_eq_true hh
  have c := date_good n h0 h1 w hT
  have c2 := fun x => date_bad (n + 86400) hn2 x
  have cw := fun x => within_b h 0 23 true hh x
  obtain ⟨H, hH⟩ : ∃ H, n % 86400 / 3600 = H := ⟨_, rfl⟩
  obtain ⟨I, hI⟩ : ∃ H, n % 3600 / 60 = H := ⟨_, rfl⟩
  obtain ⟨S, hS⟩ : ∃ H, n % 60 = H := ⟨_, rfl⟩
  rw [hH] at hs
  rw [hH, hI, hS] at c
  clear hH hI hS
  obtain ⟨s0, s1⟩ := hs
  have hz1 : (h == 0) = false := by simp; omega
  unfold dt at c c2
  clear hn hh hn2
  go_enter Tryd.func22, Tryd.ntmps22
  go_wp2_with fail
  refine c.mono ?_
  rintro e x ⟨⟨Y, M, D, hd, rfl⟩, hb⟩
  have S1 : Six (x.alloc (Obj.cells #[.int .i64 Y, .int .i64 M, .int .i64 D, .int .i64 H, .int .i64 I, .int .i64 S] 23)) x.heap.size Y M D H I S := h1_0 x _
  have hbx : ∀ o, Below w.heap.size w (x.alloc o) := fun o => keepB hb (below_one _ _)
  go_wp2_with fail
  refine (cw _).mono ?_
  rintro e y ⟨rfl, rfl⟩
  go_wp2_with fail
  refine (c2 _).mono ?_
  rintro e y ⟨rfl, hy⟩
  have S2 := S1.next hy
  have hy2 := keepB (hbx _) hy
  have hxw : w.heap.size ≤ x.heap.size := hb.size
  have B6 := below_set6 hy2 hxw 0 0 0 0 0 0
  obtain ⟨o0, o1, o2, o3, o4, o5⟩ := S2.at
  obtain ⟨z0, z1, z2, z3, z4, z5⟩ := S2.free
  clear S1 S2 c2 cw
  go_wp2_with fail
  go_ret2
  exact ⟨rfl, B6⟩
set_option maxRecDepth 100000 in
set_option maxHeartbeats 1600000 in
theorem business_next (n h : Int) (hn : okM n = true) (hh : decide (0 ≤ h ∧ h ≤ 23) = true) (hs : 0 < h ∧ h ≤ n % 86400 / 3600) (hn2 : okM (n + 86400) = true) (w : World) (hT : Tab w) : Calls Tryd.prog 22 #[.int .i64 n, .int .i64 h] w fun e w' => (∃ Y M D, IsDay ((n + 86400) / 86400) Y M D ∧ e = .returned (.tuple #[.string ⟨(prL [M, D]).toArray⟩, .int .i64 0])) ∧ Below w.heap.size w w' := by
  obtain ⟨h0, h1⟩ := of_decide_eq_true hn
  obtain ⟨h2, h3⟩ := of_decide_eq_true hn2
  obtain ⟨k0, k1⟩ := of_decide_eq_true hh
  have c := date_good n h0 h1 w hT
  have c2 := fun x hT => date_good (n + 86400) h2 h3 x hT
  have cw := fun x => within_b h 0 23 true hh x
  obtain ⟨H, hH⟩ : ∃ H, n % 86400 / 3600 = H := ⟨_, rfl⟩
  obtain ⟨I, hI⟩ : ∃ H, n % 3600 / 60 = H := ⟨_, rfl⟩
  obtain ⟨S, hS⟩ : ∃ H, n % 60 = H := ⟨_, rfl⟩
  rw [hH] at hs
  rw [hH, hI, hS] at c
  clear hH hI hS
  obtain ⟨H', hH⟩ : ∃ H, (n + 86400) % 86400 / 3600 = H := ⟨_, rfl⟩
  obtain ⟨I', hI⟩ : ∃ H, (n + 86400) % 3600 / 60 = H := ⟨_, rfl⟩
  obtain ⟨S', hS⟩ : ∃ H, (n + 86400) % 60 = H := ⟨_, rfl⟩
  rw [hH, hI, hS] at c2
  clear hH hI hS
  obtain ⟨s0, s1⟩ := hs
  have hz1 : (h == 0) = false := by simp; omega
  unfold dt at c c2
  clear hn hh hn2
  go_enter Tryd.func22, Tryd.ntmps22
  go_wp2_with fail
  refine c.mono ?_
  rintro e x ⟨⟨Y, M, D, hd, rfl⟩, hb⟩
  have S1 : Six (x.alloc (Obj.cells #[.int .i64 Y, .int .i64 M, .int .i64 D, .int .i64 H, .int .i64 I, .int .i64 S] 23)) x.heap.size Y M D H I S := h1_0 x _
  have hbx : ∀ o, Below w.heap.size w (x.alloc o) := fun o => keepB hb (below_one _ _)
  go_wp2_with fail
  refine (cw _).mono ?_
  rintro e y ⟨rfl, rfl⟩
  go_wp2_with fail
  refine (c2 _ (hT.next (hbx _))).mono ?_
  rintro e y ⟨⟨Y', M', D', hd', rfl⟩, hy⟩
  have S2 := S1.next hy
  have hy2 := keepB (hbx _) hy
  have hxw : w.heap.size ≤ x.heap.size := hb.size
  have B6 := below_set6 hy2 hxw Y' M' D' H' I' S'
  have hxy : x.heap.size < y.heap.size := (Array.getElem?_eq_some_iff.1 S2).1
  obtain ⟨o0, o1, o2, o3, o4, o5⟩ := S2.at
  obtain ⟨z0, z1, z2, z3, z4, z5⟩ := S2.free
  have dd1 := dm_bd Y' hd'.m0 hd'.m1
  have bM : 0 ≤ M' ∧ M' < 100 := by have := hd'.m0; have := hd'.m1; omega
  have bD : 0 ≤ D' ∧ D' < 100 := by have := hd'.d0; have := hd'.d1; omega
  have hq : ∀ o, ((set6 y x.heap.size Y' M' D' H' I' S').alloc o).heap[y.heap.size]? = some o := fun o => by
    have := h1_0 (set6 y x.heap.size Y' M' D' H' I' S') o
    simpa [World.setCell] using this
  clear S1 S2 c2 cw
  go_wp2_with fail
  refine (pairs2 (hq _) bM bD).mono ?_
  rintro e v ⟨rfl, hv⟩
  have hy3 := keepB (keepB B6 (below_one _ _)) hv
  go_wp2
  go_ret2
  exact ⟨⟨Y', M', D', hd', rfl⟩, hy3⟩
end Go.Proofs.YtpocbaaogkabeaaDoor.Bu
