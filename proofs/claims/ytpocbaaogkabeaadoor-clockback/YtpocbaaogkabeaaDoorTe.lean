/- Weekday, Stamp, Julian, Business: the program's. -/
import Derived.Test.YtpocbaaogkabeaaDoorPa
namespace Go.Proofs.YtpocbaaogkabeaaDoor.Te
set_option linter.unusedVariables false
set_option linter.unusedSimpArgs false
open Go.RowKit Kb Ca Ld De Oe Hx Dy Dz Pa
theorem pairs5 {x : World} {g : Nat} {a b c d e : Int} {t : TypeId} (hg : x.heap[g]? = some (.cells #[.int .i64 a, .int .i64 b, .int .i64 c, .int .i64 d, .int .i64 e] t)) (ha : 0 ≤ a ∧ a < 100) (hb : 0 ≤ b ∧ b < 100) (hc : 0 ≤ c ∧ c < 100) (hd : 0 ≤ d ∧ d < 100) (he : 0 ≤ e ∧ e < 100) :
    Calls Tryd.prog 37 #[.slice (some ⟨g, 0, none⟩) 5 5] x fun r w' => r = .returned (.string ⟨(prL [a, b, c, d, e]).toArray⟩) ∧ Below x.heap.size x w' := by
  refine pairs_any [a, b, c, d, e] ?_ (by simp) g x (Array.getElem?_eq_some_iff.1 hg).1 ?_
  · intro i hi
    rcases i with _ | _ | _ | _ | _ | i
    · exact ha
    · exact hb
    · exact hc
    · exact hd
    · exact he
    · exact absurd hi (by simp)
  · intro i hi
    rcases i with _ | _ | _ | _ | _ | i
    all_goals first | (simp [World.cell?, hg]; done) | exact absurd hi (by simp)
theorem pairs2 {x : World} {g : Nat} {a b : Int} {t : TypeId} (hg : x.heap[g]? = some (.cells #[.int .i64 a, .int .i64 b] t)) (ha : 0 ≤ a ∧ a < 100) (hb : 0 ≤ b ∧ b < 100) :
    Calls Tryd.prog 37 #[.slice (some ⟨g, 0, none⟩) 2 2] x fun r w' => r = .returned (.string ⟨(prL [a, b]).toArray⟩) ∧ Below x.heap.size x w' := by
  refine pairs_any [a, b] ?_ (by simp) g x (Array.getElem?_eq_some_iff.1 hg).1 ?_
  · intro i hi
    rcases i with _ | _ | i
    · exact ha
    · exact hb
    · exact absurd hi (by simp)
  · intro i hi
    rcases i with _ | _ | i
    all_goals first | (simp [World.cell?, hg]; done) | exact absurd hi (by simp)
/-- its day of the week -/
def wkV (n : Int) : Int := if decide (0 ≤ n ∧ n ≤ 3155759999) = true then (n / 86400 + 5) % 7 + 1 else 0
def mE (n : Int) : Int := if decide (0 ≤ n ∧ n ≤ 3155759999) = true then 0 else 80
set_option maxRecDepth 100000 in
set_option maxHeartbeats 1600000 in
theorem weekday_any (n : Int) (w : World) : Calls Tryd.prog 16 #[.int .i64 n] w fun e w' => e = .returned (.tuple #[.int .i64 (wkV n), .int .i64 (mE n)]) ∧ w' = w := by
  have c := fun x => isMoment_any n x
  unfold wkV mE
  cases hd : decide (0 ≤ n ∧ n ≤ 3155759999)
  · rw [hd] at c
    go_enter Tryd.func16, Tryd.ntmps16
    go_wp2_with fail
    refine (c _).mono ?_
    rintro e x ⟨rfl, rfl⟩
    go_wp2
    go_ret2
    exact ⟨rfl, rfl⟩
  · rw [hd] at c
    obtain ⟨h0, h1⟩ := of_decide_eq_true hd
    clear hd
    go_enter Tryd.func16, Tryd.ntmps16
    go_wp2_with fail
    refine (c _).mono ?_
    rintro e x ⟨rfl, rfl⟩
    go_wp2
    go_ret2
    refine ⟨ret_two ?_ rfl, rfl⟩
    simp
    try omega
set_option maxRecDepth 100000 in
set_option maxHeartbeats 1600000 in
theorem stamp_date (n : Int) (hn : decide (0 ≤ n ∧ n ≤ 3155759999) = false) (w : World) : Calls Tryd.prog 18 #[.int .i64 n] w fun e w' => e = .returned (.tuple #[.string ⟨#[]⟩, .int .i64 80]) ∧ Below w.heap.size w w' := by
  have c := fun x => date_bad n hn x
  unfold dt at c
  clear hn
  go_enter Tryd.func18, Tryd.ntmps18
  go_wp2_with fail
  refine (c _).mono ?_
  rintro e x ⟨rfl, hb⟩
  go_wp2_with fail
  go_ret2
  refine ⟨rfl, ?_⟩
  first | exact hb | exact keepB hb (below_one _ _)
set_option maxRecDepth 100000 in
set_option maxHeartbeats 1600000 in
theorem stampV_good (n : Int) (h0 : 0 ≤ n) (h1 : n ≤ 3155759999) (w : World) (hT : Tab w) : Calls Tryd.prog 18 #[.int .i64 n] w fun e w' => (∃ Y M D, IsDay (n / 86400) Y M D ∧ e = .returned (.tuple #[.string ⟨(prL [M, D, n % 86400 / 3600, n % 3600 / 60, n % 60]).toArray⟩, .int .i64 0])) ∧ Below w.heap.size w w' := by
  have c := date_good n h0 h1 w hT
  obtain ⟨H, hH⟩ : ∃ H, n % 86400 / 3600 = H := ⟨_, rfl⟩
  obtain ⟨I, hI⟩ : ∃ H, n % 3600 / 60 = H := ⟨_, rfl⟩
  obtain ⟨S, hS⟩ : ∃ H, n % 60 = H := ⟨_, rfl⟩
  have bH : 0 ≤ H ∧ H < 100 := by omega
  have bI : 0 ≤ I ∧ I < 100 := by omega
  have bS : 0 ≤ S ∧ S < 100 := by omega
  rw [hH, hI, hS] at c ⊢
  clear hH hI hS
  unfold dt at c
  go_enter Tryd.func18, Tryd.ntmps18
  go_wp2_with fail
  refine c.mono ?_
  rintro e x ⟨⟨Y, M, D, hd, rfl⟩, hb⟩
  have dd1 := dm_bd Y hd.m0 hd.m1
  have bM : 0 ≤ M ∧ M < 100 := by have := hd.m0; have := hd.m1; omega
  have bD : 0 ≤ D ∧ D < 100 := by have := hd.d0; have := hd.d1; omega
  go_wp2_with fail
  refine (pairs5 (h2_1 x _ _) bM bD bH bI bS).mono ?_
  rintro e y ⟨rfl, hy⟩
  have hy2 := keepB (keepB hb (below_two x _ _)) hy
  go_wp2
  go_ret2
  exact ⟨⟨Y, M, D, hd, rfl⟩, hy2⟩
/-- what Julian tells -/
def juL (Y M D : Int) : List UInt8 := prL [Y % 10 * 10 + (am Y M + D) / 100, (am Y M + D) % 100]
set_option maxRecDepth 100000 in
set_option maxHeartbeats 1600000 in
theorem julian_date (n : Int) (hn : decide (0 ≤ n ∧ n ≤ 3155759999) = false) (w : World) : Calls Tryd.prog 20 #[.int .i64 n] w fun e w' => e = .returned (.tuple #[.string ⟨#[]⟩, .int .i64 80]) ∧ Below w.heap.size w w' := by
  have c := fun x => date_bad n hn x
  unfold dt at c
  clear hn
  go_enter Tryd.func20, Tryd.ntmps20
  go_wp2_with fail
  refine (c _).mono ?_
  rintro e x ⟨rfl, hb⟩
  go_wp2_with fail
  go_ret2
  refine ⟨rfl, ?_⟩
  first | exact hb | exact keepB hb (below_one _ _)
set_option maxRecDepth 100000 in
set_option maxHeartbeats 1600000 in
theorem julian_good (n : Int) (h0 : 0 ≤ n) (h1 : n ≤ 3155759999) (w : World) (hT : Tab w) : Calls Tryd.prog 20 #[.int .i64 n] w fun e w' => (∃ Y M D, IsDay (n / 86400) Y M D ∧ e = .returned (.tuple #[.string ⟨(juL Y M D).toArray⟩, .int .i64 0])) ∧ Below w.heap.size w w' := by
  have c := date_good n h0 h1 w hT
  unfold dt at c
  go_enter Tryd.func20, Tryd.ntmps20
  go_wp2_with fail
  refine c.mono ?_
  rintro e x ⟨⟨Y, M, D, hd, rfl⟩, hb⟩
  have dd1 := dm_bd Y hd.m0 hd.m1
  have eM := am_bd Y hd.m0 (by have := hd.m1; omega)
  have st := am_step Y (m := M)
  have eM2 := am_bd Y (m := M + 1) (by have := hd.m0; omega) (by have := hd.m1; omega)
  have bD : 1 ≤ D ∧ D ≤ 31 := by have := hd.d0; have := hd.d1; omega
  have bT : 1 ≤ am Y M + D ∧ am Y M + D ≤ 366 := by have := hd.d0; have := hd.d1; omega
  have y0 := hd.y0
  have y1 := hd.y1
  have cM := fun x hT => month_any Y M hd.m0 (by have := hd.m1; omega) x hT
  have hfin : Hid (IsDay (n / 86400) Y M D) := hd
  have hju : Hid (∀ A, am Y M = A → juL Y M D = prL [Y % 10 * 10 + (A + D) / 100, (A + D) % 100]) := fun A hA => by unfold juL; rw [hA]
  have hTx : ∀ o, Tab (x.alloc o) := fun o => hT.next (keepB hb (below_one _ _))
  have hbx : ∀ o, Below w.heap.size w (x.alloc o) := fun o => keepB hb (below_one _ _)
  clear c st eM2 hd
  obtain ⟨A, hA⟩ : ∃ A, am Y M = A := ⟨_, rfl⟩
  have hA' := hju.out A hA
  rw [hA] at cM eM bT
  have hA2 : Hid (juL Y M D = prL [Y % 10 * 10 + (A + D) / 100, (A + D) % 100]) := hA'
  clear hA' hA hju
  have p1 : 0 ≤ Y % 10 * 10 + (A + D) / 100 ∧ Y % 10 * 10 + (A + D) / 100 < 100 := by omega
  have p2 : 0 ≤ (A + D) % 100 ∧ (A + D) % 100 < 100 := by omega
  have hq : ∀ o1 k o2, (((x.alloc o1).drewN k).alloc o2).heap[x.heap.size + 1]? = some o2 := fun o1 k o2 => h2_1 x o1 o2
  have hTn : ∀ o k, Tab ((x.alloc o).drewN k) := fun o k => (hTx o).next (below_drewN (Below.refl _ _) k)
  go_wp2_with fail
  go_quiet ((go_at_call 32; exact Calls.quiet_of_same (cM _ (hTn _ _))))
  go_wp2_with fail
  refine (pairs2 (hq _ _ _) p1 p2).mono ?_
  rintro e y ⟨rfl, hy⟩
  have hy2 := keepB (keepB (below_drewN (hbx _) nq) (below_one _ _)) hy
  go_wp2
  go_ret2
  exact ⟨⟨Y, M, D, hfin.out, by rw [hA2.out]; rfl⟩, hy2⟩
end Go.Proofs.YtpocbaaogkabeaaDoor.Te
