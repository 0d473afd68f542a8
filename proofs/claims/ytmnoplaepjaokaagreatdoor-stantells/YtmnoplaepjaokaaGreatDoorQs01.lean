import Derived.Test.YtmnoplaepjaokaaGreatDoorQs00
import Derived.Lib.LaidTab
/- The calendar, plain. -/
namespace Go.Proofs.YtmnoplaepjaokaaGreatDoor.Ca
set_option linter.unusedVariables false
set_option linter.unusedSimpArgs false
/-- how many days stand ahead of each month -/
def tab : List Int := [0, 31, 59, 90, 120, 151, 181, 212, 243, 273, 304, 334, 365]
/-- is the year leap? -/
def lp (y : Int) : Bool := (y.tmod 4 == 0 && !(y.tmod 100 == 0)) || y.tmod 400 == 0
theorem lp_in {y : Int} (h0 : 1996 ≤ y) (h1 : y ≤ 2099) : lp y = decide (y % 4 = 0) := by
  unfold lp
  rw [Int.tmod_eq_emod_of_nonneg (by omega), Int.tmod_eq_emod_of_nonneg (by omega), Int.tmod_eq_emod_of_nonneg (by omega)]
  rw [Bool.eq_iff_iff]
  simp
  omega
/-- the day more of a leap year, from March on -/
def mr (y m : Int) : Int := if 2 < m ∧ lp y = true then 1 else 0
/-- days of its year ahead of a month -/
def am (y m : Int) : Int := tab.getD (m - 1).toNat 0 + mr y m
/-- days ahead of a year -/
def ay (y : Int) : Int := (y - 2000) * 365 + (y - 2000 + 3).tdiv 4
/-- how many days a month has -/
def dm (y m : Int) : Int := am y (m + 1) - am y m
theorem mon_cases {m : Int} (h1 : 1 ≤ m) (h2 : m ≤ 12) : m = 1 ∨ m = 2 ∨ m = 3 ∨ m = 4 ∨ m = 5 ∨ m = 6 ∨ m = 7 ∨ m = 8 ∨ m = 9 ∨ m = 10 ∨ m = 11 ∨ m = 12 := by omega
theorem am_one (y : Int) : am y 1 = 0 := by simp [am, mr, tab]
theorem am_end (y : Int) : am y 13 = if lp y = true then 366 else 365 := by
  cases h : lp y <;> simp [am, mr, tab, h]
theorem dm_bd (y : Int) {m : Int} (h1 : 1 ≤ m) (h2 : m ≤ 12) : 28 ≤ dm y m ∧ dm y m ≤ 31 := by
  rcases mon_cases h1 h2 with rfl | rfl | rfl | rfl | rfl | rfl | rfl | rfl | rfl | rfl | rfl | rfl <;> cases h : lp y <;> simp [dm, am, mr, tab, h]
/-- how many days a month has: the document's way -/
def dd (y m : Int) : Int := if m = 4 ∨ m = 6 ∨ m = 9 ∨ m = 11 then 30 else if m = 2 then (if lp y = true then 29 else 28) else 31
theorem dd_eq (y : Int) {m : Int} (h1 : 1 ≤ m) (h2 : m ≤ 12) : dd y m = dm y m := by
  rcases mon_cases h1 h2 with rfl | rfl | rfl | rfl | rfl | rfl | rfl | rfl | rfl | rfl | rfl | rfl <;> cases h : lp y <;> simp [dd, dm, am, mr, tab, h]
theorem am_bd (y : Int) {m : Int} (h1 : 1 ≤ m) (h2 : m ≤ 13) : 0 ≤ am y m ∧ am y m ≤ 366 := by
  by_cases h : m = 13
  · subst h; rw [am_end]; split <;> omega
  · rcases mon_cases h1 (by omega) with rfl | rfl | rfl | rfl | rfl | rfl | rfl | rfl | rfl | rfl | rfl | rfl <;> cases h : lp y <;> simp [am, mr, tab, h]
theorem am_step (y : Int) {m : Int} : am y (m + 1) = am y m + dm y m := by unfold dm; omega
theorem am_mono (y : Int) {m : Int} (h1 : 1 ≤ m) (k : Nat) (h2 : m + k ≤ 13) : am y m + 28 * k ≤ am y (m + k) := by
  induction k with
  | zero => simp
  | succ k ih =>
    have i := ih (by omega)
    have s := am_step y (m := m + k)
    have b := dm_bd y (m := m + k) (by omega) (by omega)
    rw [show m + ((k + 1 : Nat) : Int) = m + k + 1 by omega]
    omega
theorem am_lt (y : Int) {m n : Int} (h1 : 1 ≤ m) (h : m < n) (h2 : n ≤ 13) : am y (m + 1) ≤ am y n := by
  have := am_mono y (m := m + 1) (by omega) (n - (m + 1)).toNat (by omega)
  rw [show m + 1 + ((n - (m + 1)).toNat : Int) = n by omega] at this
  omega
theorem ay_eq {y : Int} (h0 : 1997 ≤ y) : ay y = (y - 2000) * 365 + (y - 2000 + 3) / 4 := by
  unfold ay
  rw [Int.tdiv_eq_ediv_of_nonneg (by omega)]
theorem ay_succ {y : Int} (h0 : 1997 ≤ y) (h1 : y ≤ 2099) : ay (y + 1) = ay y + am y 13 := by
  rw [am_end, lp_in (by omega) h1, ay_eq h0, ay_eq (by omega)]
  simp only [decide_eq_true_eq]
  split <;> omega
theorem ay_mono {y z : Int} (h0 : 1997 ≤ y) (h : y ≤ z) : ay y + (z - y) * 365 ≤ ay z := by
  rw [ay_eq h0, ay_eq (by omega)]; omega
/-- a day by its number -/
structure IsDay (n Y M D : Int) : Prop where
  y0 : 2000 ≤ Y
  y1 : Y ≤ 2099
  m0 : 1 ≤ M
  m1 : M ≤ 12
  d0 : 1 ≤ D
  d1 : D ≤ dm Y M
  is : n = ay Y + am Y M + D - 1
theorem IsDay.in_year {n Y M D : Int} (h : IsDay n Y M D) : ay Y ≤ n ∧ n < ay (Y + 1) := by
  have a := am_bd Y h.m0 (by have := h.m1; omega)
  have b := am_step Y (m := M)
  have c := am_lt Y h.m0 (n := 13) (by have := h.m1; omega) (by omega)
  have d := ay_succ (y := Y) (by have := h.y0; omega) h.y1
  have := h.is; have := h.d0; have := h.d1
  omega
theorem IsDay.in_month {n Y M D : Int} (h : IsDay n Y M D) : am Y M ≤ n - ay Y ∧ n - ay Y < am Y (M + 1) := by
  have b := am_step Y (m := M)
  have := h.is; have := h.d0; have := h.d1
  omega
theorem IsDay.one {n Y M D Y' M' D' : Int} (h : IsDay n Y M D) (h' : IsDay n Y' M' D') : Y = Y' ∧ M = M' ∧ D = D' := by
  have hy : Y = Y' := by
    have a := h.in_year; have b := h'.in_year
    have := h.y0; have := h'.y0
    rcases Int.lt_trichotomy Y Y' with c | c | c
    · have := ay_mono (y := Y + 1) (z := Y') (by omega) (by omega); omega
    · exact c
    · have := ay_mono (y := Y' + 1) (z := Y) (by omega) (by omega); omega
  subst hy
  have hm : M = M' := by
    have a := h.in_month; have b := h'.in_month
    have := h.m0; have := h'.m0; have := h.m1; have := h'.m1
    rcases Int.lt_trichotomy M M' with c | c | c
    · have := am_lt Y h.m0 c (by omega); omega
    · exact c
    · have := am_lt Y h'.m0 c (by omega); omega
  subst hm
  have := h.is; have := h'.is
  refine ⟨rfl, rfl, by omega⟩
theorem ay_2000 : ay 2000 = 0 := by decide
theorem ay_2100 : ay 2100 = 36525 := by decide
theorem IsDay.bd {n Y M D : Int} (h : IsDay n Y M D) : 0 ≤ n ∧ n < 36525 := by
  have a := h.in_year
  have b := ay_mono (y := 2000) (z := Y) (by omega) h.y0
  have c := ay_mono (y := Y + 1) (z := 2100) (by have := h.y0; omega) (by have := h.y1; omega)
  rw [ay_2000] at b; rw [ay_2100] at c
  have := h.y0; have := h.y1
  omega
/-- the moment of a date -/
def mom (Y M D h mi s : Int) : Int := (ay Y + am Y M + D - 1) * 86400 + h * 3600 + mi * 60 + s
theorem ay_four {y : Int} (h0 : 1997 ≤ y) : ay (y + 4) = ay y + 1461 := by
  rw [ay_eq h0, ay_eq (by omega)]; omega
/-- is it a date? -/
def isD (Y M D h mi s : Int) : Bool := decide (2000 ≤ Y ∧ Y ≤ 2099 ∧ 1 ≤ M ∧ M ≤ 12 ∧ 1 ≤ D ∧ D ≤ dm Y M ∧ 0 ≤ h ∧ h ≤ 23 ∧ 0 ≤ mi ∧ mi ≤ 59 ∧ 0 ≤ s ∧ s ≤ 59)
/-- how far two numbers lie from one another -/
def fr (a b : Int) : Int := if a < b then b - a else a - b
theorem fr_max (a b : Int) : max (a - b) (b - a) = fr a b := by unfold fr; split <;> omega
/-- the best of the years from lo on below hi: none, or the nearest, the first of these -/
def Best (ok : Int → Bool) (at' : Int → Int) (x lo hi b : Int) : Prop :=
  (b = -1 ∧ ∀ y, lo ≤ y → y < hi → ok y = false) ∨
  (∃ y, lo ≤ y ∧ y < hi ∧ ok y = true ∧ b = at' y ∧ ∀ z, lo ≤ z → z < hi → ok z = true → fr (at' y) x ≤ fr (at' z) x ∧ (z < y → fr (at' y) x < fr (at' z) x))
theorem Best.start (ok : Int → Bool) (at' : Int → Int) (x lo : Int) : Best ok at' x lo lo (-1) := .inl ⟨rfl, fun y a b => by omega⟩
theorem Best.skip {ok : Int → Bool} {at' : Int → Int} {x lo hi b : Int} (h : Best ok at' x lo hi b) (ho : ok hi = false) : Best ok at' x lo (hi + 1) b := by
  rcases h with ⟨rfl, h⟩ | ⟨y, a, c, d, rfl, h⟩
  · exact .inl ⟨rfl, fun y p q => by
      by_cases e : y = hi
      · rw [e]; exact ho
      · exact h y p (by omega)⟩
  · refine .inr ⟨y, a, by omega, d, rfl, fun z p q r => ?_⟩
    by_cases e : z = hi
    · rw [e, ho] at r; cases r
    · exact h z p (by omega) r
theorem Best.take {ok : Int → Bool} {at' : Int → Int} {x lo hi b : Int} (h : Best ok at' x lo hi b) (hl : lo ≤ hi) (ho : ok hi = true) (hp : ∀ y, ok y = true → 0 ≤ at' y) (hb : b < 0 ∨ fr (at' hi) x < fr b x) : Best ok at' x lo (hi + 1) (at' hi) := by
  refine .inr ⟨hi, hl, by omega, ho, rfl, fun z p q r => ?_⟩
  by_cases e : z = hi
  · subst e; exact ⟨Int.le_refl _, fun c => by omega⟩
  · rcases h with ⟨rfl, h⟩ | ⟨y, a, c, d, rfl, h⟩
    · rw [h z p (by omega)] at r; cases r
    · have i := hp y d
      have j := (h z p (by omega) r).1
      exact ⟨by omega, fun _ => by omega⟩
theorem Best.leave {ok : Int → Bool} {at' : Int → Int} {x lo hi b : Int} (h : Best ok at' x lo hi b) (hb : 0 ≤ b) (hf : fr b x ≤ fr (at' hi) x) : Best ok at' x lo (hi + 1) b := by
  rcases h with ⟨rfl, h⟩ | ⟨y, a, c, d, rfl, h⟩
  · omega
  · refine .inr ⟨y, a, by omega, d, rfl, fun z p q r => ?_⟩
    by_cases e : z = hi
    · subst e; exact ⟨hf, fun c => by omega⟩
    · exact h z p (by omega) r
theorem Best.one {ok : Int → Bool} {at' : Int → Int} {x lo hi b c : Int} (h : Best ok at' x lo hi b) (h' : Best ok at' x lo hi c) : b = c := by
  rcases h with ⟨rfl, h⟩ | ⟨y, a1, a2, a3, rfl, h⟩ <;> rcases h' with ⟨rfl, h'⟩ | ⟨z, b1, b2, b3, rfl, h'⟩
  · rfl
  · rw [h z b1 b2] at b3; cases b3
  · rw [h' y a1 a2] at a3; cases a3
  · have p := h z b1 b2 b3
    have q := h' y a1 a2 a3
    rcases Int.lt_trichotomy y z with c | c | c
    · have := q.2 c; omega
    · rw [c]
    · have := p.2 c; omega
/-- the moment, with the time of the day -/
def sk (M D h mi s : Int) (y : Int) : Int := mom y M D h mi s
def okS (M D h mi s : Int) (y : Int) : Bool := isD y M D h mi s
theorem isD_day {Y M D h mi s : Int} (hd : isD Y M D h mi s = true) : IsDay (ay Y + am Y M + D - 1) Y M D := by
  have := of_decide_eq_true hd
  exact ⟨by omega, by omega, by omega, by omega, by omega, by omega, rfl⟩
theorem mom_in {Y M D h mi s : Int} (hd : isD Y M D h mi s = true) : ay Y * 86400 ≤ mom Y M D h mi s ∧ mom Y M D h mi s < ay (Y + 1) * 86400 := by
  have a := (isD_day hd).in_year
  have := of_decide_eq_true hd
  unfold mom
  omega
theorem mom_bd {Y M D h mi s : Int} (hd : isD Y M D h mi s = true) : 0 ≤ mom Y M D h mi s ∧ mom Y M D h mi s ≤ 3155759999 := by
  have a := (isD_day hd).bd
  have := of_decide_eq_true hd
  unfold mom
  omega
theorem leap_any {M : Int} {Y Z : Int} (hy : lp Y = true) (hz : lp Z = true) : dm Y M = dm Z M := by
  unfold dm am mr
  rw [hy, hz]
theorem dm_leap {M : Int} {Y Z : Int} (h1 : 1 ≤ M) (h2 : M ≤ 12) (hz : lp Z = true) : dm Y M ≤ dm Z M := by
  cases hy : lp Y
  · rcases mon_cases h1 h2 with rfl | rfl | rfl | rfl | rfl | rfl | rfl | rfl | rfl | rfl | rfl | rfl <;> simp [dm, am, mr, tab, hz, hy]
  · exact Int.le_of_eq (leap_any hy hz)
theorem isD_leap {Y Z M D h mi s : Int} (hd : isD Y M D h mi s = true) (h0 : 2000 ≤ Z) (h1 : Z ≤ 2099) (hz : Z % 4 = 0) : isD Z M D h mi s = true := by
  have e := of_decide_eq_true hd
  have l : lp Z = true := by rw [lp_in (by omega) h1]; exact decide_eq_true hz
  have := dm_leap (Y := Y) (Z := Z) e.2.2.1 e.2.2.2.1 l
  exact decide_eq_true (by omega)
/-- the years about a moment's own are enough -/
theorem Best.wide {M D h mi s x Y b : Int} (hd : ∃ z, isD z M D h mi s = true) (y0 : 2000 ≤ Y) (y1 : Y ≤ 2099) (x0 : ay Y * 86400 ≤ x) (x1 : x < ay (Y + 1) * 86400) (hb : Best (okS M D h mi s) (sk M D h mi s) x (Y - 4) (Y + 5) b) : Best (okS M D h mi s) (sk M D h mi s) x 2000 2100 b := by
  obtain ⟨z0, hd⟩ := hd
  have hc : isD (Y - Y % 4) M D h mi s = true := isD_leap hd (by omega) (by omega) (by omega)
  rcases hb with ⟨rfl, hb⟩ | ⟨y, a1, a2, a3, rfl, hb⟩
  · have := hb (Y - Y % 4) (by omega) (by omega)
    rw [show okS M D h mi s (Y - Y % 4) = true from hc] at this; cases this
  · have ey := of_decide_eq_true a3
    refine .inr ⟨y, by omega, by omega, a3, rfl, fun z p q r => ?_⟩
    by_cases e : Y - 4 ≤ z ∧ z < Y + 5
    · exact hb z e.1 e.2 r
    · have m := (hb (Y - Y % 4) (by omega) (by omega) hc).1
      have c1 := mom_in hc
      have c2 := mom_in (show isD z M D h mi s = true from r)
      have f1 := ay_four (y := Y + 1) (by omega)
      have f2 := ay_four (y := Y - Y % 4) (by omega)
      have f3 := ay_mono (y := Y + 1) (z := Y - Y % 4 + 4) (by omega) (by omega)
      have f4 := ay_mono (y := Y - Y % 4 + 1) (z := Y + 1) (by omega) (by omega)
      have f5 := ay_succ (y := Y) (by omega) y1
      have f6 := am_bd Y (m := 13) (by omega) (by omega)
      have f7 : Y + 5 ≤ z → ay (Y + 1 + 4) ≤ ay z := fun g => by have := ay_mono (y := Y + 1 + 4) (z := z) (by omega) (by omega); omega
      have f8 : z ≤ Y - 5 → ay (z + 1) + 1461 ≤ ay Y := fun g => by
        have := ay_mono (y := z + 1) (z := Y - 4) (by omega) (by omega)
        have := ay_four (y := Y - 4) (by omega)
        rw [show Y - 4 + 4 = Y by omega] at this
        omega
      have k : fr (sk M D h mi s (Y - Y % 4)) x < fr (sk M D h mi s z) x := by
        show fr (mom (Y - Y % 4) M D h mi s) x < fr (mom z M D h mi s) x
        generalize mom (Y - Y % 4) M D h mi s = P at c1 ⊢
        generalize mom z M D h mi s = Q at c2 ⊢
        unfold fr
        rcases (by omega : z ≤ Y - 5 ∨ Y + 5 ≤ z) with g | g
        · have := f8 g; split <;> split <;> omega
        · have := f7 g; split <;> split <;> omega
      exact ⟨by omega, fun _ => by omega⟩
theorem sk_rise {M D h mi s y z : Int} (hy : okS M D h mi s y = true) (hz : okS M D h mi s z = true) (hl : y < z) : sk M D h mi s y < sk M D h mi s z := by
  have a := mom_in (show isD y M D h mi s = true from hy)
  have b := mom_in (show isD z M D h mi s = true from hz)
  have e := of_decide_eq_true hy
  have c := ay_mono (y := y + 1) (z := z) (by omega) (by omega)
  show mom y M D h mi s < mom z M D h mi s
  omega
end Go.Proofs.YtmnoplaepjaokaaGreatDoor.Ca
/- Leap years, days ahead: the program's. -/
namespace Go.Proofs.YtmnoplaepjaokaaGreatDoor.Ld
set_option linter.unusedVariables false
set_option linter.unusedSimpArgs false
open Go.RowKit Kb Ca
/-- the table's cells -/
def tbC : Array Value := (tab.map fun z => Value.int .i64 z).toArray
/-- what the walks are told of the table -/
def Tab (w : World) : Prop := ∃ t fr, w.heap[0]? = some (.cells tbC t fr)
theorem Tab.of_var {w : World} {P : Program} {name : String} (hg : P.globalNamed name = some 0) (h : Lib.TabIs P w name .i64 tab) : Tab w := by
  unfold Lib.TabIs World.var? at h
  rw [hg] at h
  simp only [Option.bind_some] at h
  split at h
  · rename_i cs t fr heq
    simp only [Option.some.injEq] at h
    subst h
    exact ⟨t, fr, heq⟩
  · cases h
theorem Tab.cell {w : World} (h : Tab w) (i : Nat) (hi : i < 13) : w.cell? ⟨0, i, none⟩ = some (.int .i64 (tab.getD i 0)) := by
  obtain ⟨t, fr, hb⟩ := h
  rw [cell_of_row w _ i tbC t fr hb]
  have hl : i < tab.length := hi
  simp [tbC, List.getD, hl]
theorem Tab.below {w w' : World} {B : Nat} (h : Tab w) (hb : Below B w w') (h0 : 0 < B) : Tab w' := by
  obtain ⟨t, fr, hc⟩ := h
  exact ⟨t, fr, (hb.block _ h0).trans hc⟩
theorem Tab.lt {w : World} (h : Tab w) : 0 < w.heap.size := World.block_lt_of_cell? w _ (h.cell 0 (by decide))
theorem Tab.next {w w' : World} (h : Tab w) (hb : Below w.heap.size w w') : Tab w' := h.below hb h.lt
set_option maxRecDepth 100000 in
set_option maxHeartbeats 400000 in
theorem leap_any (y : Int) (w : World) : Calls Tryz.prog 110 #[.int .i64 y] w fun e w' => e = .returned (.bool (lp y)) ∧ w' = w := by
  go_enter Tryz.func110, Tryz.ntmps110
  by_cases h4 : y.tmod 4 = 0 <;> by_cases h1 : y.tmod 100 = 0 <;> by_cases h2 : y.tmod 400 = 0
  all_goals
    go_wp2_with fail
    go_ret
    simp [lp, h4, h1, h2]
/-- the row of a date -/
def dt (Y M D h mi s : Int) : Value := .agg #[.int .i64 Y, .int .i64 M, .int .i64 D, .int .i64 h, .int .i64 mi, .int .i64 s]
theorem ret_bool {a b : Bool} (h : a = b) : Ending.returned (.bool a) = .returned (.bool b) := by rw [h]
theorem ret_int {k : IntKind} {a b : Int} (h : a = b) : Ending.returned (.int k a) = .returned (.int k b) := by rw [h]
set_option maxRecDepth 100000 in
set_option maxHeartbeats 400000 in
theorem month_any (y m : Int) (h1 : 1 ≤ m) (h2 : m ≤ 13) (w : World) (hT : Tab w) : Calls Tryz.prog 79 #[.int .i64 y, .int .i64 m] w fun e w' => e = .returned (.int .i64 (am y m)) ∧ w' = w := by
  obtain ⟨k, rfl⟩ : ∃ k : Nat, m = (k : Int) + 1 := ⟨(m - 1).toNat, by omega⟩
  have hc := hT.cell k (by omega)
  have hb : ∀ m : Fin 13, 0 ≤ tab.getD m.val 0 ∧ tab.getD m.val 0 ≤ 365 := by decide
  obtain ⟨b0, b1⟩ := hb ⟨k, by omega⟩
  simp only at b0 b1
  have e : am y ((k : Int) + 1) = tab.getD k 0 + mr y ((k : Int) + 1) := by
    unfold am
    rw [show ((k : Int) + 1 - 1).toNat = k by omega]
  rw [e]
  unfold mr
  generalize tab.getD k 0 = V at *
  clear e
  go_enter Tryz.func79, Tryz.ntmps79
  by_cases hm : 2 < (k : Int) + 1
  · go_wp2_with fail
    refine (leap_any y _).mono ?_
    rintro e x ⟨rfl, rfl⟩
    cases hl : lp y
    · go_wp2
      all_goals (go_ret; exact ⟨ret_int (by simp), rfl⟩)
    · go_wp2
      all_goals (go_ret; exact ⟨ret_int (by simp [hm]), rfl⟩)
  · go_wp2
    go_ret
    refine ⟨ret_int ?_, rfl⟩
    simp [hm]
set_option maxRecDepth 100000 in
set_option maxHeartbeats 400000 in
theorem year_any (y : Int) (h1 : 1997 ≤ y) (h2 : y ≤ 2110) (w : World) : Calls Tryz.prog 142 #[.int .i64 y] w fun e w' => e = .returned (.int .i64 (ay y)) ∧ w' = w := by
  have q0 : 0 ≤ (y - 2000 + 3) / 4 := by omega
  have q1 : (y - 2000 + 3) / 4 ≤ 28 := by omega
  have q2 : 0 ≤ y - 2000 + 3 := by omega
  rw [ay_eq h1]
  go_enter Tryz.func142, Tryz.ntmps142
  go_wp2
  go_ret
  exact ⟨ret_int rfl, rfl⟩
set_option maxRecDepth 100000 in
set_option maxHeartbeats 400000 in
theorem within_any (n a b : Int) (w : World) : Calls Tryz.prog 141 #[.int .i64 n, .int .i64 a, .int .i64 b] w fun e w' => e = .returned (.bool (decide (a ≤ n ∧ n ≤ b))) ∧ w' = w := by
  go_enter Tryz.func141, Tryz.ntmps141
  by_cases h1 : a ≤ n <;> by_cases h2 : n ≤ b
  all_goals
    go_wp2_with fail
    go_ret
    simp [h1, h2]
end Go.Proofs.YtmnoplaepjaokaaGreatDoor.Ld
