/- Leap years, days ahead: the program's. -/
import Derived.Test.YtpocbaaogkabeaaDoorCa
import Derived.Lib.LaidTab
namespace Go.Proofs.YtpocbaaogkabeaaDoor.Ld
set_option linter.unusedVariables false
set_option linter.unusedSimpArgs false
open Go.RowKit Kb Ca
/-- the table's cells -/
def tbC : Array Value := (tab.map fun z => Value.int .i64 z).toArray
/-- what the walks are told of the table -/
def Tab (w : World) : Prop := ∃ t fr, w.heap[0]? = some (.cells tbC t fr)
theorem Tab.of_var {w : World} {P : Program} {name : String} (hg : P.globalNamed name = some 0) (h : Lib.TabIs P w name .i64 tab) : Tab w := by
  unfold Lib.TabIs World.var? at h
  rw [hg] at h
  simp only [Option.bind_some] at h
  split at h
  · rename_i cs t fr heq
    simp only [Option.some.injEq] at h
    subst h
    exact ⟨t, fr, heq⟩
  · cases h
theorem Tab.cell {w : World} (h : Tab w) (i : Nat) (hi : i < 13) : w.cell? ⟨0, i, none⟩ = some (.int .i64 (tab.getD i 0)) := by
  obtain ⟨t, fr, hb⟩ := h
  rw [cell_of_row w _ i tbC t fr hb]
  have hl : i < tab.length := hi
  simp [tbC, List.getD, hl]
theorem Tab.below {w w' : World} {B : Nat} (h : Tab w) (hb : Below B w w') (h0 : 0 < B) : Tab w' := by
  obtain ⟨t, fr, hc⟩ := h
  exact ⟨t, fr, (hb.block _ h0).trans hc⟩
theorem Tab.lt {w : World} (h : Tab w) : 0 < w.heap.size := World.block_lt_of_cell? w _ (h.cell 0 (by decide))
theorem Tab.next {w w' : World} (h : Tab w) (hb : Below w.heap.size w w') : Tab w' := h.below hb h.lt
set_option maxRecDepth 100000 in
set_option maxHeartbeats 400000 in
theorem leap_any (y : Int) (w : World) : Calls Tryd.prog 14 #[.int .i64 y] w fun e w' => e = .returned (.bool (lp y)) ∧ w' = w := by
  go_enter Tryd.func14, Tryd.ntmps14
  by_cases h4 : y.tmod 4 = 0 <;> by_cases h1 : y.tmod 100 = 0 <;> by_cases h2 : y.tmod 400 = 0
  all_goals
    go_wp2_with fail
    go_ret
    simp [lp, h4, h1, h2]
/-- the row of a date -/
def dt (Y M D h mi s : Int) : Value := .agg #[.int .i64 Y, .int .i64 M, .int .i64 D, .int .i64 h, .int .i64 mi, .int .i64 s]
theorem ret_bool {a b : Bool} (h : a = b) : Ending.returned (.bool a) = .returned (.bool b) := by rw [h]
theorem ret_int {k : IntKind} {a b : Int} (h : a = b) : Ending.returned (.int k a) = .returned (.int k b) := by rw [h]
set_option maxRecDepth 100000 in
set_option maxHeartbeats 400000 in
theorem month_any (y m : Int) (h1 : 1 ≤ m) (h2 : m ≤ 13) (w : World) (hT : Tab w) : Calls Tryd.prog 32 #[.int .i64 y, .int .i64 m] w fun e w' => e = .returned (.int .i64 (am y m)) ∧ w' = w := by
  obtain ⟨k, rfl⟩ : ∃ k : Nat, m = (k : Int) + 1 := ⟨(m - 1).toNat, by omega⟩
  have hc := hT.cell k (by omega)
  have hb : ∀ m : Fin 13, 0 ≤ tab.getD m.val 0 ∧ tab.getD m.val 0 ≤ 365 := by decide
  obtain ⟨b0, b1⟩ := hb ⟨k, by omega⟩
  simp only at b0 b1
  have e : am y ((k : Int) + 1) = tab.getD k 0 + mr y ((k : Int) + 1) := by
    unfold am
    rw [show ((k : Int) + 1 - 1).toNat = k by omega]
  rw [e]
  unfold mr
  generalize tab.getD k 0 = V at *
  clear e
  go_enter Tryd.func32, Tryd.ntmps32
  by_cases hm : 2 < (k : Int) + 1
  · go_wp2_with fail
    refine (leap_any y _).mono ?_
    rintro e x ⟨rfl, rfl⟩
    cases hl : lp y
    · go_wp2
      all_goals (go_ret; exact ⟨ret_int (by simp), rfl⟩)
    · go_wp2
      all_goals (go_ret; exact ⟨ret_int (by simp [hm]), rfl⟩)
  · go_wp2
    go_ret
    refine ⟨ret_int ?_, rfl⟩
    simp [hm]
set_option maxRecDepth 100000 in
set_option maxHeartbeats 400000 in
theorem year_any (y : Int) (h1 : 1997 ≤ y) (h2 : y ≤ 2110) (w : World) : Calls Tryd.prog 31 #[.int .i64 y] w fun e w' => e = .returned (.int .i64 (ay y)) ∧ w' = w := by
  have q0 : 0 ≤ (y - 2000 + 3) / 4 := by omega
  have q1 : (y - 2000 + 3) / 4 ≤ 28 := by omega
  have q2 : 0 ≤ y - 2000 + 3 := by omega
  rw [ay_eq h1]
  go_enter Tryd.func31, Tryd.ntmps31
  go_wp2
  go_ret
  exact ⟨ret_int rfl, rfl⟩
set_option maxRecDepth 100000 in
set_option maxHeartbeats 400000 in
theorem within_any (n a b : Int) (w : World) : Calls Tryd.prog 40 #[.int .i64 n, .int .i64 a, .int .i64 b] w fun e w' => e = .returned (.bool (decide (a ≤ n ∧ n ≤ b))) ∧ w' = w := by
  go_enter Tryd.func40, Tryd.ntmps40
  by_cases h1 : a ≤ n <;> by_cases h2 : n ≤ b
  all_goals
    go_wp2_with fail
    go_ret
    simp [h1, h2]
end Go.Proofs.YtpocbaaogkabeaaDoor.Ld
