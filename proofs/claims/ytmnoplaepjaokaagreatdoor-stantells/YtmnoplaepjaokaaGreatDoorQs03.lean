import Derived.Test.YtmnoplaepjaokaaGreatDoorQs02
/- A block of six cells: reading and storing. -/
namespace Go.Proofs.YtmnoplaepjaokaaGreatDoor.Hx
set_option linter.unusedVariables false
set_option linter.unusedSimpArgs false
open Go.RowKit Kb
theorem setCell_heap {w : World} {g : Nat} {c : Array Value} {t : TypeId} {fr : Nat × Nat} (h : w.heap[g]? = some (.cells c t fr)) (o : Nat) (v : Value) : (w.setCell ⟨g, o, none⟩ v).heap[g]? = some (.cells (c.setIfInBounds o v) t fr) := by
  show (w.heap.modify g _)[g]? = _
  rw [Array.getElem?_modify]; simp [h]
theorem setCell_ne {w : World} {g k : Nat} (h : g ≠ k) (o : Nat) (v : Value) : (w.setCell ⟨g, o, none⟩ v).heap[k]? = w.heap[k]? := by
  show (w.heap.modify g _)[k]? = _
  rw [Array.getElem?_modify]; simp [h]
theorem below_setCell {B : Nat} {a w : World} (h : Below B a w) {g : Nat} (hg : B ≤ g) (o : Nat) (v : Value) : Below B a (w.setCell ⟨g, o, none⟩ v) :=
  ⟨h.os, h.tape, h.output, by have := h.size; simpa [World.setCell] using this, fun k hk => (setCell_ne (by omega) o v).trans (h.block k hk)⟩
/-- a date lies in a block -/
def Six (x : World) (b : Nat) (Y M D h mi s : Int) : Prop := x.heap[b]? = some (Obj.cells #[.int .i64 Y, .int .i64 M, .int .i64 D, .int .i64 h, .int .i64 mi, .int .i64 s] 119)
theorem Six.at {x : World} {b : Nat} {Y M D h mi s : Int} (hx : Six x b Y M D h mi s) :
    x.cell? ⟨b, 0, none⟩ = some (.int .i64 Y) ∧ x.cell? ⟨b, 1, none⟩ = some (.int .i64 M) ∧ x.cell? ⟨b, 2, none⟩ = some (.int .i64 D) ∧ x.cell? ⟨b, 3, none⟩ = some (.int .i64 h) ∧ x.cell? ⟨b, 4, none⟩ = some (.int .i64 mi) ∧ x.cell? ⟨b, 5, none⟩ = some (.int .i64 s) := Oe.held6 hx
theorem Six.free {x : World} {b : Nat} {Y M D h mi s : Int} (hx : Six x b Y M D h mi s) :
    x.frozen? ⟨b, 0, none⟩ = false ∧ x.frozen? ⟨b, 1, none⟩ = false ∧ x.frozen? ⟨b, 2, none⟩ = false ∧ x.frozen? ⟨b, 3, none⟩ = false ∧ x.frozen? ⟨b, 4, none⟩ = false ∧ x.frozen? ⟨b, 5, none⟩ = false := by
  unfold Six at hx
  refine ⟨?_, ?_, ?_, ?_, ?_, ?_⟩ <;> simp [World.frozen?, hx]
theorem Six.set0 {x : World} {b : Nat} {Y M D h mi s : Int} (hx : Six x b Y M D h mi s) (v : Int) : Six (x.setCell ⟨b, 0, none⟩ (.int .i64 v)) b v M D h mi s := setCell_heap hx 0 _
theorem Six.set1 {x : World} {b : Nat} {Y M D h mi s : Int} (hx : Six x b Y M D h mi s) (v : Int) : Six (x.setCell ⟨b, 1, none⟩ (.int .i64 v)) b Y v D h mi s := setCell_heap hx 1 _
theorem Six.set2 {x : World} {b : Nat} {Y M D h mi s : Int} (hx : Six x b Y M D h mi s) (v : Int) : Six (x.setCell ⟨b, 2, none⟩ (.int .i64 v)) b Y M v h mi s := setCell_heap hx 2 _
theorem Six.set3 {x : World} {b : Nat} {Y M D h mi s : Int} (hx : Six x b Y M D h mi s) (v : Int) : Six (x.setCell ⟨b, 3, none⟩ (.int .i64 v)) b Y M D v mi s := setCell_heap hx 3 _
theorem Six.set4 {x : World} {b : Nat} {Y M D h mi s : Int} (hx : Six x b Y M D h mi s) (v : Int) : Six (x.setCell ⟨b, 4, none⟩ (.int .i64 v)) b Y M D h v s := setCell_heap hx 4 _
theorem Six.set5 {x : World} {b : Nat} {Y M D h mi s : Int} (hx : Six x b Y M D h mi s) (v : Int) : Six (x.setCell ⟨b, 5, none⟩ (.int .i64 v)) b Y M D h mi v := setCell_heap hx 5 _
theorem Six.ne {x : World} {b c : Nat} {Y M D h mi s : Int} (hx : Six x b Y M D h mi s) (hc : c ≠ b) (o : Nat) (v : Value) : Six (x.setCell ⟨c, o, none⟩ v) b Y M D h mi s := (setCell_ne hc o v).trans hx
theorem Six.next {x y : World} {b : Nat} {Y M D h mi s : Int} (hx : Six x b Y M D h mi s) (hb : Below x.heap.size x y) : Six y b Y M D h mi s := kept hb hx
theorem info6 : (Tryz.prog.info? 119).map (·.size) = some 6 := by kernel_rfl
/-- the cells of a date -/
def cs6 (Y M D h mi s : Int) : Array Value := #[.int .i64 Y, .int .i64 M, .int .i64 D, .int .i64 h, .int .i64 mi, .int .i64 s]
theorem one6 (Y M D h mi s : Int) : (cs6 Y M D h mi s).all (·.oneCell') = true := by
  unfold cs6
  simp only [List.all_toArray, List.all_cons, List.all_nil, Bool.and_true]
  rfl
theorem inf6 (Y M D h mi s : Int) : (Tryz.prog.info? 119).map (·.size) = some (cs6 Y M D h mi s).size := info6
theorem siz6 (Y M D h mi s Y' M' D' h' mi' s' : Int) : (cs6 Y M D h mi s).size = (cs6 Y' M' D' h' mi' s').size := rfl
theorem Six.row {x : World} {b : Nat} {Y M D h mi s : Int} (hx : Six x b Y M D h mi s) : x.heap[b]? = some (.cells (cs6 Y M D h mi s) 119 (0, 0)) := hx
/-- six stores -/
abbrev set6 (x : World) (b : Nat) (Y M D h mi s : Int) : World := (((((x.setCell ⟨b, 0, none⟩ (.int .i64 Y)).setCell ⟨b, 1, none⟩ (.int .i64 M)).setCell ⟨b, 2, none⟩ (.int .i64 D)).setCell ⟨b, 3, none⟩ (.int .i64 h)).setCell ⟨b, 4, none⟩ (.int .i64 mi)).setCell ⟨b, 5, none⟩ (.int .i64 s)
theorem Six.put {x : World} {b : Nat} {Y M D h mi s : Int} (hx : Six x b Y M D h mi s) (Y' M' D' h' mi' s' : Int) : Six (set6 x b Y' M' D' h' mi' s') b Y' M' D' h' mi' s' := (((((hx.set0 Y').set1 M').set2 D').set3 h').set4 mi').set5 s'
theorem below_set6 {B : Nat} {a w : World} (h : Below B a w) {g : Nat} (hg : B ≤ g) (Y M D h' mi s : Int) : Below B a (set6 w g Y M D h' mi s) :=
  below_setCell (below_setCell (below_setCell (below_setCell (below_setCell (below_setCell h hg _ _) hg _ _) hg _ _) hg _ _) hg _ _) hg _ _
theorem res_row_tmp {P : Program} {fn : Func} {p u : Tmp} {ty : TypeId} (h : fn.results = #[.cell p ty, .tmp u]) (tmps : Array Value) (w : World) (g : Nat) (t : TypeId) (cs : Array Value) (fr : Nat × Nat) (d : TypeDesc)
    (hp : tmps.getD p undef = .pointer (some ⟨g, 0, none⟩)) (hg : w.heap[g]? = some (.cells cs t fr))
    (hu : P.underlying ty = some d) (hd : (match d with | .struct _ | .array _ _ => true | _ => false) = true) (hi : (P.info? ty).map (·.size) = some cs.size) :
    (results fn tmps).run P w = .ok (.tuple #[.agg cs, tmps.getD u undef]) w := by
  rw [results_cell_tmp h, hp]
  simp only [asAddr, Sem.run_pure, Result.andThen_ok, run_loadVar_row w g t ty cs fr d hg hu hd hi]
end Go.Proofs.YtmnoplaepjaokaaGreatDoor.Hx
/- Days, Right, Of: the document's. -/
namespace Go.Proofs.YtmnoplaepjaokaaGreatDoor.Rd
set_option linter.unusedVariables false
set_option linter.unusedSimpArgs false
open Go.RowKit Kb Ca Ld De Oe Hx
set_option maxRecDepth 100000 in
set_option maxHeartbeats 400000 in
theorem leapr_any (y : Int) (w : World) : Calls Tryz.prog 111 #[.int .i64 y] w fun e w' => e = .returned (.bool (lp y)) ∧ w' = w := by
  go_enter Tryz.func111, Tryz.ntmps111
  by_cases h4 : y.tmod 4 = 0 <;> by_cases h1 : y.tmod 100 = 0 <;> by_cases h2 : y.tmod 400 = 0
  all_goals
    go_wp2_with fail
    go_ret
    simp [lp, h4, h1, h2]
set_option maxRecDepth 100000 in
set_option maxHeartbeats 400000 in
theorem days_any (y m : Int) (w : World) : Calls Tryz.prog 82 #[.int .i64 y, .int .i64 m] w fun e w' => e = .returned (.int .i64 (dd y m)) ∧ w' = w := by
  by_cases h4 : m = 4
  · subst h4
    go_enter Tryz.func82, Tryz.ntmps82
    go_wp2
    go_ret
    exact ⟨ret_int (by simp [dd]), rfl⟩
  by_cases h6 : m = 6
  · subst h6
    go_enter Tryz.func82, Tryz.ntmps82
    go_wp2
    go_ret
    exact ⟨ret_int (by simp [dd]), rfl⟩
  by_cases h9 : m = 9
  · subst h9
    go_enter Tryz.func82, Tryz.ntmps82
    go_wp2
    go_ret
    exact ⟨ret_int (by simp [dd]), rfl⟩
  by_cases h11 : m = 11
  · subst h11
    go_enter Tryz.func82, Tryz.ntmps82
    go_wp2
    go_ret
    exact ⟨ret_int (by simp [dd]), rfl⟩
  by_cases h2 : m = 2
  · subst h2
    go_enter Tryz.func82, Tryz.ntmps82
    go_wp2_with fail
    refine (leapr_any y _).mono ?_
    rintro e x ⟨rfl, rfl⟩
    cases hl : lp y
    · go_wp2
      go_ret
      exact ⟨ret_int (by simp [dd, hl]), rfl⟩
    · go_wp2
      go_ret
      exact ⟨ret_int (by simp [dd, hl]), rfl⟩
  · go_enter Tryz.func82, Tryz.ntmps82
    have k4 : (m == 4) = false := by simp [h4]
    have k6 : (m == 6) = false := by simp [h6]
    have k9 : (m == 9) = false := by simp [h9]
    have k11 : (m == 11) = false := by simp [h11]
    have k2 : (m == 2) = false := by simp [h2]
    go_wp2
    go_ret
    exact ⟨ret_int (by simp [dd, h4, h6, h9, h11, h2]), rfl⟩
end Go.Proofs.YtmnoplaepjaokaaGreatDoor.Rd
