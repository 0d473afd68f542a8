/- journal's reader: event, output. -/
import Derived.Test.YtabmpngliphdpaaDoorJn
namespace Go.Proofs.YtabmpngliphdpaaDoor.Jo
set_option linter.unusedVariables false
set_option linter.unusedSimpArgs false
open Go.RowKit Lib0 Kb Jl Jm Jn
attribute [local go_sem] Oper.semAt_some
def evV (o : Option (List UInt8)) : Array Value := #[.int .i64 (nmV o), .int .i64 (nmV (wdR o)), .int .i64 (nmV (wdR (wdR o))), .string ⟨(txV (wdR (wdR (wdR o)))).toArray⟩]
def evR (o : Option (List UInt8)) : Option (List UInt8) := txR (wdR (wdR (wdR o)))
def otV (o : Option (List UInt8)) : Array Value := #[.int .i64 (nmV o), .int .i64 (nmV (wdR o)), .int .i64 (nmV (wdR (wdR o))), .int .i64 (nmV (wdR (wdR (wdR o)))), .string ⟨(txV (wdR (wdR (wdR (wdR o))))).toArray⟩]
def otR (o : Option (List UInt8)) : Option (List UInt8) := txR (wdR (wdR (wdR (wdR o))))
theorem otR_len {o : Option (List UInt8)} {l : List UInt8} (h : otR o = some l) : ∃ l0, o = some l0 ∧ l.length + 1 ≤ l0.length := by
  obtain ⟨l1, h1, e1⟩ := txR_len h
  obtain ⟨l2, h2, e2⟩ := wdR_len h1
  obtain ⟨l3, h3, e3⟩ := wdR_len h2
  obtain ⟨l4, h4, e4⟩ := wdR_len h3
  obtain ⟨l5, h5, e5⟩ := wdR_len h4
  exact ⟨l5, h5, by omega⟩
theorem evR_len {o : Option (List UInt8)} {l : List UInt8} (h : evR o = some l) : ∃ l0, o = some l0 ∧ l.length + 1 ≤ l0.length := by
  obtain ⟨l1, h1, e1⟩ := txR_len h
  obtain ⟨l2, h2, e2⟩ := wdR_len h1
  obtain ⟨l3, h3, e3⟩ := wdR_len h2
  obtain ⟨l4, h4, e4⟩ := wdR_len h3
  exact ⟨l4, h4, by omega⟩
theorem rd_row {w : World} {g k : Nat} {o : Option (List UInt8)} (h : Rd w g o) (hn : k ≠ g) (c : Array Value) : Rd (w.setRow k c) g o := by
  obtain ⟨s, b, h1, h2⟩ := h
  exact ⟨s, b, (setRow_ne hn c).trans h1, h2⟩
theorem gb_row {a b : World} {g k : Nat} (h : a.grownBy b (some g)) (hk : a.heap.size ≤ k) (c : Array Value) : a.grownBy (b.setRow k c) (some g) :=
  ⟨h.os, h.tape, h.output, by have := h.size; simpa [World.setRow] using this, fun i hi hne => (setRow_ne (by omega) c).trans (h.block i hi hne)⟩
set_option maxRecDepth 100000 in
set_option maxHeartbeats 1600000 in
theorem event_any {w : World} {g : Nat} {o : Option (List UInt8)} (h : Rd w g o) (hs : Sm o) :
    Calls Tryd.prog 76 #[.pointer (some ⟨g, 0, none⟩)] w fun e w' => e = .returned (.agg (evV o)) ∧ Rd w' g (evR o) ∧ w.grownBy w' (some g) := by
  obtain ⟨W0, HW0⟩ : ∃ W, Hid (w.alloc (.cells #[.int .i64 0, .int .i64 0, .int .i64 0, .string ⟨#[]⟩] 37) = W) := ⟨_, rfl⟩
  have hb0 : Below w.heap.size w W0 := HW0.out ▸ below_one _ _
  have hx0 : W0.heap[w.heap.size]? = some (.cells #[.int .i64 0, .int .i64 0, .int .i64 0, .string ⟨#[]⟩] 37 (0, 0)) := HW0.out ▸ h1_0 _ _
  have hr0 := Jn.Rd.below h hb0
  have H1 : Hid (Rd W0 g o) := hr0
  have HG0 : Hid (w.grownBy W0 (some g)) := gb_below (gb_refl _ _) hb0
  have hgn : w.heap.size ≠ g := by
    obtain ⟨s, b, hr, _⟩ := h
    have := (Array.getElem?_eq_some_iff.1 hr).1
    omega
  have HX0 : Hid (W0.heap[w.heap.size]? = some (.cells #[.int .i64 0, .int .i64 0, .int .i64 0, .string ⟨#[]⟩] 37 (0, 0))) := hx0
  have HS : Hid (Sm (wdR (wdR (wdR o)))) := wdR_sm (wdR_sm (wdR_sm hs))
  clear h hs hb0 hx0 hr0
  go_enter Tryd.func76, Tryd.ntmps76
  go_wp2_with (first | (rw [HW0.out]) | fail)
  refine (number_any H1.out).mono ?_
  rintro e y1 ⟨rfl, hy1, hg1⟩
  have H2 : Hid (Rd y1 g (wdR o)) := hy1
  have HG1 : Hid (W0.grownBy y1 (some g)) := hg1
  clear hy1 hg1
  go_wp2_with fail
  refine (number_any H2.out).mono ?_
  rintro e y2 ⟨rfl, hy2, hg2⟩
  have H3 : Hid (Rd y2 g (wdR (wdR o))) := hy2
  have HG2 : Hid (W0.grownBy y2 (some g)) := gb_trans HG1.out hg2
  clear hy2 hg2
  go_wp2_with fail
  refine (number_any H3.out).mono ?_
  rintro e y3 ⟨rfl, hy3, hg3⟩
  have H4 : Hid (Rd y3 g (wdR (wdR (wdR o)))) := hy3
  have HG3 : Hid (W0.grownBy y3 (some g)) := gb_trans HG2.out hg3
  clear hy3 hg3
  go_wp2_with fail
  refine (text_any H4.out HS.out).mono ?_
  rintro e y4 ⟨rfl, hy4, hg4⟩
  have HG4 : Hid (W0.grownBy y4 (some g)) := gb_trans HG3.out hg4
  have HY4 : Hid (Rd y4 g (evR o)) := hy4
  have hx4 : y4.heap[w.heap.size]? = some (.cells #[.int .i64 0, .int .i64 0, .int .i64 0, .string ⟨#[]⟩] 37 (0, 0)) := by
    rw [HG4.out.block w.heap.size (Array.getElem?_eq_some_iff.1 HX0.out).1 (fun e => hgn (Option.some.inj e))]
    exact HX0.out
  have z0 : (Tryd.prog.info? 37).map (·.size) = some 4 := by kernel_rfl
  have HF : Hid ((y4.setRow w.heap.size (evV o)).heap[w.heap.size]? = some (.cells (evV o) 37 (0, 0)) ∧ Rd (y4.setRow w.heap.size (evV o)) g (evR o) ∧ w.grownBy (y4.setRow w.heap.size (evV o)) (some g)) := by
    refine ⟨setRow_at hx4 _, rd_row HY4.out hgn _, gb_row (gb_trans HG0.out HG4.out) (Nat.le_refl _) _⟩
  have o0 : (evV o).all (·.oneCell') = true := by simp [evV, Value.oneCell']
  clear hy4 hg4
  go_wp2_with (first | (refine wpList_store_row rfl 37 _ _ rfl w.heap.size (evV o) rfl rfl _ _ hx4 z0 rfl o0 ?_) | fail)
  exact bodyPost_ret (v := .agg (evV o)) (results_cell_row rfl _ _ w.heap.size _ _ _ _ rfl HF.out.1 Tryd.underlying37 rfl z0) rfl ⟨rfl, HF.out.2⟩
set_option maxRecDepth 100000 in
set_option maxHeartbeats 1600000 in
theorem output_any {w : World} {g : Nat} {o : Option (List UInt8)} (h : Rd w g o) (hs : Sm o) :
    Calls Tryd.prog 81 #[.pointer (some ⟨g, 0, none⟩)] w fun e w' => e = .returned (.agg (otV o)) ∧ Rd w' g (otR o) ∧ w.grownBy w' (some g) := by
  obtain ⟨W0, HW0⟩ : ∃ W, Hid (w.alloc (.cells #[.int .i64 0, .int .i64 0, .int .i64 0, .int .i64 0, .string ⟨#[]⟩] 85) = W) := ⟨_, rfl⟩
  have hb0 : Below w.heap.size w W0 := HW0.out ▸ below_one _ _
  have hx0 : W0.heap[w.heap.size]? = some (.cells #[.int .i64 0, .int .i64 0, .int .i64 0, .int .i64 0, .string ⟨#[]⟩] 85 (0, 0)) := HW0.out ▸ h1_0 _ _
  have hr0 := Jn.Rd.below h hb0
  have H1 : Hid (Rd W0 g o) := hr0
  have HG0 : Hid (w.grownBy W0 (some g)) := gb_below (gb_refl _ _) hb0
  have hgn : w.heap.size ≠ g := by
    obtain ⟨s, b, hr, _⟩ := h
    have := (Array.getElem?_eq_some_iff.1 hr).1
    omega
  have HX0 : Hid (W0.heap[w.heap.size]? = some (.cells #[.int .i64 0, .int .i64 0, .int .i64 0, .int .i64 0, .string ⟨#[]⟩] 85 (0, 0))) := hx0
  have HS : Hid (Sm (wdR (wdR (wdR (wdR o))))) := wdR_sm (wdR_sm (wdR_sm (wdR_sm hs)))
  clear h hs hb0 hx0 hr0
  go_enter Tryd.func81, Tryd.ntmps81
  go_wp2_with (first | (rw [HW0.out]) | fail)
  refine (number_any H1.out).mono ?_
  rintro e y1 ⟨rfl, hy1, hg1⟩
  have H2 : Hid (Rd y1 g (wdR o)) := hy1
  have HG1 : Hid (W0.grownBy y1 (some g)) := hg1
  clear hy1 hg1
  go_wp2_with fail
  refine (number_any H2.out).mono ?_
  rintro e y2 ⟨rfl, hy2, hg2⟩
  have H3 : Hid (Rd y2 g (wdR (wdR o))) := hy2
  have HG2 : Hid (W0.grownBy y2 (some g)) := gb_trans HG1.out hg2
  clear hy2 hg2
  go_wp2_with fail
  refine (number_any H3.out).mono ?_
  rintro e y3 ⟨rfl, hy3, hg3⟩
  have H4 : Hid (Rd y3 g (wdR (wdR (wdR o)))) := hy3
  have HG3 : Hid (W0.grownBy y3 (some g)) := gb_trans HG2.out hg3
  clear hy3 hg3
  go_wp2_with fail
  refine (number_any H4.out).mono ?_
  rintro e yy ⟨rfl, hyy, hgg⟩
  have H5 : Hid (Rd yy g (wdR (wdR (wdR (wdR o))))) := hyy
  have HG5 : Hid (W0.grownBy yy (some g)) := gb_trans HG3.out hgg
  clear hyy hgg
  go_wp2_with fail
  refine (text_any H5.out HS.out).mono ?_
  rintro e y4 ⟨rfl, hy4, hg4⟩
  have HG4 : Hid (W0.grownBy y4 (some g)) := gb_trans HG5.out hg4
  have HY4 : Hid (Rd y4 g (otR o)) := hy4
  have hx4 : y4.heap[w.heap.size]? = some (.cells #[.int .i64 0, .int .i64 0, .int .i64 0, .int .i64 0, .string ⟨#[]⟩] 85 (0, 0)) := by
    rw [HG4.out.block w.heap.size (Array.getElem?_eq_some_iff.1 HX0.out).1 (fun e => hgn (Option.some.inj e))]
    exact HX0.out
  have z0 : (Tryd.prog.info? 85).map (·.size) = some 5 := by kernel_rfl
  have HF : Hid ((y4.setRow w.heap.size (otV o)).heap[w.heap.size]? = some (.cells (otV o) 85 (0, 0)) ∧ Rd (y4.setRow w.heap.size (otV o)) g (otR o) ∧ w.grownBy (y4.setRow w.heap.size (otV o)) (some g)) := by
    refine ⟨setRow_at hx4 _, rd_row HY4.out hgn _, gb_row (gb_trans HG0.out HG4.out) (Nat.le_refl _) _⟩
  have o0 : (otV o).all (·.oneCell') = true := by simp [otV, Value.oneCell']
  clear hy4 hg4
  go_wp2_with (first | (refine wpList_store_row rfl 85 _ _ rfl w.heap.size (otV o) rfl rfl _ _ hx4 z0 rfl o0 ?_) | fail)
  exact bodyPost_ret (v := .agg (otV o)) (results_cell_row rfl _ _ w.heap.size _ _ _ _ rfl HF.out.1 Tryd.underlying85 rfl z0) rfl ⟨rfl, HF.out.2⟩
end Go.Proofs.YtabmpngliphdpaaDoor.Jo
