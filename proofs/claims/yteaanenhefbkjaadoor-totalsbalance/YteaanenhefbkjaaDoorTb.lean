/- totals: what is counted, answered, a credit; the amount; what is moved. -/
import Derived.Test.YteaanenhefbkjaaDoorTa
import Derived.Test.YteaanenhefbkjaaDoorHx
import Derived.Test.YteaanenhefbkjaaDoorNum
import Derived.BigQuiet
namespace Go.Proofs.YteaanenhefbkjaaDoor.Tb
set_option linter.unusedVariables false
set_option linter.unusedSimpArgs false
open Go.RowKit Lib0 Kb Xp Ic Ta Hp Hr Ht Hu Hx Chars Num
attribute [local go_sem] Oper.semAt_some
theorem below_dr (w : World) (m : Nat) : Below w.heap.size w (w.drewN m) := Hx.below_dn (Below.refl _ _) m
theorem class_b (s : ByteArray) (hl : s.size ≤ 1000) (w : World) : Calls Tryd.prog 26 #[.string s] w fun e w' => e = .returned (.int .i64 (dg s 1)) ∧ Below w.heap.size w w' := (class_any s (by unfold maxLen; omega) w).mono (by
  rintro e y ⟨rfl, m, rfl⟩
  exact ⟨rfl, below_dr _ _⟩)
theorem function_b (s : ByteArray) (hl : s.size ≤ 1000) (w : World) : Calls Tryd.prog 27 #[.string s] w fun e w' => e = .returned (.int .i64 (dg s 2)) ∧ Below w.heap.size w w' := (function_any s (by unfold maxLen; omega) w).mono (by
  rintro e y ⟨rfl, m, rfl⟩
  exact ⟨rfl, below_dr _ _⟩)
theorem isCounted_yes (s : ByteArray) (hl : s.size ≤ 1000) (hc : dg s 1 = 1 ∨ dg s 1 = 2 ∨ dg s 1 = 4) (w : World) : Calls Tryd.prog 19 #[.string s] w fun e w' => e = .returned (.bool true) ∧ Below w.heap.size w w' := by
  have H : Hid (∀ y, Calls Tryd.prog 26 #[.string s] y fun e w' => e = .returned (.int .i64 (dg s 1)) ∧ Below y.heap.size y w') := fun y => class_b s hl y
  generalize dg s 1 = C at *
  go_enter Tryd.func19, Tryd.ntmps19
  go_wp2_with fail
  refine (H.out _).mono ?_
  rintro e y ⟨rfl, hy⟩
  have HY : Hid (Below w.heap.size w y) := hy
  clear hy
  rcases hc with rfl | rfl | rfl
  all_goals (go_wp2_with fail)
  all_goals go_ret
  all_goals exact ⟨rfl, HY.out⟩
theorem isAnswered_yes (s t : ByteArray) (hl : s.size ≤ 1000) (he : anE s = 0) (ht : anS s = t) (w : World) : Calls Tryd.prog 20 #[.string s, .string t] w fun e w' => e = .returned (.bool true) ∧ Below w.heap.size w w' := by
  have H : Hid (∀ y, Calls Tryd.prog 18 #[.string s] y fun e w' => e = .returned (.tuple #[.string t, .int .i64 0]) ∧ Below y.heap.size y w') := fun y => by
    have := answer_any s (by unfold maxLen; omega) y
    rw [he, ht] at this
    exact this
  clear he ht hl
  go_enter Tryd.func20, Tryd.ntmps20
  go_wp2_with fail
  refine (H.out _).mono ?_
  rintro e y ⟨rfl, hy⟩
  have HY : Hid (Below w.heap.size w y) := hy
  clear hy
  go_wp2_with fail
  go_ret
  exact ⟨rfl, HY.out⟩
def p0 : ByteArray := ⟨#[48, 48, 48, 48, 48, 48]⟩
def p2 : ByteArray := ⟨#[50, 48, 48, 48, 48, 48]⟩
theorem isCredit_any (mti : ByteArray) (v : Value) (L : List Fl) (b : Bool) (hb : getV L 3 = if b then p2 else p0) (w : World) (h : RowF w v L) (hl : L.length ≤ 1000) (hs : ∀ x ∈ L, x.2.size ≤ 1000000) : Calls Tryd.prog 41 #[.agg #[.string mti, v]] w fun e w' => e = .returned (.bool b) ∧ Below w.heap.size w w' := by
  have HB0 : Hid (Below w.heap.size w (w.alloc (.cells #[.string mti, v] tMs))) := below_one _ _
  obtain ⟨o, cap, ev, -⟩ := id h
  have HG : Hid (Calls Tryd.prog 16 #[.agg #[.string mti, v], .int .i64 3] (w.alloc (.cells #[.string mti, v] tMs)) fun e w' => e = .returned (.tuple #[.string (if b then p2 else p0), .bool (getB L 3)]) ∧ Below (w.alloc (.cells #[.string mti, v] tMs)).heap.size (w.alloc (.cells #[.string mti, v] tMs)) w') := by
    have := get_any mti v L 3 (w.alloc (.cells #[.string mti, v] tMs)) (rowf_below h (below_one _ _)) hl hs
    rw [hb] at this
    exact this
  subst ev
  clear h hl hs hb
  go_enter Tryd.func41, Tryd.ntmps41
  go_wp2_with fail
  refine HG.out.mono ?_
  rintro e y ⟨rfl, hy⟩
  have HY : Hid (Below w.heap.size w y) := keepB HB0.out hy
  clear hy
  cases b
  all_goals (simp only [if_true, if_false, Bool.false_eq_true, p0, p2])
  all_goals (go_wp2_with fail)
  all_goals go_ret
  all_goals exact ⟨rfl, HY.out⟩
theorem amount_any (mti : ByteArray) (v : Value) (L : List Fl) (s : ByteArray) (hb : getV L 4 = s) (h12 : s.size ≤ 12) (w : World) (h : RowF w v L) (hl : L.length ≤ 1000) (hs : ∀ x ∈ L, x.2.size ≤ 1000000) : Calls Tryd.prog 33 #[.agg #[.string mti, v]] w fun e w' => e = .returned (.int .i64 (numR s.data.toList).1) ∧ Below w.heap.size w w' := by
  have HB0 : Hid (Below w.heap.size w (w.alloc (.cells #[.string mti, v] tMs))) := below_one _ _
  obtain ⟨o, cap, ev, -⟩ := id h
  have HG : Hid (Calls Tryd.prog 16 #[.agg #[.string mti, v], .int .i64 4] (w.alloc (.cells #[.string mti, v] tMs)) fun e w' => e = .returned (.tuple #[.string s, .bool (getB L 4)]) ∧ Below (w.alloc (.cells #[.string mti, v] tMs)).heap.size (w.alloc (.cells #[.string mti, v] tMs)) w') := by
    have := get_any mti v L 4 (w.alloc (.cells #[.string mti, v] tMs)) (rowf_below h (below_one _ _)) hl hs
    rw [hb] at this
    exact this
  have HN : Hid (∀ y, Calls Tryd.prog 42 #[.string s] y fun e w' => e = .returned (.tuple #[.int .i64 (numR s.data.toList).1, .int .i64 (numR s.data.toList).2]) ∧ w' = y) := fun y => number_any s y (by unfold maxLen; omega)
  generalize (numR s.data.toList).1 = A at *
  generalize (numR s.data.toList).2 = B at *
  subst ev
  have q0 : decide ((12 : Int) < (s.size : Int)) = false := decide_eq_false (by omega)
  clear h hl hs hb
  go_enter Tryd.func33, Tryd.ntmps33
  go_wp2_with fail
  refine HG.out.mono ?_
  rintro e y ⟨rfl, hy⟩
  have HY : Hid (Below w.heap.size w y) := keepB HB0.out hy
  clear hy
  go_wp2_with fail
  refine (HN.out _).mono ?_
  rintro e y2 ⟨rfl, rfl⟩
  go_wp2_with fail
  go_ret
  exact ⟨rfl, HY.out⟩
def nmI (bk cr : Bool) : Nat := if cr && bk then 5 else if cr then 4 else if bk then 7 else 6
theorem movedBy_any (mti : ByteArray) (hm : mti.size ≤ 1000) (v : Value) (L : List Fl) (bk cr : Bool) (hk : dg mti 1 = 4 ↔ bk = true) (hb : getV L 3 = if cr then p2 else p0) (w : World) (h : RowF w v L) (hl : L.length ≤ 1000) (hs : ∀ x ∈ L, x.2.size ≤ 1000000) : Calls Tryd.prog 32 #[.agg #[.string mti, v]] w fun e w' => e = .returned (.tuple #[.int .i64 (nmI bk cr : Int), .int .i64 ((nmI bk cr : Int) + 4)]) ∧ Below w.heap.size w w' := by
  have HB0 : Hid (Below w.heap.size w (w.alloc (.cells #[.string mti, v] tMs))) := below_one _ _
  obtain ⟨o, cap, ev, -⟩ := id h
  have HC : Hid (∀ y, Calls Tryd.prog 26 #[.string mti] y fun e w' => e = .returned (.int .i64 (dg mti 1)) ∧ Below y.heap.size y w') := fun y => class_b mti hm y
  have HK : Hid (∀ y, Below w.heap.size w y → Calls Tryd.prog 41 #[.agg #[.string mti, v]] y fun e w' => e = .returned (.bool cr) ∧ Below y.heap.size y w') := fun y hy => isCredit_any mti v L cr hb y (rowf_below h hy) hl hs
  have HCK : Hid (dg mti 1 = 4 ↔ bk = true) := hk
  have HX0 : Hid ((w.alloc (.cells #[.string mti, v] tMs)).heap[w.heap.size]? = some (.cells #[.string mti, v] tMs)) := h1_0 _ _
  generalize dg mti 1 = C at *
  subst ev
  have hcb : (C == 4) = bk := by cases bk <;> simp_all
  clear h hl hs hb hk hm HCK
  go_enter Tryd.func32, Tryd.ntmps32
  go_wp2_with fail
  refine (HC.out _).mono ?_
  rintro e y ⟨rfl, hy⟩
  have HY : Hid (Below w.heap.size w y) := keepB HB0.out hy
  have hx := kept hy HX0.out
  have c0 : y.cell? ⟨w.heap.size, 0, none⟩ = some (.string mti) := by simp [World.cell?, hx]
  have c1 : y.cell? ⟨w.heap.size, 1, none⟩ = some (.slice o L.length cap) := by simp [World.cell?, hx]
  clear hy hx
  go_wp2_with fail
  refine (HK.out _ HY.out).mono ?_
  rintro e y2 ⟨rfl, hy2⟩
  have HY2 : Hid (Below w.heap.size w y2) := keepB HY.out hy2
  clear hy2
  cases bk <;> cases cr
  all_goals (go_wp2_with fail)
  all_goals go_ret2
  all_goals exact ⟨rfl, HY2.out⟩
end Go.Proofs.YteaanenhefbkjaaDoor.Tb
