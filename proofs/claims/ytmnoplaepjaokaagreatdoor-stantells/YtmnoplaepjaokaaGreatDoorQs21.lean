import Derived.Test.YtmnoplaepjaokaaGreatDoorQs18
import Derived.Test.YtmnoplaepjaokaaGreatDoorQs20
import Derived.Test.YtmnoplaepjaokaaGreatDoorQs12
import Derived.Deep.RegionHeld3
/- isField; soundField of a field with a value alone. -/
namespace Go.Proofs.YtmnoplaepjaokaaGreatDoor.If
set_option linter.unusedVariables false
set_option linter.unusedSimpArgs false
open Go.RowKit Kb Ix
def fldT (n : Int) : Bool := (Of.ofV [n]).2.2 == 0
theorem isField_any (n : Int) (hn : -9223372036854775808 ≤ n ∧ n ≤ 9223372036854775807) (w : World) : Calls Tryz.prog 145 #[.int .i64 n] w fun e w' => e = .returned (.bool (fldT n)) ∧ Below w.heap.size w w' := by
  have hf : fldT n = ((Of.ofV [n]).2.2 == 0) := rfl
  have p := Of.of_any [n] w.heap.size 0 1 (w.alloc (.cells #[.int .i64 n] 3)) (by simp) (fun i hi => by
    match i, hi with
    | 0, _ => exact cell_one_new w (.int .i64 n) 3 0 _ rfl) (by intro z hz; simp at hz; subst hz; exact hn) (by simp)
  rw [hf]
  clear hf
  generalize (Of.ofV [n]).2.2 = E at *
  generalize (((Of.ofV [n]).1 : Nat) : Int) = A at *
  generalize (((Of.ofV [n]).2.1 : Nat) : Int) = B at *
  have hb0 := below_new w (.cells #[.int .i64 n] 3)
  go_enter Tryz.func145, Tryz.ntmps145
  go_wp2_with fail
  refine p.mono ?_
  rintro e x ⟨rfl, hx⟩
  have hb : Hid (Below w.heap.size w x) := hb0.trans (hx.mono (by simp))
  clear hx p hb0
  go_wp2_with fail
  go_ret
  exact ⟨rfl, hb.out.alloc hb.out.size _⟩
theorem box_kept {w x : World} {a b c : Value} (h : Below (w.alloc (.cells #[a, b, c] 81)).heap.size (w.alloc (.cells #[a, b, c] 81)) x) : x.cell? ⟨w.heap.size, 0, none⟩ = some a ∧ x.cell? ⟨w.heap.size, 1, none⟩ = some b ∧ x.cell? ⟨w.heap.size, 2, none⟩ = some c := by
  have hc : x.heap[w.heap.size]? = some (.cells #[a, b, c] 81) := by
    rw [heap_kept h (by simp)]; exact heap_alloc_new w _
  exact ⟨by simp [World.cell?, hc], by simp [World.cell?, hc], by simp [World.cell?, hc]⟩
set_option maxRecDepth 100000 in
theorem soundField_leaf (n : Int) (hn : -9223372036854775808 ≤ n ∧ n ≤ 9223372036854775807) (s : ByteArray) (hl : s.size ≤ maxLen) (w : World) : Calls Tryz.prog 120 #[.agg #[.int .i64 n, .string s, .slice none 0 0]] w fun e w' => e = .returned (.bool (fldT n)) ∧ Below w.heap.size w w' := by
  have p := fun w => isField_any n hn w
  have q := fun w => Ie.roomBehind_nil 1 500 w
  cases hf : fldT n with
  | false =>
    rw [hf] at p
    clear q
    go_enter Tryz.func120, Tryz.ntmps120
    go_wp2_with fail
    refine (p _).mono ?_
    rintro e x ⟨rfl, hx⟩
    obtain ⟨c0, c1, c2⟩ := box_kept hx
    have hb : Hid (Below w.heap.size w x) := (below_new w _).trans (hx.mono (by simp))
    clear hx
    go_wp2_with fail
    go_ret
    exact ⟨rfl, hb.out⟩
  | true =>
    rw [hf] at p
    cases hs : s.toList.isEmpty with
    | true =>
      have g : s.toList = [] := by simpa using hs
      go_enter Tryz.func120, Tryz.ntmps120
      go_wp2_with fail
      refine (p _).mono ?_
      rintro e x ⟨rfl, hx⟩
      obtain ⟨c0, c1, c2⟩ := box_kept hx
      have hb : Hid (Below w.heap.size w x) := (below_new w _).trans (hx.mono (by simp))
      clear hx
      go_wp2_with fail
      refine (q _).mono ?_
      rintro e y ⟨rfl, hyy⟩
      rw [hyy]
      clear hyy y
      go_wp2_with fail
      go_ret
      exact ⟨rfl, hb.out⟩
    | false =>
      have g : ¬ s.toList = [] := by simpa using hs
      go_enter Tryz.func120, Tryz.ntmps120
      go_wp2_with fail
      refine (p _).mono ?_
      rintro e x ⟨rfl, hx⟩
      obtain ⟨c0, c1, c2⟩ := box_kept hx
      have hb : Hid (Below w.heap.size w x) := (below_new w _).trans (hx.mono (by simp))
      clear hx
      go_wp2_with fail
      refine (q _).mono ?_
      rintro e y ⟨rfl, hyy⟩
      rw [hyy]
      clear hyy y
      go_wp2_with fail
      go_ret
      exact ⟨rfl, hb.out⟩
end Go.Proofs.YtmnoplaepjaokaaGreatDoor.If
/- copyField of a field with a value alone. -/
namespace Go.Proofs.YtmnoplaepjaokaaGreatDoor.Ig
set_option linter.unusedVariables false
set_option linter.unusedSimpArgs false
open Go.RowKit Kb Ix If
theorem kp {B : Nat} {W z y : World} (h : Below B W z) (hB : B ≤ z.heap.size) (hy : Below z.heap.size z y) : Below B W y := h.trans (hy.mono hB)
theorem kc {B : Nat} {W y : World} (h : Below B W y) {g o : Nat} {v : Value} (hB : g < B) (hc : W.cell? ⟨g, o, none⟩ = some v) : y.cell? ⟨g, o, none⟩ = some v := (h.cell hB).trans hc
/-- three cells of a block that may be written -/
def R3 (x : World) (g : Nat) : Prop := ∃ a b c, x.heap[g]? = some (.cells #[a, b, c] 81)
theorem R3.lt {x : World} {g : Nat} (h : R3 x g) : g < x.heap.size := by
  obtain ⟨a, b, c, h⟩ := h
  exact (Array.getElem?_eq_some_iff.1 h).1
theorem R3.keep {x y : World} {g : Nat} (h : R3 x g) (hb : Below x.heap.size x y) : R3 y g := by
  obtain ⟨a, b, c, h⟩ := h
  exact ⟨a, b, c, (heap_kept hb (Array.getElem?_eq_some_iff.1 h).1).trans h⟩
theorem R3.sets {x : World} {g : Nat} (h : R3 x g) (u v t : Value) : (((x.setCell ⟨g, 0, none⟩ u).setCell ⟨g, 1, none⟩ v).setCell ⟨g, 2, none⟩ t).heap[g]? = some (.cells #[u, v, t] 81) := by
  obtain ⟨a, b, c, h⟩ := h
  exact Xp.setCell_heap (Xp.setCell_heap (Xp.setCell_heap h 0 u) 1 v) 2 t
theorem R3.set3 {x : World} {g : Nat} (h : R3 x g) (u v t : Value) : R3 (((x.setCell ⟨g, 0, none⟩ u).setCell ⟨g, 1, none⟩ v).setCell ⟨g, 2, none⟩ t) g := ⟨u, v, t, h.sets u v t⟩
theorem sets_below {B : Nat} {W y : World} (h : Below B W y) {g : Nat} (hg : B ≤ g) (u v t : Value) : Below B W (((y.setCell ⟨g, 0, none⟩ u).setCell ⟨g, 1, none⟩ v).setCell ⟨g, 2, none⟩ t) :=
  ((h.setCell (p := ⟨g, 0, none⟩) hg _).setCell (p := ⟨g, 1, none⟩) hg _).setCell (p := ⟨g, 2, none⟩) hg _
theorem R3.cells {y : World} {g : Nat} (h : R3 y g) : ∃ a b c, (y.cell? ⟨g, 0, none⟩ = some a ∧ y.cell? ⟨g, 1, none⟩ = some b ∧ y.cell? ⟨g, 2, none⟩ = some c) ∧ y.frozen? ⟨g, 0, none⟩ = false ∧ y.frozen? ⟨g, 1, none⟩ = false ∧ y.frozen? ⟨g, 2, none⟩ = false := by
  obtain ⟨a, b, c, h⟩ := h
  refine ⟨a, b, c, ⟨?_, ?_, ?_⟩, ?_, ?_, ?_⟩ <;> simp [World.cell?, World.frozen?, h]
set_option maxRecDepth 100000 in
set_option maxHeartbeats 1600000 in
theorem copyField_leaf (n : Int) (s : ByteArray) (hs : s.size ≤ 281474976710656) (w : World) : Calls Tryz.prog 124 #[.agg #[.int .i64 n, .string s, .slice none 0 0]] w fun e w' => e = .returned (.agg #[.int .i64 n, .string s, .slice none 0 0]) ∧ Below w.heap.size w w' := by
  have p := fun y => Ic.clone_any s y hs
  have q := fun y => copyNodes_nil y
  obtain ⟨W, hW⟩ : ∃ W, (w.alloc (.cells #[.int .i64 n, .string s, .slice none 0 0] 81)).alloc (.cells #[.int .i64 0, .string ⟨#[]⟩, .slice none 0 0] 81) = W := ⟨_, rfl⟩
  have hg : W.heap.size = w.heap.size + 1 + 1 := by rw [← hW]; simp
  have h1 : W.heap[w.heap.size]? = some (.cells #[.int .i64 n, .string s, .slice none 0 0] 81) := by
    rw [← hW, heap_kept (below_new _ _) (by simp)]; exact heap_alloc_new w _
  have h2 : W.heap[w.heap.size + 1]? = some (.cells #[.int .i64 0, .string ⟨#[]⟩, .slice none 0 0] 81) := by
    rw [← hW]; exact heap_alloc2_new w _ _
  have hb : Below w.heap.size w W := by
    rw [← hW]; exact (below_new w _).alloc (by simp) _
  have k0 : W.cell? ⟨w.heap.size, 0, none⟩ = some (.int .i64 n) := by simp [World.cell?, h1]
  have k1 : W.cell? ⟨w.heap.size, 1, none⟩ = some (.string s) := by simp [World.cell?, h1]
  have k2 : W.cell? ⟨w.heap.size, 2, none⟩ = some (.slice none 0 0) := by simp [World.cell?, h1]
  go_enter Tryz.func124, Tryz.ntmps124
  go_wp2_with fail
  clear hW
  have hlt : w.heap.size < w.heap.size + 1 := by omega
  have hR : R3 W (w.heap.size + 1) := ⟨_, _, _, h2⟩
  clear h1 h2
  go_region_held3 (fun w' => w'.cell? ⟨w.heap.size, 0, none⟩ = some (.int .i64 n) ∧ w'.cell? ⟨w.heap.size, 1, none⟩ = some (.string s) ∧ w'.cell? ⟨w.heap.size, 2, none⟩ = some (.slice none 0 0) ∧ Below (w.heap.size + 1) W w' ∧ R3 w' (w.heap.size + 1)) (refine ⟨?_, ?_, ?_, ?_, ?_⟩ <;> first | assumption | exact (Below.refl _ _).drew | exact sets_below (by assumption) (Nat.le_refl _) _ _ _ | exact R3.set3 (by assumption) _ _ _ | (go_keep; done))
    (first
      | (go_at_call 122; refine (p _).mono ?_; rintro e y ⟨rfl, hc⟩; have hS := And.right (And.right (And.right (by assumption))); have hy := kp hS.1 (Nat.le_of_lt hS.2.lt) hc; have hr := hS.2.keep hc; have y0 := kc hy hlt k0; have y1 := kc hy hlt k1; have y2 := kc hy hlt k2; obtain ⟨_, _, _, ⟨r0, r1, r2⟩, f0, f1, f2⟩ := hr.cells; clear hS)
      | (go_at_call 148; refine (q _).mono ?_; rintro e y ⟨rfl, rfl⟩))
  go_wp2_with fail
  have hz : Below w.heap.size w y := hb.trans (hy.mono (by omega))
  exact bodyPost_ret (v := .agg #[.int .i64 n, .string s, .slice none 0 0]) (results_cell_row (fn := Tryz.f124) (p := 2) rfl _ _ (w.heap.size + 1) 81 _ _ _ rfl (hr.sets _ _ _) Tryz.underlying81 rfl infoF) rfl ⟨rfl, sets_below hz (by omega) _ _ _⟩
end Go.Proofs.YtmnoplaepjaokaaGreatDoor.Ig
