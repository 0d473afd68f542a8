/- copyField of a field with a value alone. -/
import Derived.Test.YtgchdjjafgkcbaaIf
import Derived.Test.YtgchdjjafgkcbaaXp
import Derived.Deep.RegionHeld3
namespace Go.Proofs.Ytgchdjjafgkcbaa.Ig
set_option linter.unusedVariables false
set_option linter.unusedSimpArgs false
open Go.RowKit Kb Ix If
theorem kp {B : Nat} {W z y : World} (h : Below B W z) (hB : B ≤ z.heap.size) (hy : Below z.heap.size z y) : Below B W y := h.trans (hy.mono hB)
theorem kc {B : Nat} {W y : World} (h : Below B W y) {g o : Nat} {v : Value} (hB : g < B) (hc : W.cell? ⟨g, o, none⟩ = some v) : y.cell? ⟨g, o, none⟩ = some v := (h.cell hB).trans hc
/-- three cells of a block that may be written -/
def R3 (x : World) (g : Nat) : Prop := ∃ a b c, x.heap[g]? = some (.cells #[a, b, c] 82)
theorem R3.lt {x : World} {g : Nat} (h : R3 x g) : g < x.heap.size := by
  obtain ⟨a, b, c, h⟩ := h
  exact (Array.getElem?_eq_some_iff.1 h).1
theorem R3.keep {x y : World} {g : Nat} (h : R3 x g) (hb : Below x.heap.size x y) : R3 y g := by
  obtain ⟨a, b, c, h⟩ := h
  exact ⟨a, b, c, (heap_kept hb (Array.getElem?_eq_some_iff.1 h).1).trans h⟩
theorem R3.sets {x : World} {g : Nat} (h : R3 x g) (u v t : Value) : (((x.setCell ⟨g, 0, none⟩ u).setCell ⟨g, 1, none⟩ v).setCell ⟨g, 2, none⟩ t).heap[g]? = some (.cells #[u, v, t] 82) := by
  obtain ⟨a, b, c, h⟩ := h
  exact Xp.setCell_heap (Xp.setCell_heap (Xp.setCell_heap h 0 u) 1 v) 2 t
theorem R3.set3 {x : World} {g : Nat} (h : R3 x g) (u v t : Value) : R3 (((x.setCell ⟨g, 0, none⟩ u).setCell ⟨g, 1, none⟩ v).setCell ⟨g, 2, none⟩ t) g := ⟨u, v, t, h.sets u v t⟩
theorem sets_below {B : Nat} {W y : World} (h : Below B W y) {g : Nat} (hg : B ≤ g) (u v t : Value) : Below B W (((y.setCell ⟨g, 0, none⟩ u).setCell ⟨g, 1, none⟩ v).setCell ⟨g, 2, none⟩ t) :=
  ((h.setCell (p := ⟨g, 0, none⟩) hg _).setCell (p := ⟨g, 1, none⟩) hg _).setCell (p := ⟨g, 2, none⟩) hg _
theorem R3.cells {y : World} {g : Nat} (h : R3 y g) : ∃ a b c, (y.cell? ⟨g, 0, none⟩ = some a ∧ y.cell? ⟨g, 1, none⟩ = some b ∧ y.cell? ⟨g, 2, none⟩ = some c) ∧ y.frozen? ⟨g, 0, none⟩ = false ∧ y.frozen? ⟨g, 1, none⟩ = false ∧ y.frozen? ⟨g, 2, none⟩ = false := by
  obtain ⟨a, b, c, h⟩ := h
  refine ⟨a, b, c, ⟨?_, ?_, ?_⟩, ?_, ?_, ?_⟩ <;> simp [World.cell?, World.frozen?, h]
set_option maxRecDepth 100000 in
set_option maxHeartbeats 1600000 in
theorem copyField_leaf (n : Int) (s : ByteArray) (hs : s.size ≤ 281474976710656) (w : World) : Calls Try.prog 66 #[.agg #[.int .i64 n, .string s, .slice none 0 0]] w fun e w' => e = .returned (.agg #[.int .i64 n, .string s, .slice none 0 0]) ∧ Below w.heap.size w w' := by
  have p := fun y => Ic.clone_any s y hs
  have q := fun y => copyNodes_nil y
  obtain ⟨W, hW⟩ : ∃ W, (w.alloc (.cells #[.int .i64 n, .string s, .slice none 0 0] 82)).alloc (.cells #[.int .i64 0, .string ⟨#[]⟩, .slice none 0 0] 82) = W := ⟨_, rfl⟩
  have hg : W.heap.size = w.heap.size + 1 + 1 := by rw [← hW]; simp
  have h1 : W.heap[w.heap.size]? = some (.cells #[.int .i64 n, .string s, .slice none 0 0] 82) := by
    rw [← hW, heap_kept (below_new _ _) (by simp)]; exact heap_alloc_new w _
  have h2 : W.heap[w.heap.size + 1]? = some (.cells #[.int .i64 0, .string ⟨#[]⟩, .slice none 0 0] 82) := by
    rw [← hW]; exact heap_alloc2_new w _ _
  have hb : Below w.heap.size w W := by
    rw [← hW]; exact (below_new w _).alloc (by simp) _
  have k0 : W.cell? ⟨w.heap.size, 0, none⟩ = some (.int .i64 n) := by simp [World.cell?, h1]
  have k1 : W.cell? ⟨w.heap.size, 1, none⟩ = some (.string s) := by simp [World.cell?, h1]
  have k2 : W.cell? ⟨w.heap.size, 2, none⟩ = some (.slice none 0 0) := by simp [World.cell?, h1]
  go_enter Try.func66, Try.ntmps66
  go_wp2_with fail
  clear hW
  have hlt : w.heap.size < w.heap.size + 1 := by omega
  have hR : R3 W (w.heap.size + 1) := ⟨_, _, _, h2⟩
  clear h1 h2
  go_region_held3 (fun w' => w'.cell? ⟨w.heap.size, 0, none⟩ = some (.int .i64 n) ∧ w'.cell? ⟨w.heap.size, 1, none⟩ = some (.string s) ∧ w'.cell? ⟨w.heap.size, 2, none⟩ = some (.slice none 0 0) ∧ Below (w.heap.size + 1) W w' ∧ R3 w' (w.heap.size + 1)) (refine ⟨?_, ?_, ?_, ?_, ?_⟩ <;> first | assumption | exact (Below.refl _ _).drew | exact sets_below (by assumption) (Nat.le_refl _) _ _ _ | exact R3.set3 (by assumption) _ _ _ | (go_keep; done))
    (first
      | (go_at_call 35; refine (p _).mono ?_; rintro e y ⟨rfl, hc⟩; have hS := And.right (And.right (And.right (by assumption))); have hy := kp hS.1 (Nat.le_of_lt hS.2.lt) hc; have hr := hS.2.keep hc; have y0 := kc hy hlt k0; have y1 := kc hy hlt k1; have y2 := kc hy hlt k2; obtain ⟨_, _, _, ⟨r0, r1, r2⟩, f0, f1, f2⟩ := hr.cells; clear hS)
      | (go_at_call 77; refine (q _).mono ?_; rintro e y ⟨rfl, rfl⟩))
  go_wp2_with fail
  have hz : Below w.heap.size w y := hb.trans (hy.mono (by omega))
  exact bodyPost_ret (v := .agg #[.int .i64 n, .string s, .slice none 0 0]) (results_cell_row (fn := Try.f66) (p := 2) rfl _ _ (w.heap.size + 1) 82 _ _ _ rfl (hr.sets _ _ _) Try.underlying82 rfl infoF) rfl ⟨rfl, sets_below hz (by omega) _ _ _⟩
end Go.Proofs.Ytgchdjjafgkcbaa.Ig
