/- The reader: the next byte; what begins. -/
import Derived.Test.YtgidjfhlooggkaaGd
namespace Go.Proofs.Ytgidjfhlooggkaa.Ge
set_option linter.unusedVariables false
set_option linter.unusedSimpArgs false
open Go.RowKit Kb Ga Gb Gc Gd
theorem left_set1 {w : World} {g : Nat} {s : ByteArray} {a e d b : Int} (h : Rd w g s a e d b) (x : Int) : Lft w g s x e d b (w.setCell ⟨g, 1, none⟩ (.int .i64 x)) := ⟨h.set1 x, gr_set _ _ _ _⟩
theorem left_set2 {w : World} {g : Nat} {s : ByteArray} {a e d b : Int} (h : Rd w g s a e d b) (x : Int) : Lft w g s a x d b (w.setCell ⟨g, 2, none⟩ (.int .i64 x)) := ⟨h.set2 x, gr_set _ _ _ _⟩
theorem left_set3 {w : World} {g : Nat} {s : ByteArray} {a e d b : Int} (h : Rd w g s a e d b) (x : Int) : Lft w g s a e x b (w.setCell ⟨g, 3, none⟩ (.int .i64 x)) := ⟨h.set3 x, gr_set _ _ _ _⟩
theorem left_set4 {w : World} {g : Nat} {s : ByteArray} {a e d b : Int} (h : Rd w g s a e d b) (x : Int) : Lft w g s a e d x (w.setCell ⟨g, 4, none⟩ (.int .i64 x)) := ⟨h.set4 x, gr_set _ _ _ _⟩
set_option maxRecDepth 100000 in
theorem next_bad {w : World} {g : Nat} {s : ByteArray} {a e d b : Int} (h : Rd w g s a e d b) (hn : ¬ a < e) (h0 : 0 ≤ a) (h1 : a ≤ 1048576) (h2 : 0 ≤ e) (h3 : e ≤ 1048576) :
    Calls Try.prog 103 #[.pointer (some ⟨g, 0, none⟩)] w fun x w' => x = .panicked (up 10 e) ∧ w.grownBy w' (some g) := by
  go_enter Try.func103, Try.ntmps103
  go_wp2_with fail
  refine (want_bad h 1 (by omega) h0 h1 h2 h3).mono ?_
  rintro _ x ⟨rfl, hg⟩
  exact ⟨rfl, rfl, hg⟩
set_option maxRecDepth 100000 in
theorem next_ok {w : World} {g k : Nat} {s : ByteArray} {e d b : Int} (h : Rd w g s (k : Int) e d b) (hn : (k : Int) < e) (h1 : (k : Int) ≤ 1048576) (h3 : e ≤ 1048576) (hs : e ≤ (s.size : Int)) :
    Calls Try.prog 103 #[.pointer (some ⟨g, 0, none⟩)] w fun x w' => x = .returned (.int .u8 ((s.data[k]'(by have : s.data.size = s.size := rfl; omega)).toNat : Int)) ∧ Lft w g s ((k : Int) + 1) e d b w' := by
  go_enter Try.func103, Try.ntmps103
  go_wp2_with fail
  refine (want_ok h 1 (by omega) (by omega) h1 (by omega) h3).mono ?_
  rintro _ x ⟨rfl, hl⟩
  obtain ⟨⟨c0, c1, c2, c3, c4⟩, fz⟩ := hl.1.at
  have f1 := fz 1
  have hl2 := hl.then (left_set1 hl.1 ((k : Int) + 1))
  clear fz c2 c3 c4
  go_wp2_with fail
  clear c0 c1 f1
  generalize x.setCell { block := g, off := 1 } (Value.int IntKind.i64 ((k : Int) + 1)) = y at *
  obtain ⟨⟨d0, d1, _, _, _⟩, _⟩ := hl2.1.at
  have k0 : (k : Int) + 1 - 1 = (k : Int) := by omega
  have k1 : (k : Int) < (s.size : Int) := by omega
  have k2 : k < s.size := by omega
  clear hl h
  go_quiet (fail)
  go_wp2_with fail
  go_ret
  exact ⟨rfl, left_drew hl2 nq⟩
set_option maxRecDepth 100000 in
theorem begin_ok {w : World} {g : Nat} {s : ByteArray} {a e d b : Int} (h : Rd w g s a e d b) (hb0 : 0 ≤ b) (hb : b < 500) :
    Calls Try.prog 91 #[.pointer (some ⟨g, 0, none⟩)] w fun x w' => x = .returned (.tuple #[]) ∧ Lft w g s a e d (b + 1) w' := by
  obtain ⟨⟨c0, c1, c2, c3, c4⟩, fz⟩ := h.at
  go_enter Try.func91, Try.ntmps91
  go_wp2_with fail
  go_quiet ((go_at_call 66; exact Calls.quiet_of_same (must_ok _ _ _)))
  have hl : Lft w g s a e d b (w.drewN nq) := left_drew ⟨h, gr_refl _ _⟩ nq
  generalize w.drewN nq = x at *
  clear c0 c1 c2 c3 c4 fz
  obtain ⟨⟨c0, c1, c2, c3, c4⟩, fz⟩ := hl.1.at
  have f1 := fz 4
  have hl2 := hl.then (left_set4 hl.1 (b + 1))
  clear fz c0 c1 c2 c3
  go_wp2_with fail
  go_end0
  exact ⟨rfl, hl2⟩
set_option maxRecDepth 100000 in
theorem begin_bad {w : World} {g : Nat} {s : ByteArray} {a e d b : Int} (h : Rd w g s a e d b) (hb : ¬ b < 500) :
    Calls Try.prog 91 #[.pointer (some ⟨g, 0, none⟩)] w fun x w' => x = .panicked (up 93 a) ∧ w.grownBy w' (some g) := by
  obtain ⟨⟨c0, c1, c2, c3, c4⟩, fz⟩ := h.at
  have hgl : g < w.heap.size := (Array.getElem?_eq_some_iff.1 h).1
  go_enter Try.func91, Try.ntmps91
  go_wp2_with fail
  refine Ql.region_lastL (C := Ql.Cl w) (by kernel_rfl) rfl (by kernel_rfl) (by kernel_rfl) (by kernel_rfl) rfl ((Below.refl _ _).drew) ?_
  repeat (refine wpQuiet_step (fun K hK => ?_); first
    | (refine Ql.q_cell (by rfl) 3 _ rfl g 1 rfl _ c1 hgl (fun y => isAgg_int y) (hK _ ?_); clear hK K)
    | (refine Ql.q_cell (by rfl) 3 _ rfl g 4 rfl _ c4 hgl (fun y => isAgg_int y) (hK _ ?_); clear hK K)
    | (go_simp; refine hK _ ?_; clear hK K)
    | (go_simp; refine ⟨_, fun _ _ => rfl, hK _ ?_⟩; clear hK K)
    | (go_simp; refine ⟨_, fun _ _ => ⟨rfl, rfl⟩, hK _ ?_⟩; clear hK K))
  refine wpQuiet_nil ?_
  intro y1 hy1
  go_simp
  rw [show decide (b < 500) = false from decide_eq_false (by omega)]
  refine (must_bad _ _ _).mono ?_
  rintro _ x ⟨rfl, rfl⟩
  exact ⟨rfl, rfl, gr_below hy1 _⟩
end Go.Proofs.Ytgidjfhlooggkaa.Ge
