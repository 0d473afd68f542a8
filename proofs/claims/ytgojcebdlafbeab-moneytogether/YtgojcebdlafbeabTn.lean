/- MoneyTogether: the walk, N = 0. -/
import Derived.Test.YtgojcebdlafbeabTp
import Derived.OpenShut
import Derived.Carry
namespace Go.Proofs.Ytgojcebdlafbeab.Tn
open Go.ChangeShapes Go.WideShapes Go.ChangeAt Go.RowKit
set_option linter.unusedVariables false
open Sl Kb Mp Sa Sf Ow Tp
set_option maxRecDepth 100000 in
set_option maxHeartbeats 12800000 in
theorem walk (v0 : Value) (z0 : List Int) (a1 a2 : Int) (w : World) (w0 : Sl.Lies w v0 z0) (w1 : (Lit.int .i64 a1).wf = true) (w2 : (Lit.int .i64 a2).wf = true) (hc0 : z0.length = 0) :
    Calls Try.prog 5 #[v0, .int .i64 a1, .int .i64 a2] w fun e w' => e = .returned (.bool true) ∧ Below w.heap.size w w' := by
  have b11 := (bounds_i64 w1).1
  have b12 := (bounds_i64 w1).2
  have b21 := (bounds_i64 w2).1
  have b22 := (bounds_i64 w2).2
  have pu := fun x => Pick.pick_any a2 1000000000000 x b21 b22 (by decide) (by decide)
  have u1 := Pick.pick_lo a2 1000000000000 (by decide)
  have u2 := Pick.pick_hi a2 1000000000000 (by decide)
  generalize Pick.pickOf a2 1000000000000 = u at *
  have hz : z0 = [] := List.length_eq_zero_iff.1 hc0
  subst hz
  obtain ⟨ob, cap, rfl⟩ := Ow.shape w0
  rw [show ([] : List Int).length = 0 from rfl]
  have pk := fun x => Pick.pick_any a1 1 x b11 b12 (by decide) (by decide)
  rw [show Pick.pickOf a1 1 = 0 from by have h1 := Pick.pick_lo a1 1 (by decide); have h2 := Pick.pick_hi a1 1 (by decide); omega] at pk
  have c1 : ∀ x : World, Calls Try.prog 12 #[.slice none 0 0] x fun e w' => e = .returned (.tuple #[.int .i64 0, .int .i64 0]) ∧ w' = x := fun x => Ms.sum_lies [] _ x (by show (0 : Int) ≤ _; omega) (Or.inl ⟨rfl, rfl⟩)
  have c5 : ∀ (y : World) (g : Nat), y.heap[g]? = some (.cells #[.int .i64 0, .int .i64 0] 3 (0, 0)) → Calls Try.prog 12 #[.slice (some ⟨g, 0, none⟩) 2 2] y fun e w' => e = .returned (.tuple #[.int .i64 0, .int .i64 0]) ∧ w' = y := fun y g hy => Ms.sum_lies [0, 0] _ y (by show (2 : Int) ≤ _; omega) (pair_lies hy (wf_one (by omega) (by omega)) (wf_one (by omega) (by omega)))
  clear w0 w1 w2 hc0
  obtain ⟨ia, hia, hza0, hza1, hza2⟩ := info_parts Ow.info3'
  go_enter Try.func5, Try.ntmps5
  go_wp2_with fail
  refine wp_loop_rounds 1 ?_
  rw [rounds_succ]
  go_wp2_with fail
  refine wp_loop_rounds 1 ?_
  rw [rounds_succ]
  go_wp2_with fail
  refine (pk _).mono ?_
  rintro e y ⟨rfl, hy⟩
  rw [hy]; clear hy y pk
  go_wp2_with fail
  refine (c1 _).mono ?_
  rintro e y ⟨rfl, hy⟩
  rw [hy]; clear hy y
  go_wp2_with fail
  refine (c1 _).mono ?_
  rintro e y ⟨rfl, hy⟩
  rw [hy]; clear hy y
  go_wp2_with fail
  refine (c1 _).mono ?_
  rintro e y ⟨rfl, hy⟩
  rw [hy]; clear hy y
  go_wp2_with fail
  refine (c1 _).mono ?_
  rintro e y ⟨rfl, hy⟩
  rw [hy]; clear hy y
  go_wp2_with fail
  refine (c5 _ _ (heap_alloc_new w _)).mono ?_
  rintro e y ⟨rfl, hy⟩
  rw [hy]; clear hy y c5 c1
  have BB : Below w.heap.size w (w.alloc (.cells #[.int .i64 0, .int .i64 0] 3)) := Kb.below_one _ _
  generalize w.alloc (.cells #[.int .i64 0, .int .i64 0] 3) = y1 at *
  replace BB : Hid (Below w.heap.size w y1) := BB
  have osz : w.heap.size ≤ y1.heap.size := BB.out.size
  go_wp2_with (at_builtin; refine Tp.wpList_append_keeps _ rfl _ _ _ rfl w.heap.size 3 ia _ 1 8 Try.underlying30 hia hza0 hza1 hza2 rfl (by omega) _ 0 _ rfl (Ow.own_nil _ _ _) ⟨y1.heap.size, 0, Option.none⟩ 2 2 _ rfl (by rfl) (World.news_of_block (heap_alloc_new y1 _)) (by simp [Value.oneCell']) (by omega) (by unfold maxLen; omega) (by omega) (by first | omega | (simp <;> omega)) (y1.heap.size + 1) (by simp) ?_; intro ga ca wa own1 own2 g1 hat hlt1; replace own1 : Hid (World.ownsRow _ _ _ _ _ _ _) := own1)
  have c6 := Ms.sum_lies ([] ++ [999999999999, 1]) _ wa (by show (2 : Int) ≤ _; omega) (own_snoc rfl own1.out (wf_app (by intro x hx; cases hx) wf_most))
  rw [over (by intro x hx; cases hx)] at c6
  generalize sumV ([] ++ [999999999999, 1]) = V6 at *
  have B3 : Hid (Below w.heap.size w wa) := below_grown (base := w.heap.size) (Kb.keepB BB.out (Kb.below_one _ _)) g1 (Ow.own_nil _ _ 3) (Nat.le_refl _)
  clear own1 own2 g1 hat hlt1 BB osz
  have osz : w.heap.size ≤ wa.heap.size := B3.out.size
  rw [show 0 + 2 = 2 from rfl] at c6
  refine c6.mono ?_
  rintro e y ⟨rfl, hy⟩
  rw [hy]; clear hy y c6
  go_wp2_with (at_builtin; refine Tp.wpList_append_keeps _ rfl _ _ _ rfl w.heap.size 3 ia _ 1 8 Try.underlying30 hia hza0 hza1 hza2 rfl (by omega) _ 0 _ rfl (Ow.own_nil _ _ _) ⟨wa.heap.size, 0, Option.none⟩ 1 1 _ rfl (by rfl) (World.news_of_block (heap_alloc_new wa _)) (by simp [Value.oneCell']) (by omega) (by unfold maxLen; omega) (by omega) (by first | omega | (simp <;> omega)) (wa.heap.size + 1) (by simp) ?_; intro gb cb wb own1 own2 g1 hat hlt1; replace own1 : Hid (World.ownsRow _ _ _ _ _ _ _) := own1)
  have c7 := Ms.sum_lies ([] ++ [-1]) _ wb (by show (1 : Int) ≤ _; omega) (own_snoc rfl own1.out (wf_app (by intro x hx; cases hx) wf_neg))
  rw [bad []] at c7
  generalize sumV ([] ++ [-1]) = V7 at *
  have B4 : Hid (Below w.heap.size w wb) := below_grown (base := w.heap.size) (Kb.keepB B3.out (Kb.below_one _ _)) g1 (Ow.own_nil _ _ 3) (Nat.le_refl _)
  clear own1 own2 g1 hat hlt1 B3 osz
  have osz : w.heap.size ≤ wb.heap.size := B4.out.size
  rw [show 0 + 1 = 1 from rfl] at c7
  refine c7.mono ?_
  rintro e y ⟨rfl, hy⟩
  rw [hy]; clear hy y c7
  go_wp2_with fail
  refine (pu _).mono ?_
  rintro e y ⟨rfl, hy⟩
  rw [hy]; clear hy y pu
  go_wp2_with (at_builtin; refine Tp.wpList_append_keeps _ rfl _ _ _ rfl w.heap.size 3 ia _ 1 8 Try.underlying30 hia hza0 hza1 hza2 rfl (by omega) _ 0 _ rfl (Ow.own_nil _ _ _) ⟨wb.heap.size, 0, Option.none⟩ 1 1 _ rfl (by rfl) (World.news_of_block (heap_alloc_new wb _)) (by simp [Value.oneCell']) (by omega) (by unfold maxLen; omega) (by omega) (by first | omega | (simp <;> omega)) (wb.heap.size + 1) (by simp) ?_; intro gc cc wc own3 own4 g1 hat hlt1; replace own3 : Hid (World.ownsRow _ _ _ _ _ _ _) := own3)
  have B5 : Hid (Below w.heap.size w wc) := below_grown (base := w.heap.size) (Kb.keepB B4.out (Kb.below_one _ _)) g1 (Ow.own_nil _ _ 3) (Nat.le_refl _)
  have LB : Lies wc (.slice (some ⟨gc, 0, none⟩) 1 cc) [1] := own_snoc (z := []) (y := [1]) (n := 0) (m := 1) rfl own3.out (wf_app (by intro x hx; cases hx) wf_uno)
  have HU : isA u = true := (isA_iff u).2 ⟨u1, by omega⟩
  have ht : Tg.tgB [1] = true := by decide
  have pg := Sj.share_good u [1] _ wc LB HU ht
  clear own3 own4 g1 hat hlt1 B4 osz
  rw [show ([1] : List Int).length = 1 from rfl] at pg
  refine pg.mono ?_
  rintro e y ⟨g, c, rfl, hg, hgs, hy, m1, m2, m3⟩
  have B6 := Kb.keepB B5.out hy
  have HD : Deal u [1] (more (xF u [1]) c (u - xS u [1] 1).toNat) := deal u [1] c u1 (by decide) (by decide) m1 m2 m3
  generalize more (xF u [1]) c (u - xS u [1] 1).toNat = f at *
  have h0 : ∀ i, i < 1 → 0 ≤ f i := fun i hi => by
    have h1 := HD.low i hi
    have h2 := xF_bounds u [1] u1 (by decide) (by decide) i
    omega
  have hal : smF f 1 = u := HD.all
  obtain ⟨r1, r2, r3⟩ := fl_good h0 hal (by omega)
  have c8 := Ms.sum_lies (fl f 1) _ y (by rw [fl_len]; omega) (fl_lies (by omega) hg r3)
  rw [r1, r2] at c8
  clear m1 m2 m3 hg hgs hy HD h0 hal r1 r2 r3 ht pg LB B5 HU
  go_wp2_with fail
  refine c8.mono ?_
  rintro e z ⟨rfl, hz⟩
  rw [hz]; clear hz z c8
  go_wp2_with fail
  go_ret
  exact ⟨by simp, B6⟩
end Go.Proofs.Ytgojcebdlafbeab.Tn
