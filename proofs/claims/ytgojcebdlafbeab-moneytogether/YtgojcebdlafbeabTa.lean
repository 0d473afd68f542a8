/- MoneyTogether: the walk, 0 < N, N <= 100. -/
import Derived.Test.YtgojcebdlafbeabTp
import Derived.OpenShut
import Derived.Carry
namespace Go.Proofs.Ytgojcebdlafbeab.Ta
open Go.ChangeShapes Go.WideShapes Go.ChangeAt Go.RowKit
set_option linter.unusedVariables false
open Sl Kb Mp Sa Sf Ow Tp
set_option maxRecDepth 100000 in
set_option maxHeartbeats 12800000 in
theorem walk (v0 : Value) (z0 : List Int) (a1 a2 : Int) (w : World) (w0 : Sl.Lies w v0 z0) (w1 : (Lit.int .i64 a1).wf = true) (w2 : (Lit.int .i64 a2).wf = true) (hc0 : 0 < z0.length) (hc1 : z0.length ≤ 100) :
    Calls Try.prog 5 #[v0, .int .i64 a1, .int .i64 a2] w fun e w' => e = .returned (.bool true) ∧ Below w.heap.size w w' := by
  have b11 := (bounds_i64 w1).1
  have b12 := (bounds_i64 w1).2
  have b21 := (bounds_i64 w2).1
  have b22 := (bounds_i64 w2).2
  have pu := fun x => Pick.pick_any a2 1000000000000 x b21 b22 (by decide) (by decide)
  have u1 := Pick.pick_lo a2 1000000000000 (by decide)
  have u2 := Pick.pick_hi a2 1000000000000 (by decide)
  generalize Pick.pickOf a2 1000000000000 = u at *
  have HF : Hid (∀ x ∈ z0, (Lit.int .i64 x).wf = true) := Ow.lies_wf w0
  obtain ⟨ob, cap, rfl⟩ := Ow.shape w0
  have HL : Hid (Sl.Lies w (.slice ob z0.length cap) z0) := w0
  clear w1 w0 w2
  obtain ⟨N, hN⟩ : ∃ N, N = z0.length := ⟨_, rfl⟩
  rw [← hN] at HL hc0 hc1 ⊢
  have HN : Hid (N = z0.length) := hN
  clear hN
  obtain ⟨ia, hia, hza0, hza1, hza2⟩ := info_parts Ow.info3'
  go_enter Try.func5, Try.ntmps5
  go_wp2_with fail
  go_loopw [7, 9] (fun vl vi wr => ∃ j : Nat, j ≤ N ∧ j ≤ 100 ∧ vi = .int .i64 (j : Int) ∧ Hid (wr.ownsRow w.heap.size 3 1 vl j (iv (pl z0 j))) ∧ Hid (Below w.heap.size w wr)) (fun _ vi _ => 101 - (intOf vi).toNat)
  case atStart => exact ⟨0, Nat.zero_le _, Nat.zero_le _, rfl, Ow.own_nil _ _ _, Below.refl _ _⟩
  case round =>
    obtain ⟨j, hj, hj2, rfl, HO, HB⟩ := hrel
    by_cases hlt : j < N ∧ j < 100
    · obtain ⟨h1, h2⟩ := hlt
      have q1 : (j : Int) < (N : Int) := by omega
      have q2 : (j : Int) < 100 := by omega
      have hjl : j < z0.length := by rw [← HN.out]; exact h1
      rcases HL.out with ⟨e, e2⟩ | ⟨a, cap', e, _, _, hc, _⟩
      · exfalso; rw [e2] at hjl; simp at hjl
      · injection e with e1 e2 e3
        subst e1
        obtain ⟨v, hv⟩ : ∃ v, v = z0[j] := ⟨_, rfl⟩
        have cz : wr.cell? (a.add j) = some (.int .i64 v) := by
          have h0 := hc j hjl
          rw [hv]; exact (HB.out.cell (World.block_lt_of_cell? w _ h0)).trans h0
        have bv := bounds_i64 (HF.out _ (List.getElem_mem hjl))
        rw [← hv] at bv
        have pv := fun x => Pick.pick_any v 2000000000 x bv.1 bv.2 (by decide) (by decide)
        have HP : Hid (Pick.pickOf v 2000000000 = pf z0[j]) := by rw [hv]; rfl
        generalize Pick.pickOf v 2000000000 = p at *
        have osz : w.heap.size ≤ wr.heap.size := HB.out.size
        clear e2 e3 hc hv bv
        go_wp2_with fail
        refine (pv _).mono ?_
        rintro e y ⟨rfl, hy⟩
        rw [hy]; clear hy y pv
        go_wp2_with (at_builtin; refine wpList_append_lies _ rfl _ _ _ rfl w.heap.size 3 ia _ 1 8 Try.underlying30 hia hza0 hza1 hza2 rfl (by omega) _ j _ rfl (HO.out.alloc _) ⟨wr.heap.size, 0, Option.none⟩ 1 1 _ rfl (by rfl) (World.news_of_block (heap_alloc_new wr _)) (by simp [Value.oneCell']) (by omega) (by unfold maxLen; omega) (by omega) (by first | omega | (simp <;> omega)) (wr.heap.size + 1) (by simp) ?_; intro ga ca wa own1 g1 hat hlt1; replace own1 : Hid _ := own1)
        have e9 : pl z0 (j + 1) = pl z0 j ++ [p] := by rw [pl_succ z0 j hjl, HP.out]
        refine ⟨⟨j + 1, by omega, by omega, by go_num, ?_, ?_⟩, by simp only [intOf]; omega⟩
        · show World.ownsRow _ _ _ _ _ _ _
          rw [e9, show iv (pl z0 j ++ [p]) = iv (pl z0 j) ++ [.int .i64 p] by simp [iv]]; exact own1.out
        · refine (HB.out.alloc (by omega) _).grown g1 (by simp; omega) fun k hk => ?_
          have := HO.out.lt k hk
          omega
    · have qe : ¬ (j : Int) < (N : Int) := by omega
      have hjz : j ≤ z0.length := by rw [← HN.out]; exact hj
      have j0 : 0 < j := by omega
      obtain ⟨gl, cl, rfl, gl1, gl2⟩ := HO.out.form j0
      have HX : Hid ((pl z0 j).length = j ∧ (∀ x ∈ pl z0 j, 0 ≤ x ∧ x ≤ 1999999999)) := ⟨pl_len z0 j hjz, pl_in z0 j⟩
      clear hlt hjz HL HF HN
      generalize pl z0 j = L at *
      obtain ⟨s1, s2⟩ := sm_le L HX.out.2
      rw [HX.out.1] at s2
      have HE : Hid (Lies wr _ L) := own_lies HX.out.1.symm HO.out (wf_in HX.out.2)
      obtain ⟨S, hS⟩ : ∃ S, S = sm L := ⟨_, rfl⟩
      rw [← hS] at s1 s2
      have s3 : S ≤ 199999999900 := by omega
      have hlc : j ≤ cl := by
        rcases HO.out.2 with ⟨e, _⟩ | ⟨_, _, _, e, _, _, h, _⟩
        · cases e
        · injection e with e1 e2 e3; subst e3; exact h
      have hcm : cl ≤ 9223372036854775807 := by
        rcases HO.out.2 with ⟨e, _⟩ | ⟨_, _, _, e, _, _, _, h, _⟩
        · cases e
        · injection e with e1 e2 e3; subst e3; exact h
      obtain ⟨x1, hx1⟩ : ∃ x1, x1 = wr := ⟨_, rfl⟩
      rw [← hx1] at HO HB HE gl2 ⊢
      clear hx1 wr s2
      have HS : Hid (S = sm L) := hS
      have HG : Hid (gl < x1.heap.size ∧ w.heap.size ≤ gl) := ⟨gl2, gl1⟩
      clear hS gl1 gl2
      go_wp2_with fail
      go_loopw [8, 10] (fun vb vi wr => ∃ m q : Nat, m + q = j ∧ vi = .int .i64 ((m : Int) - 1) ∧ Hid (wr.ownsRow x1.heap.size 3 1 vb q (iv (L.drop m).reverse)) ∧ Hid (Below x1.heap.size x1 wr)) (fun _ vi _ => (intOf vi + 1).toNat)
      case atStart => exact ⟨j, 0, rfl, by go_num, by show World.ownsRow _ _ _ _ _ _ _; rw [← HX.out.1, List.drop_length]; exact Ow.own_nil _ _ _, Below.refl _ _⟩
      case round =>
        obtain ⟨m, q, hmq, rfl, HQ, HC⟩ := hrel
        rcases m with _ | m
        · rw [show (((0 : Nat) : Int) - 1) = -1 by decide]
          obtain rfl : q = j := by omega
          have O1 : Hid (wr.ownsRow w.heap.size 3 1 (.slice (some ⟨gl, 0, none⟩) q cl) q (iv L)) := own_below HO.out HC.out
          have O2 : Hid (wr.ownsRow x1.heap.size 3 1 _ q (iv (L.drop 0).reverse)) := HQ.out
          rw [List.drop_zero] at O2
          have BB : Hid (Below w.heap.size w wr) := Kb.keepB HB.out HC.out
          have L1 : Hid (Lies wr _ L) := Sl.lies_below HE.out HC.out
          have HY : Hid (L.reverse.length = q ∧ (∀ x ∈ L.reverse, 0 ≤ x ∧ x ≤ 1999999999) ∧ sm L.reverse = S) := ⟨by rw [List.length_reverse, HX.out.1], fun x hx => HX.out.2 x (List.mem_reverse.1 hx), by rw [sm_rev, HS.out]⟩
          have L2 : Hid (Lies wr _ L.reverse) := own_lies HY.out.1.symm O2.out (wf_in HY.out.2.1)
          clear HQ HO HB HE
          generalize L.reverse = B at *
          have pk := fun x => Pick.pick_any a1 ((q : Int) + 1) x b11 b12 (by omega) (by omega)
          have k1 := Pick.pick_lo a1 ((q : Int) + 1) (by omega)
          have k2 := Pick.pick_hi a1 ((q : Int) + 1) (by omega)
          generalize Pick.pickOf a1 ((q : Int) + 1) = K at *
          obtain ⟨k, rfl⟩ : ∃ k : Nat, K = (k : Int) := ⟨K.toNat, by omega⟩
          have hk : k ≤ q := by omega
          have k3 : (k : Int) ≤ (q : Int) := by omega
          have k4 : (k : Int) ≤ (cl : Int) := by omega
          have c1 := Ms.sum_lies L _ wr (by rw [HX.out.1]; omega) L1.out
          have c2 := Ms.sum_lies B _ wr (by rw [HY.out.1]; omega) L2.out
          rw [(good HX.out.2 (by rw [HX.out.1]; omega)).1, (good HX.out.2 (by rw [HX.out.1]; omega)).2, ← HS.out] at c1
          rw [(good HY.out.2.1 (by rw [HY.out.1]; omega)).1, (good HY.out.2.1 (by rw [HY.out.1]; omega)).2, HY.out.2.2] at c2
          have L1' := L1.out
          rw [← HX.out.1] at L1'
          have cc := cut_lies L1' k (by rw [HX.out.1]; exact hk)
          rw [HX.out.1] at cc
          have t1 : ∀ x ∈ L.take k, 0 ≤ x ∧ x ≤ 1999999999 := fun x hx => HX.out.2 x (List.mem_of_mem_take hx)
          have t2 : ∀ x ∈ L.drop k, 0 ≤ x ∧ x ≤ 1999999999 := fun x hx => HX.out.2 x (List.mem_of_mem_drop hx)
          have t3 : (L.take k).length ≤ 100 := by rw [List.length_take]; omega
          have t4 : (L.drop k).length ≤ 100 := by rw [List.length_drop, HX.out.1]; omega
          have c3 := Ms.sum_lies (L.take k) _ wr (by omega) cc.1
          have c4 := Ms.sum_lies (L.drop k) _ wr (by omega) cc.2
          rw [(good t1 t3).1, (good t1 t3).2] at c3
          rw [(good t2 t4).1, (good t2 t4).2] at c4
          have e1 := sm_cut L k
          have e2 := (sm_le _ t1).1
          have e3 := (sm_le _ t2).1
          rw [← HS.out] at e1
          generalize sm (L.take k) = X at *
          have c4n : q ≤ k → Calls Try.prog 12 #[.slice (some ⟨gl, 0, none⟩) 0 0] wr fun e w' => e = .returned (.tuple #[.int .i64 (sm (L.drop k)), .int .i64 0]) ∧ w' = wr := fun h => by
            have := Ms.sum_lies [] (.slice (some ⟨gl, 0, none⟩) 0 0) wr (by show (0 : Int) ≤ _; omega) (Or.inr ⟨_, 0, rfl, Nat.le_refl _, Nat.zero_le _, fun i hi => absurd hi (Nat.not_lt_zero _), by intro x hx; cases hx⟩)
            rw [List.drop_eq_nil_of_le (by rw [HX.out.1]; exact h)]
            exact this
          generalize sm (L.drop k) = Y at *
          have c5 : ∀ y : World, y.heap[wr.heap.size]? = some (.cells #[.int .i64 X, .int .i64 Y] 3 (0, 0)) → Calls Try.prog 12 #[.slice (some ⟨wr.heap.size, 0, none⟩) 2 2] y fun e w' => e = .returned (.tuple #[.int .i64 S, .int .i64 0]) ∧ w' = y := fun y hy => by
            have m1 : IntKind.i64.min = -9223372036854775808 := rfl
            have m2 : IntKind.i64.max = 9223372036854775807 := rfl
            have := Ms.sum_lies [X, Y] _ y (by show (2 : Int) ≤ _; omega) (pair_lies hy (by simp only [Lit.wf, Bool.and_eq_true, decide_eq_true_eq, m1, m2]; omega) (by simp only [Lit.wf, Bool.and_eq_true, decide_eq_true_eq, m1, m2]; omega))
            rw [(two e2 e3 (by omega)).1, (two e2 e3 (by omega)).2, e1] at this
            exact this
          clear L1' cc t1 t2 t3 t4 L1 L2
          go_wp2_with fail
          refine (pk _).mono ?_
          rintro e y ⟨rfl, hy⟩
          rw [hy]; clear hy y pk
          go_wp2_with fail
          refine c1.mono ?_
          rintro e y ⟨rfl, hy⟩
          rw [hy]; clear hy y c1
          go_wp2_with fail
          refine c2.mono ?_
          rintro e y ⟨rfl, hy⟩
          rw [hy]; clear hy y c2
          go_wp2_with fail
          refine c3.mono ?_
          rintro e y ⟨rfl, hy⟩
          rw [hy]; clear hy y c3
          by_cases hck : cl = k
          · have hkq : q = k := by omega
            replace c4 := c4n (by omega)
            clear c4n
            have hqc : q = cl := by omega
            clear hck
            subst hkq
            subst hqc
            as_aux_lemma =>
              go_wp2_with fail
              refine c4.mono ?_
              rintro e y ⟨rfl, hy⟩
              rw [hy]; clear hy y c4
              go_wp2_with fail
              refine (c5 _ (heap_alloc_new wr _)).mono ?_
              rintro e y ⟨rfl, hy⟩
              rw [hy]; clear hy y c5
              have O1' := O1.out.alloc (.cells #[.int .i64 X, .int .i64 Y] 3)
              have O2' := O2.out.alloc (.cells #[.int .i64 X, .int .i64 Y] 3)
              have BB' : Below w.heap.size w (wr.alloc (.cells #[.int .i64 X, .int .i64 Y] 3)) := Kb.keepB BB.out (Kb.below_one _ _)
              have X1 : x1.heap.size ≤ (wr.alloc (.cells #[.int .i64 X, .int .i64 Y] 3)).heap.size := by have := HC.out.size; simp; omega
              generalize wr.alloc (.cells #[.int .i64 X, .int .i64 Y] 3) = y1 at *
              replace O1' : Hid (World.ownsRow _ _ _ _ _ _ _) := O1'
              replace O2' : Hid (World.ownsRow _ _ _ _ _ _ _) := O2'
              replace BB' : Hid _ := BB'
              clear O1 O2 BB HC
              have osz : w.heap.size ≤ y1.heap.size := BB'.out.size
              go_wp2_with (at_builtin; refine Tp.wpList_append_keeps _ rfl _ _ _ rfl w.heap.size 3 ia _ 1 8 Try.underlying30 hia hza0 hza1 hza2 rfl (by omega) _ q _ rfl (O1'.out.alloc _) ⟨y1.heap.size, 0, Option.none⟩ 2 2 _ rfl (by rfl) (World.news_of_block (heap_alloc_new y1 _)) (by simp [Value.oneCell']) (by omega) (by unfold maxLen; omega) (by omega) (by first | omega | (simp <;> omega)) (y1.heap.size + 1) (by simp) ?_; intro ga ca wa own1 own2 g1 hat hlt1; replace own1 : Hid (World.ownsRow _ _ _ _ _ _ _) := own1; replace own2 : Hid (World.ownsRow _ _ _ _ _ _ _) := own2)
              have c6 := Ms.sum_lies (L ++ [999999999999, 1]) _ wa (by rw [List.length_append, HX.out.1]; show ((q + 2 : Nat) : Int) ≤ _; omega) (own_snoc (by rw [List.length_append, HX.out.1]; rfl) own1.out (wf_app (wf_in HX.out.2) wf_most))
              rw [over HX.out.2] at c6
              generalize sumV (L ++ [999999999999, 1]) = V6 at *
              have O3 : Hid (wa.ownsRow x1.heap.size 3 1 _ q (iv B)) := (O2'.out.alloc _).kept g1 (Or.inr (by
                intro he
                have h1 := (O2'.out.lt gl he).1
                have := HG.out
                omega))
              have B3 : Hid (Below w.heap.size w wa) := below_grown (base := w.heap.size) (Kb.keepB BB'.out (Kb.below_one _ _)) g1 (O1'.out.alloc _) (Nat.le_refl _)
              have X3 : x1.heap.size ≤ wa.heap.size := by have := g1.size; simp at this; omega
              clear own1 own2 g1 hat hlt1 O1' O2' BB'
              refine c6.mono ?_
              rintro e y ⟨rfl, hy⟩
              rw [hy]; clear hy y c6
              go_wp2_with (at_builtin; refine Tp.wpList_append_keeps _ rfl _ _ _ rfl x1.heap.size 3 ia _ 1 8 Try.underlying30 hia hza0 hza1 hza2 rfl (by omega) _ q _ rfl (O3.out.alloc _) ⟨wa.heap.size, 0, Option.none⟩ 1 1 _ rfl (by rfl) (World.news_of_block (heap_alloc_new wa _)) (by simp [Value.oneCell']) (by omega) (by unfold maxLen; omega) (by omega) (by first | omega | (simp <;> omega)) (wa.heap.size + 1) (by simp) ?_; intro gb cb wb own1 own2 g1 hat hlt1; replace own1 : Hid (World.ownsRow _ _ _ _ _ _ _) := own1; replace own2 : Hid (World.ownsRow _ _ _ _ _ _ _) := own2)
              have c7 := Ms.sum_lies (B ++ [-1]) _ wb (by rw [List.length_append, HY.out.1]; show ((q + 1 : Nat) : Int) ≤ _; omega) (own_snoc (by rw [List.length_append, HY.out.1]; rfl) own1.out (wf_app (wf_in HY.out.2.1) wf_neg))
              rw [bad B] at c7
              generalize sumV (B ++ [-1]) = V7 at *
              have B4 : Hid (Below w.heap.size w wb) := below_grown (base := x1.heap.size) (Kb.keepB B3.out (Kb.below_one _ _)) g1 (O3.out.alloc _) (by have := HG.out; omega)
              have X4 : x1.heap.size ≤ wb.heap.size := by have := g1.size; simp at this; omega
              clear own1 g1 hat hlt1 O3 B3
              refine c7.mono ?_
              rintro e y ⟨rfl, hy⟩
              rw [hy]; clear hy y c7
              go_wp2_with fail
              refine (pu _).mono ?_
              rintro e y ⟨rfl, hy⟩
              rw [hy]; clear hy y pu
              go_wp2_with (at_builtin; refine Tp.wpList_append_keeps _ rfl _ _ _ rfl x1.heap.size 3 ia _ 1 8 Try.underlying30 hia hza0 hza1 hza2 rfl (by omega) _ q _ rfl (own2.out.alloc _) ⟨wb.heap.size, 0, Option.none⟩ 1 1 _ rfl (by rfl) (World.news_of_block (heap_alloc_new wb _)) (by simp [Value.oneCell']) (by omega) (by unfold maxLen; omega) (by omega) (by first | omega | (simp <;> omega)) (wb.heap.size + 1) (by simp) ?_; intro gc cc wc own3 own4 g1 hat hlt1; replace own3 : Hid (World.ownsRow _ _ _ _ _ _ _) := own3; clear own4)
              have B5 : Hid (Below w.heap.size w wc) := below_grown (base := x1.heap.size) (Kb.keepB B4.out (Kb.below_one _ _)) g1 (own2.out.alloc _) (by have := HG.out; omega)
              have LB : Lies wc _ (B ++ [1]) := own_snoc (by rw [List.length_append, HY.out.1]; rfl) own3.out (wf_app (wf_in HY.out.2.1) wf_uno)
              have HQ : Hid ((B ++ [1]).length = q + 1) := by show _ = _; rw [List.length_append, HY.out.1]; rfl
              have HU : Hid (isA u = true) := (isA_iff u).2 ⟨u1, by omega⟩
              generalize B ++ [1] = Z at *
              clear g1 hat hlt1 own2 own3 B4
              cases ht : Tg.tgB Z
              · have pb := Sj.share_bad u Z _ wc (by rw [HQ.out]; omega) LB (fun _ => ht)
                rw [Sj.shE, if_pos HU.out, if_neg (by rw [ht]; decide)] at pb
                refine pb.mono ?_
                rintro e y ⟨rfl, hy⟩
                have B6 := Kb.keepB B5.out hy
                clear hy
                go_wp2_with fail
                go_ret
                exact ⟨by simp, B6⟩
              · have pg := Sj.share_good u Z _ wc LB HU.out ht
                rw [HQ.out] at pg
                refine pg.mono ?_
                rintro e y ⟨g, c, rfl, hg, hgs, hy, m1, m2, m3⟩
                have B6 := Kb.keepB B5.out hy
                have hq1 : q + 1 ≤ 100 := by
                  have := ht
                  simp only [Tg.tgB, Tg.wOK, Bool.and_eq_true, decide_eq_true_eq, HQ.out] at this
                  exact this.1.1
                have hZW : Z.all Tg.isW = true := by
                  have := ht
                  simp only [Tg.tgB, Tg.wOK, Bool.and_eq_true, decide_eq_true_eq] at this
                  exact this.1.2
                have hZ0 : 0 < sm Z := by
                  have := ht
                  simp only [Tg.tgB, Tg.wOK, Bool.and_eq_true, decide_eq_true_eq] at this
                  exact this.2
                have HD : Deal u Z (more (xF u Z) c (u - xS u Z (q + 1)).toNat) := by
                  have e := HQ.out
                  have := deal u Z c u1 hZ0 hZW (by rw [e]; exact m1) (by rw [e]; exact m2) (by rw [e]; exact m3)
                  rw [e] at this; exact this
                generalize more (xF u Z) c (u - xS u Z (q + 1)).toNat = f at *
                have h0 : ∀ i, i < q + 1 → 0 ≤ f i := fun i hi => by
                  have h1 := HD.low i (by rw [HQ.out]; exact hi)
                  have h2 := xF_bounds u Z u1 hZ0 hZW i
                  omega
                have hal : smF f (q + 1) = u := by have := HD.all; rw [HQ.out] at this; exact this
                obtain ⟨r1, r2, r3⟩ := fl_good h0 hal (by omega)
                have c8 := Ms.sum_lies (fl f (q + 1)) _ y (by rw [fl_len]; omega) (fl_lies (by omega) hg r3)
                rw [r1, r2] at c8
                clear m1 m2 m3 hg hgs hy HD h0 hal r1 r2 r3 hq1 hZW hZ0 ht pg LB B5
                go_wp2_with fail
                refine c8.mono ?_
                rintro e z ⟨rfl, hz⟩
                rw [hz]; clear hz z c8
                go_wp2_with fail
                go_ret
                exact ⟨by simp, B6⟩
          · clear c4n
            rw [add0] at c4
            as_aux_lemma =>
              go_wp2_with fail
              refine c4.mono ?_
              rintro e y ⟨rfl, hy⟩
              rw [hy]; clear hy y c4
              go_wp2_with fail
              refine (c5 _ (heap_alloc_new wr _)).mono ?_
              rintro e y ⟨rfl, hy⟩
              rw [hy]; clear hy y c5
              have O1' := O1.out.alloc (.cells #[.int .i64 X, .int .i64 Y] 3)
              have O2' := O2.out.alloc (.cells #[.int .i64 X, .int .i64 Y] 3)
              have BB' : Below w.heap.size w (wr.alloc (.cells #[.int .i64 X, .int .i64 Y] 3)) := Kb.keepB BB.out (Kb.below_one _ _)
              have X1 : x1.heap.size ≤ (wr.alloc (.cells #[.int .i64 X, .int .i64 Y] 3)).heap.size := by have := HC.out.size; simp; omega
              generalize wr.alloc (.cells #[.int .i64 X, .int .i64 Y] 3) = y1 at *
              replace O1' : Hid (World.ownsRow _ _ _ _ _ _ _) := O1'
              replace O2' : Hid (World.ownsRow _ _ _ _ _ _ _) := O2'
              replace BB' : Hid _ := BB'
              clear O1 O2 BB HC
              have osz : w.heap.size ≤ y1.heap.size := BB'.out.size
              go_wp2_with (at_builtin; refine Tp.wpList_append_keeps _ rfl _ _ _ rfl w.heap.size 3 ia _ 1 8 Try.underlying30 hia hza0 hza1 hza2 rfl (by omega) _ q _ rfl (O1'.out.alloc _) ⟨y1.heap.size, 0, Option.none⟩ 2 2 _ rfl (by rfl) (World.news_of_block (heap_alloc_new y1 _)) (by simp [Value.oneCell']) (by omega) (by unfold maxLen; omega) (by omega) (by first | omega | (simp <;> omega)) (y1.heap.size + 1) (by simp) ?_; intro ga ca wa own1 own2 g1 hat hlt1; replace own1 : Hid (World.ownsRow _ _ _ _ _ _ _) := own1; replace own2 : Hid (World.ownsRow _ _ _ _ _ _ _) := own2)
              have c6 := Ms.sum_lies (L ++ [999999999999, 1]) _ wa (by rw [List.length_append, HX.out.1]; show ((q + 2 : Nat) : Int) ≤ _; omega) (own_snoc (by rw [List.length_append, HX.out.1]; rfl) own1.out (wf_app (wf_in HX.out.2) wf_most))
              rw [over HX.out.2] at c6
              generalize sumV (L ++ [999999999999, 1]) = V6 at *
              have O3 : Hid (wa.ownsRow x1.heap.size 3 1 _ q (iv B)) := (O2'.out.alloc _).kept g1 (Or.inr (by
                intro he
                have h1 := (O2'.out.lt gl he).1
                have := HG.out
                omega))
              have B3 : Hid (Below w.heap.size w wa) := below_grown (base := w.heap.size) (Kb.keepB BB'.out (Kb.below_one _ _)) g1 (O1'.out.alloc _) (Nat.le_refl _)
              have X3 : x1.heap.size ≤ wa.heap.size := by have := g1.size; simp at this; omega
              clear own1 own2 g1 hat hlt1 O1' O2' BB'
              refine c6.mono ?_
              rintro e y ⟨rfl, hy⟩
              rw [hy]; clear hy y c6
              go_wp2_with (at_builtin; refine Tp.wpList_append_keeps _ rfl _ _ _ rfl x1.heap.size 3 ia _ 1 8 Try.underlying30 hia hza0 hza1 hza2 rfl (by omega) _ q _ rfl (O3.out.alloc _) ⟨wa.heap.size, 0, Option.none⟩ 1 1 _ rfl (by rfl) (World.news_of_block (heap_alloc_new wa _)) (by simp [Value.oneCell']) (by omega) (by unfold maxLen; omega) (by omega) (by first | omega | (simp <;> omega)) (wa.heap.size + 1) (by simp) ?_; intro gb cb wb own1 own2 g1 hat hlt1; replace own1 : Hid (World.ownsRow _ _ _ _ _ _ _) := own1; replace own2 : Hid (World.ownsRow _ _ _ _ _ _ _) := own2)
              have c7 := Ms.sum_lies (B ++ [-1]) _ wb (by rw [List.length_append, HY.out.1]; show ((q + 1 : Nat) : Int) ≤ _; omega) (own_snoc (by rw [List.length_append, HY.out.1]; rfl) own1.out (wf_app (wf_in HY.out.2.1) wf_neg))
              rw [bad B] at c7
              generalize sumV (B ++ [-1]) = V7 at *
              have B4 : Hid (Below w.heap.size w wb) := below_grown (base := x1.heap.size) (Kb.keepB B3.out (Kb.below_one _ _)) g1 (O3.out.alloc _) (by have := HG.out; omega)
              have X4 : x1.heap.size ≤ wb.heap.size := by have := g1.size; simp at this; omega
              clear own1 g1 hat hlt1 O3 B3
              refine c7.mono ?_
              rintro e y ⟨rfl, hy⟩
              rw [hy]; clear hy y c7
              go_wp2_with fail
              refine (pu _).mono ?_
              rintro e y ⟨rfl, hy⟩
              rw [hy]; clear hy y pu
              go_wp2_with (at_builtin; refine Tp.wpList_append_keeps _ rfl _ _ _ rfl x1.heap.size 3 ia _ 1 8 Try.underlying30 hia hza0 hza1 hza2 rfl (by omega) _ q _ rfl (own2.out.alloc _) ⟨wb.heap.size, 0, Option.none⟩ 1 1 _ rfl (by rfl) (World.news_of_block (heap_alloc_new wb _)) (by simp [Value.oneCell']) (by omega) (by unfold maxLen; omega) (by omega) (by first | omega | (simp <;> omega)) (wb.heap.size + 1) (by simp) ?_; intro gc cc wc own3 own4 g1 hat hlt1; replace own3 : Hid (World.ownsRow _ _ _ _ _ _ _) := own3; clear own4)
              have B5 : Hid (Below w.heap.size w wc) := below_grown (base := x1.heap.size) (Kb.keepB B4.out (Kb.below_one _ _)) g1 (own2.out.alloc _) (by have := HG.out; omega)
              have LB : Lies wc _ (B ++ [1]) := own_snoc (by rw [List.length_append, HY.out.1]; rfl) own3.out (wf_app (wf_in HY.out.2.1) wf_uno)
              have HQ : Hid ((B ++ [1]).length = q + 1) := by show _ = _; rw [List.length_append, HY.out.1]; rfl
              have HU : Hid (isA u = true) := (isA_iff u).2 ⟨u1, by omega⟩
              generalize B ++ [1] = Z at *
              clear g1 hat hlt1 own2 own3 B4
              cases ht : Tg.tgB Z
              · have pb := Sj.share_bad u Z _ wc (by rw [HQ.out]; omega) LB (fun _ => ht)
                rw [Sj.shE, if_pos HU.out, if_neg (by rw [ht]; decide)] at pb
                refine pb.mono ?_
                rintro e y ⟨rfl, hy⟩
                have B6 := Kb.keepB B5.out hy
                clear hy
                go_wp2_with fail
                go_ret
                exact ⟨by simp, B6⟩
              · have pg := Sj.share_good u Z _ wc LB HU.out ht
                rw [HQ.out] at pg
                refine pg.mono ?_
                rintro e y ⟨g, c, rfl, hg, hgs, hy, m1, m2, m3⟩
                have B6 := Kb.keepB B5.out hy
                have hq1 : q + 1 ≤ 100 := by
                  have := ht
                  simp only [Tg.tgB, Tg.wOK, Bool.and_eq_true, decide_eq_true_eq, HQ.out] at this
                  exact this.1.1
                have hZW : Z.all Tg.isW = true := by
                  have := ht
                  simp only [Tg.tgB, Tg.wOK, Bool.and_eq_true, decide_eq_true_eq] at this
                  exact this.1.2
                have hZ0 : 0 < sm Z := by
                  have := ht
                  simp only [Tg.tgB, Tg.wOK, Bool.and_eq_true, decide_eq_true_eq] at this
                  exact this.2
                have HD : Deal u Z (more (xF u Z) c (u - xS u Z (q + 1)).toNat) := by
                  have e := HQ.out
                  have := deal u Z c u1 hZ0 hZW (by rw [e]; exact m1) (by rw [e]; exact m2) (by rw [e]; exact m3)
                  rw [e] at this; exact this
                generalize more (xF u Z) c (u - xS u Z (q + 1)).toNat = f at *
                have h0 : ∀ i, i < q + 1 → 0 ≤ f i := fun i hi => by
                  have h1 := HD.low i (by rw [HQ.out]; exact hi)
                  have h2 := xF_bounds u Z u1 hZ0 hZW i
                  omega
                have hal : smF f (q + 1) = u := by have := HD.all; rw [HQ.out] at this; exact this
                obtain ⟨r1, r2, r3⟩ := fl_good h0 hal (by omega)
                have c8 := Ms.sum_lies (fl f (q + 1)) _ y (by rw [fl_len]; omega) (fl_lies (by omega) hg r3)
                rw [r1, r2] at c8
                clear m1 m2 m3 hg hgs hy HD h0 hal r1 r2 r3 hq1 hZW hZ0 ht pg LB B5
                go_wp2_with fail
                refine c8.mono ?_
                rintro e z ⟨rfl, hz⟩
                rw [hz]; clear hz z c8
                go_wp2_with fail
                go_ret
                exact ⟨by simp, B6⟩
        · rw [show (((m + 1 : Nat) : Int) - 1) = (m : Int) by omega]
          have hmL : m < L.length := by rw [HX.out.1]; omega
          have qm : (m : Int) < (j : Int) := by omega
          have qm0 : (0 : Int) ≤ (m : Int) := by omega
          obtain ⟨p, hp⟩ : ∃ p, p = L[m] := ⟨_, rfl⟩
          have cz : wr.cell? ⟨gl, m, none⟩ = some (.int .i64 p) := by
            rcases (Sl.lies_below HE.out HC.out) with ⟨e, _⟩ | ⟨a', c', e, _, _, hc, _⟩
            · cases e
            · injection e with e1 e2 e3
              injection e1 with e1
              subst e1
              rw [hp, ← add0]; exact hc m hmL
          have HP : Hid (p = L[m]) := hp
          have osz : x1.heap.size ≤ wr.heap.size := HC.out.size
          clear hp
          go_wp2_with (at_builtin; refine wpList_append_lies _ rfl _ _ _ rfl x1.heap.size 3 ia _ 1 8 Try.underlying30 hia hza0 hza1 hza2 rfl (by omega) _ q _ rfl (HQ.out.alloc _) ⟨wr.heap.size, 0, Option.none⟩ 1 1 _ rfl (by rfl) (World.news_of_block (heap_alloc_new wr _)) (by simp [Value.oneCell']) (by omega) (by unfold maxLen; omega) (by omega) (by first | omega | (simp <;> omega)) (wr.heap.size + 1) (by simp) ?_; intro ga ca wa own1 g1 hat hlt1; replace own1 : Hid _ := own1)
          refine ⟨⟨m, q + 1, by omega, by go_num, ?_, ?_⟩, by simp only [intOf]; omega⟩
          · show World.ownsRow _ _ _ _ _ _ _
            rw [revs hmL, ← HP.out, iv_append]; exact own1.out
          · refine (HC.out.alloc (by omega) _).grown g1 (by simp; omega) fun k hk => ?_
            have := HQ.out.lt k hk
            omega
end Go.Proofs.Ytgojcebdlafbeab.Ta
