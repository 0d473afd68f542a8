/- MoneyFair: the walk, ¬ N ≤ 100. -/
import Derived.Test.YtgojcebdlafbeabFp
namespace Go.Proofs.Ytgojcebdlafbeab.Fb
open Go.ChangeShapes Go.WideShapes Go.ChangeAt Go.RowKit
open Go.ChangeMaps (open_string shut_string)
set_option linter.unusedVariables false
open Sl Kb Mp Sa Sf Ow Fp
set_option maxRecDepth 100000 in
set_option maxHeartbeats 25600000 in
theorem walk (a0 : Int) (v1 : Value) (z1 : List Int) (w : World) (w0 : (Lit.int .i64 a0).wf = true) (w1 : Sl.Lies w v1 z1) (hc0 : ¬ z1.length ≤ 100) :
    Calls Try.prog 4 #[.int .i64 a0, v1] w fun e w' => e = .returned (.bool true) ∧ Below w.heap.size w w' := by
  have a01 := (bounds_i64 w0).1
  have a02 := (bounds_i64 w0).2
  have pu := fun x => Pick.pick_any a0 1000000000000 x a01 a02 (by decide) (by decide)
  have u1 := Pick.pick_lo a0 1000000000000 (by decide)
  have u2 := Pick.pick_hi a0 1000000000000 (by decide)
  generalize Pick.pickOf a0 1000000000000 = u at *
  have HF : Hid (∀ x ∈ z1, (Lit.int .i64 x).wf = true) := Ow.lies_wf w1
  obtain ⟨ob, cap, rfl⟩ := Ow.shape w1
  have HL : Hid (Sl.Lies w (.slice ob z1.length cap) z1) := w1
  clear w1 w0 a01 a02
  obtain ⟨N, hN⟩ : ∃ N, N = z1.length := ⟨_, rfl⟩
  rw [← hN] at HL ⊢
  have HN : Hid (N = z1.length) := hN
  clear hN
  have hA : ¬ N ≤ 100 := by rw [HN.out]; exact hc0
  clear hc0
  obtain ⟨ia, hia, hza0, hza1, hza2⟩ := info_parts Ow.info3'
  · go_enter Try.func4, Try.ntmps4
    go_wp2_with fail
    refine (pu _).mono ?_
    rintro e y1 ⟨rfl, hy⟩
    rw [hy]; clear hy y1 pu
    go_wp2_with fail
    go_loopw [6, 7, 8] (fun vl vs vi wr => ∃ (j : Nat) (S : Int), j ≤ N ∧ j ≤ 100 ∧ vi = .int .i64 (j : Int) ∧ vs = .int .i64 S ∧ Hid (S = sm (pl z1 j)) ∧ Hid (wr.ownsRow w.heap.size 3 1 vl j (iv (pl z1 j))) ∧ Hid (Below w.heap.size w wr)) (fun _ _ vi _ => 101 - (intOf vi).toNat)
    case atStart => exact ⟨0, 0, Nat.zero_le _, Nat.zero_le _, rfl, rfl, rfl, Ow.own_nil _ _ _, Below.refl _ _⟩
    case round =>
      obtain ⟨j, S, hj, hj2, rfl, rfl, HS, HO, HB⟩ := hrel
      by_cases hlt : j < N ∧ j < 100
      · obtain ⟨h1, h2⟩ := hlt
        have q1 : (j : Int) < (N : Int) := by omega
        have q2 : (j : Int) < 100 := by omega
        have hjl : j < z1.length := by rw [← HN.out]; exact h1
        rcases HL.out with ⟨e, e2⟩ | ⟨a, cap', e, _, _, hc, _⟩
        · exfalso; rw [e2] at hjl; simp at hjl
        · injection e with e1 e2 e3
          subst e1
          obtain ⟨v, hv⟩ : ∃ v, v = z1[j] := ⟨_, rfl⟩
          have cz : wr.cell? (a.add j) = some (.int .i64 v) := by
            have h0 := hc j hjl
            rw [hv]; exact (HB.out.cell (World.block_lt_of_cell? w _ h0)).trans h0
          have bv := bounds_i64 (HF.out _ (List.getElem_mem hjl))
          rw [← hv] at bv
          have pv := fun x => Pick.pick_any v 1000001 x bv.1 bv.2 (by decide) (by decide)
          have HP : Hid (Pick.pickOf v 1000001 = pf z1[j]) := by rw [hv]; rfl
          have pb := pf_in v
          rw [pf] at pb
          generalize Pick.pickOf v 1000001 = p at *
          have sb := pl_sm z1 j (by omega)
          rw [← HS.out] at sb
          obtain ⟨s1, s2⟩ := sb
          obtain ⟨p1, p2⟩ := pb
          have s3 : S ≤ 100000000 := by omega
          have osz : w.heap.size ≤ wr.heap.size := HB.out.size
          have HJ : Hid (j = (pl z1 j).length) := (pl_len z1 j (by omega)).symm
          clear e2 e3 hc hv bv s2
          go_wp2_with fail
          refine (pv _).mono ?_
          rintro e y ⟨rfl, hy⟩
          rw [hy]; clear hy y pv
          go_wp2_with (at_builtin; refine wpList_append_lies _ rfl _ _ _ rfl w.heap.size 3 ia _ 1 8 Try.underlying30 hia hza0 hza1 hza2 rfl (by omega) _ j _ rfl (HO.out.alloc _) ⟨wr.heap.size, 0, Option.none⟩ 1 1 _ rfl (by rfl) (World.news_of_block (heap_alloc_new wr _)) (by simp [Value.oneCell']) (by omega) (by unfold maxLen; omega) (by omega) (by first | omega | (simp <;> omega)) (wr.heap.size + 1) (by simp) ?_; intro ga ca wa own1 g1 hat hlt1; have cl := own_last HJ.out own1; replace own1 : Hid _ := own1; have lj : (j : Int) < ((j + 1 : Nat) : Int) := (by omega))
          have e9 : pl z1 (j + 1) = pl z1 j ++ [p] := by rw [pl_succ z1 j hjl, HP.out]
          refine ⟨⟨j + 1, S + p, by omega, by omega, by go_num, by go_num, ?_, ?_, ?_⟩, by simp only [intOf]; omega⟩
          · show _ = _
            rw [e9, sm_append, HS.out]; simp [sm]
          · show World.ownsRow _ _ _ _ _ _ _
            rw [e9, show iv (pl z1 j ++ [p]) = iv (pl z1 j) ++ [.int .i64 p] by simp [iv]]; exact own1.out
          · refine (HB.out.alloc (by omega) _).grown g1 (by simp; omega) fun k hk => ?_
            rcases HO.out.2 with ⟨rfl, _⟩ | ⟨g, cap, cur, rfl, hgb, _⟩
            · cases hk
            · have : g = k := Option.some.inj (show some g = some k from hk)
              omega
      · have q : (j : Int) < (N : Int) := by omega
        have q2 : ¬ (j : Int) < 100 := by omega
        have hjz : j ≤ z1.length := by rw [← HN.out]; exact hj
        have HE : Hid (Lies wr _ (pl z1 j)) := own_lies (pl_len z1 j hjz).symm HO.out (pl_wf z1 j)
        obtain ⟨ob2, cap2, ev⟩ := Ow.shape HE.out
        rw [pl_len z1 j hjz] at ev
        subst ev
        have sb := pl_sm z1 j hjz
        have HX : Hid ((pl z1 j).length = j ∧ (pl z1 j).all Tg.isW = true ∧ isA u = true) := ⟨pl_len z1 j hjz, pl_W z1 j, (isA_iff u).2 ⟨u1, by omega⟩⟩
        clear HO hlt hjz
        generalize pl z1 j = L at *
        obtain ⟨s1, s2⟩ := sb
        rw [← HS.out] at s1 s2
        have s3 : S ≤ 100000000 := by omega
        by_cases hS : S = 0
        · subst hS
          have pb := share_bad' u L _ wr (by have := HX.out.1; omega) HE.out HX.out.2.2 HS.out.symm
          clear s1 s2 s3
          go_wp2_with fail
          refine pb.mono ?_
          rintro e y ⟨rfl, hy⟩
          have B2 := Kb.keepB HB.out hy
          clear hy
          go_wp2_with fail
          go_ret
          exact ⟨rfl, B2⟩
        · have pg := Sj.share_good u L _ wr HE.out HX.out.2.2 (by
            simp only [Tg.tgB, Tg.wOK, Bool.and_eq_true, decide_eq_true_eq, HX.out.2.1, HX.out.1, and_true]
            have := HS.out
            constructor <;> omega)
          rw [HX.out.1] at pg
          have qS : (S == 0) = false := by simp; exact hS
          have S0 : 0 < S := by omega
          go_wp2_with fail
          refine pg.mono ?_
          rintro e y ⟨g, c, rfl, hg, hgs, hy, m1, m2, m3⟩
          have HD : Hid (Deal u L (more (xF u L) c (u - xS u L j).toNat)) := by
            have e := HX.out.1
            have := deal u L c u1 (by rw [← HS.out]; exact S0) HX.out.2.1 (by rw [e]; exact m1) (by rw [e]; exact m2) (by rw [e]; exact m3)
            rw [e] at this; exact this
          generalize more (xF u L) c (u - xS u L j).toNat = f at *
          have HE2 : Hid (Lies y _ L) := Sl.lies_below HE.out hy
          have B2 : Hid (Below w.heap.size w y) := Kb.keepB HB.out hy
          have HG : Hid (y.heap[g]? = some (.cells (inC j f) 3 (0, 0))) := hg
          clear m1 m2 m3 hg hgs hy pg
          go_wp2_with fail
          have HD2 : Hid (∀ i, i < j → 0 ≤ f i) := fun i hi => by
            have h1 := HD.out.low i (by rw [HX.out.1]; exact hi)
            have h2 := xF_bounds u L u1 (by rw [← HS.out]; exact S0) HX.out.2.1 i
            omega
          go_loopw [11, 12] (fun va vi wr => ∃ (i : Nat) (A : Int), i ≤ j ∧ vi = .int .i64 (i : Int) ∧ va = .int .i64 A ∧ Hid (A = smF f i) ∧ Hid (LL w wr (.slice ob2 j cap2) L g j f)) (fun _ vi _ => 101 - (intOf vi).toNat)
          case atStart => exact ⟨0, 0, Nat.zero_le _, rfl, rfl, rfl, ⟨B2.out, HE2.out, HG.out⟩⟩
          case round =>
            obtain ⟨i, A, hi, rfl, rfl, HA, HW⟩ := hrel
            clear HE2 B2 HG
            by_cases hij : i < j
            · have qi : (i : Int) < (j : Int) := by omega
              have hiL : i < L.length := by rw [HX.out.1]; exact hij
              obtain ⟨a2, rfl⟩ := HW.out.ad HX.out.1 hij
              · skip
                obtain ⟨li, hli⟩ : ∃ li, li = zf L i := ⟨_, rfl⟩
                obtain ⟨fi, hfi⟩ : ∃ fi, fi = f i := ⟨_, rfl⟩
                have c1 := HW.out.lc HX.out.1 i hij
                have c2 := HW.out.fc i hij
                rw [← hli] at c1
                rw [← hfi] at c2
                have lb := (Tg.isW_iff (zf L i)).1 (by rw [zf_get L i hiL]; exact List.all_eq_true.1 HX.out.2.1 _ (List.getElem_mem hiL))
                rw [← hli] at lb
                obtain ⟨l0, l1⟩ := lb
                obtain ⟨UV, hUV⟩ : ∃ UV, u * li = UV := ⟨_, rfl⟩
                have UV0 : 0 ≤ UV := by rw [← hUV]; exact Int.mul_nonneg u1 l0
                have UV1 : UV ≤ 1000000000000000000 := by
                  rw [← hUV]
                  have e1 := Int.mul_le_mul_of_nonneg_left l1 u1
                  have e2 : u * 1000000 ≤ 999999999999 * 1000000 := by omega
                  omega
                obtain ⟨Q, hQ⟩ : ∃ Q, UV.tdiv S = Q := ⟨_, rfl⟩
                obtain ⟨R, hR⟩ : ∃ R, UV.tmod S = R := ⟨_, rfl⟩
                have hQx : xF u L i = Q := by rw [xF, ← hli, hUV, ← HS.out, ← hQ, Int.tdiv_eq_ediv_of_nonneg UV0]
                have hRx : rF u L i = R := by rw [rF, ← hli, hUV, ← HS.out, ← hR, Int.tmod_eq_emod_of_nonneg UV0]
                have Q0 : 0 ≤ Q := by rw [← hQ]; exact Int.tdiv_nonneg UV0 (by omega)
                have Q1 : Q ≤ 1000000000000000000 := by have := Int.tdiv_le_self S UV0; omega
                have D1 := HD.out.low i hiL
                have D2 := HD.out.top i hiL
                have D3 := HD.out.rest i hiL
                rw [hQx, ← hfi] at D1 D2 D3
                rw [hRx] at D3
                have D4 := smF_part f i j HD2.out hij
                have D5 : smF f j = u := by have := HD.out.all; rw [HX.out.1] at this; exact this
                rw [D5, ← hfi] at D4
                have A0 : 0 ≤ A ∧ A ≤ u := by
                  have h1 := smF_mono f j HD2.out i hi
                  rw [D5, ← HA.out] at h1; exact h1
                obtain ⟨A1, A2⟩ := A0
                have f0 : 0 ≤ fi := by omega
                have d1 : ¬ fi < 0 := by omega
                have d2 : ¬ u < fi := by omega
                obtain ⟨G, hG⟩ : ∃ G, fi - Q = G := ⟨_, rfl⟩
                have d3 : ¬ 1 < G := by omega
                have d4 : ¬ fi < Q := by omega
                have d5 : 0 ≤ G := by omega
                have zS : ¬ S = 0 := by omega
                have wd : IntKind.i64.wrap G = G := by simp [IntKind.wrap, IntKind.signed, IntKind.bits]; omega
                have wm : IntKind.i64.wrap UV = UV := by simp [IntKind.wrap, IntKind.signed, IntKind.bits]; omega
                have wq : IntKind.i64.wrap Q = Q := by simp [IntKind.wrap, IntKind.signed, IntKind.bits]; omega
                have HI : Hid (li = zf L i ∧ fi = f i ∧ i < j) := ⟨hli, hfi, hij⟩
                have C3 : ((li == 0) = true ∧ (fi != 0) = false ∧ (R == 0) = true ∧ (fi != Q) = false) ∨ ((li == 0) = false ∧ (R == 0) = true ∧ (fi != Q) = false) ∨ ((li == 0) = false ∧ (R == 0) = false) := by
                  by_cases r0 : R = 0
                  · have e := D3 r0
                    by_cases z0 : li = 0
                    · have uv : UV = 0 := by rw [← hUV, z0]; simp
                      have q0 : Q = 0 := by rw [← hQ, uv]; simp
                      refine Or.inl ⟨by simp [z0], by simp [e, q0], by simp [r0], by simp [e]⟩
                    · exact Or.inr (Or.inl ⟨by simp [z0], by simp [r0], by simp [e]⟩)
                  · have z0 : li ≠ 0 := by
                      intro z0
                      apply r0
                      rw [← hR, ← hUV, z0]; simp
                    exact Or.inr (Or.inr ⟨by simp [z0], by simp [r0]⟩)
                clear hli hfi hQx hRx D1 D2 D3 D5 hiL hij
                have e1 : decide (fi < 0) = false := decide_eq_false d1
                have e2 : decide (u < fi) = false := decide_eq_false d2
                have e3 : decide (1 < G) = false := decide_eq_false d3
                have e4 : decide (fi < Q) = false := decide_eq_false d4
                rcases C3 with ⟨x1, x2, x3, x4⟩ | ⟨x1, x3, x4⟩ | ⟨x1, x3⟩
                · as_aux_lemma =>
                  go_wp2_with fail
                  go_quiet (fail)
                  have HW2 : Hid (LL w (wr.drewN nq) (.slice (some a2) j cap2) L g j f) := HW.out.on (Kb.below_drewN (Below.refl _ _) nq)
                  generalize wr.drewN nq = wr2 at *
                  clear HW c1 c2 nq
                  have c1 := HW2.out.lc HX.out.1 i HI.out.2.2
                  have c2 := HW2.out.fc i HI.out.2.2
                  rw [← HI.out.1] at c1
                  rw [← HI.out.2.1] at c2
                  go_wp2_with fail
                  go_quiet (fail)
                  have HW3 : Hid (LL w (wr2.drewN nq) (.slice (some a2) j cap2) L g j f) := HW2.out.on (Kb.below_drewN (Below.refl _ _) nq)
                  generalize wr2.drewN nq = wr3 at *
                  clear HW2 c1 c2 nq
                  have c2 := HW3.out.fc i HI.out.2.2
                  rw [← HI.out.2.1] at c2
                  go_wp2_with fail
                  clear c2 d1 d2 d3 d4 d5 e1 e2 e3 e4 hUV hQ hR UV0 UV1 Q0 Q1 zS wd wm wq hG
                  go_loopw [13] (fun vk wr => ∃ k : Nat, k ≤ i ∧ vk = .int .i64 (k : Int) ∧ Hid (LL w wr (.slice (some a2) j cap2) L g j f)) (fun vk _ => 101 - (intOf vk).toNat)
                  case atStart => exact ⟨0, Nat.zero_le _, rfl, HW3⟩
                  case round =>
                    obtain ⟨k, hk, rfl, HW⟩ := hrel
                    clear HW3
                    by_cases hki : k < i
                    · have qk : (k : Int) < (i : Int) := by omega
                      obtain ⟨i1, i2, i3⟩ := HI.out
                      have qk2 : (k : Int) < (j : Int) := by omega
                      have c1 := HW.out.lc HX.out.1 i i3
                      have c2 := HW.out.fc i i3
                      have c3 := HW.out.lc HX.out.1 k (by omega)
                      have c4 := HW.out.fc k (by omega)
                      have m1 := HD.out.more k i (by rw [HX.out.1]; omega) (by rw [HX.out.1]; omega)
                      have m2 := HD.out.more i k (by rw [HX.out.1]; omega) (by rw [HX.out.1]; omega)
                      rw [← i1] at c1 m1 m2
                      rw [← i2] at c2 m1 m2
                      generalize zf L k = lk at *
                      generalize f k = fk at *
                      have HK : Hid (k < i ∧ i < j) := ⟨hki, i3⟩
                      by_cases hl : li ≤ lk
                      · have y1 : ¬ fk < fi := by have := m1 (by omega); omega
                        have y2 : ¬ lk < li := by omega
                        have y3 : decide (fk < fi) = false := decide_eq_false y1
                        have y4 : decide (lk < li) = false := decide_eq_false y2
                        have y5 : decide (li ≤ lk) = true := decide_eq_true hl
                        clear m1 m2 i1 i2 i3 hki
                        go_wp2_with fail
                        go_quiet (fail)
                        go_wp2_with fail
                        have := HK.out
                        exact ⟨⟨k + 1, by omega, by go_num, HW.out.on (Kb.below_drewN (Below.refl _ _) nq)⟩, by simp only [intOf]; omega⟩
                      · have y1 : ¬ fi < fk := by have := m2 (by omega); omega
                        have y2 : lk < li := by omega
                        have y3 : decide (fi < fk) = false := decide_eq_false y1
                        have y4 : decide (lk < li) = true := decide_eq_true y2
                        have y5 : decide (li ≤ lk) = false := decide_eq_false hl
                        clear m1 m2 i1 i2 i3 hki
                        go_wp2_with fail
                        go_quiet (fail)
                        go_wp2_with fail
                        have := HK.out
                        exact ⟨⟨k + 1, by omega, by go_num, HW.out.on (Kb.below_drewN (Below.refl _ _) nq)⟩, by simp only [intOf]; omega⟩
                    · have qk : ¬ (k : Int) < (i : Int) := by omega
                      go_wp2_with fail
                      obtain ⟨i1, i2, i3⟩ := HI.out
                      refine ⟨⟨i + 1, A + fi, by omega, by go_num, by go_num, ?_, HW⟩, by simp only [intOf]; omega⟩
                      show _ = _
                      rw [smF, ← i2, HA.out]
                · as_aux_lemma =>
                  go_wp2_with fail
                  go_quiet (fail)
                  have HW2 : Hid (LL w (wr.drewN nq) (.slice (some a2) j cap2) L g j f) := HW.out.on (Kb.below_drewN (Below.refl _ _) nq)
                  generalize wr.drewN nq = wr2 at *
                  clear HW c1 c2 nq
                  have c1 := HW2.out.lc HX.out.1 i HI.out.2.2
                  have c2 := HW2.out.fc i HI.out.2.2
                  rw [← HI.out.1] at c1
                  rw [← HI.out.2.1] at c2
                  go_wp2_with fail
                  go_quiet (fail)
                  have HW3 : Hid (LL w (wr2.drewN nq) (.slice (some a2) j cap2) L g j f) := HW2.out.on (Kb.below_drewN (Below.refl _ _) nq)
                  generalize wr2.drewN nq = wr3 at *
                  clear HW2 c1 c2 nq
                  have c2 := HW3.out.fc i HI.out.2.2
                  rw [← HI.out.2.1] at c2
                  go_wp2_with fail
                  clear c2 d1 d2 d3 d4 d5 e1 e2 e3 e4 hUV hQ hR UV0 UV1 Q0 Q1 zS wd wm wq hG
                  go_loopw [13] (fun vk wr => ∃ k : Nat, k ≤ i ∧ vk = .int .i64 (k : Int) ∧ Hid (LL w wr (.slice (some a2) j cap2) L g j f)) (fun vk _ => 101 - (intOf vk).toNat)
                  case atStart => exact ⟨0, Nat.zero_le _, rfl, HW3⟩
                  case round =>
                    obtain ⟨k, hk, rfl, HW⟩ := hrel
                    clear HW3
                    by_cases hki : k < i
                    · have qk : (k : Int) < (i : Int) := by omega
                      obtain ⟨i1, i2, i3⟩ := HI.out
                      have qk2 : (k : Int) < (j : Int) := by omega
                      have c1 := HW.out.lc HX.out.1 i i3
                      have c2 := HW.out.fc i i3
                      have c3 := HW.out.lc HX.out.1 k (by omega)
                      have c4 := HW.out.fc k (by omega)
                      have m1 := HD.out.more k i (by rw [HX.out.1]; omega) (by rw [HX.out.1]; omega)
                      have m2 := HD.out.more i k (by rw [HX.out.1]; omega) (by rw [HX.out.1]; omega)
                      rw [← i1] at c1 m1 m2
                      rw [← i2] at c2 m1 m2
                      generalize zf L k = lk at *
                      generalize f k = fk at *
                      have HK : Hid (k < i ∧ i < j) := ⟨hki, i3⟩
                      by_cases hl : li ≤ lk
                      · have y1 : ¬ fk < fi := by have := m1 (by omega); omega
                        have y2 : ¬ lk < li := by omega
                        have y3 : decide (fk < fi) = false := decide_eq_false y1
                        have y4 : decide (lk < li) = false := decide_eq_false y2
                        have y5 : decide (li ≤ lk) = true := decide_eq_true hl
                        clear m1 m2 i1 i2 i3 hki
                        go_wp2_with fail
                        go_quiet (fail)
                        go_wp2_with fail
                        have := HK.out
                        exact ⟨⟨k + 1, by omega, by go_num, HW.out.on (Kb.below_drewN (Below.refl _ _) nq)⟩, by simp only [intOf]; omega⟩
                      · have y1 : ¬ fi < fk := by have := m2 (by omega); omega
                        have y2 : lk < li := by omega
                        have y3 : decide (fi < fk) = false := decide_eq_false y1
                        have y4 : decide (lk < li) = true := decide_eq_true y2
                        have y5 : decide (li ≤ lk) = false := decide_eq_false hl
                        clear m1 m2 i1 i2 i3 hki
                        go_wp2_with fail
                        go_quiet (fail)
                        go_wp2_with fail
                        have := HK.out
                        exact ⟨⟨k + 1, by omega, by go_num, HW.out.on (Kb.below_drewN (Below.refl _ _) nq)⟩, by simp only [intOf]; omega⟩
                    · have qk : ¬ (k : Int) < (i : Int) := by omega
                      go_wp2_with fail
                      obtain ⟨i1, i2, i3⟩ := HI.out
                      refine ⟨⟨i + 1, A + fi, by omega, by go_num, by go_num, ?_, HW⟩, by simp only [intOf]; omega⟩
                      show _ = _
                      rw [smF, ← i2, HA.out]
                · as_aux_lemma =>
                  go_wp2_with fail
                  go_quiet (fail)
                  have HW2 : Hid (LL w (wr.drewN nq) (.slice (some a2) j cap2) L g j f) := HW.out.on (Kb.below_drewN (Below.refl _ _) nq)
                  generalize wr.drewN nq = wr2 at *
                  clear HW c1 c2 nq
                  have c1 := HW2.out.lc HX.out.1 i HI.out.2.2
                  have c2 := HW2.out.fc i HI.out.2.2
                  rw [← HI.out.1] at c1
                  rw [← HI.out.2.1] at c2
                  go_wp2_with fail
                  go_quiet (fail)
                  have HW3 : Hid (LL w (wr2.drewN nq) (.slice (some a2) j cap2) L g j f) := HW2.out.on (Kb.below_drewN (Below.refl _ _) nq)
                  generalize wr2.drewN nq = wr3 at *
                  clear HW2 c1 c2 nq
                  have c2 := HW3.out.fc i HI.out.2.2
                  rw [← HI.out.2.1] at c2
                  go_wp2_with fail
                  clear c2 d1 d2 d3 d4 d5 e1 e2 e3 e4 hUV hQ hR UV0 UV1 Q0 Q1 zS wd wm wq hG
                  go_loopw [13] (fun vk wr => ∃ k : Nat, k ≤ i ∧ vk = .int .i64 (k : Int) ∧ Hid (LL w wr (.slice (some a2) j cap2) L g j f)) (fun vk _ => 101 - (intOf vk).toNat)
                  case atStart => exact ⟨0, Nat.zero_le _, rfl, HW3⟩
                  case round =>
                    obtain ⟨k, hk, rfl, HW⟩ := hrel
                    clear HW3
                    by_cases hki : k < i
                    · have qk : (k : Int) < (i : Int) := by omega
                      obtain ⟨i1, i2, i3⟩ := HI.out
                      have qk2 : (k : Int) < (j : Int) := by omega
                      have c1 := HW.out.lc HX.out.1 i i3
                      have c2 := HW.out.fc i i3
                      have c3 := HW.out.lc HX.out.1 k (by omega)
                      have c4 := HW.out.fc k (by omega)
                      have m1 := HD.out.more k i (by rw [HX.out.1]; omega) (by rw [HX.out.1]; omega)
                      have m2 := HD.out.more i k (by rw [HX.out.1]; omega) (by rw [HX.out.1]; omega)
                      rw [← i1] at c1 m1 m2
                      rw [← i2] at c2 m1 m2
                      generalize zf L k = lk at *
                      generalize f k = fk at *
                      have HK : Hid (k < i ∧ i < j) := ⟨hki, i3⟩
                      by_cases hl : li ≤ lk
                      · have y1 : ¬ fk < fi := by have := m1 (by omega); omega
                        have y2 : ¬ lk < li := by omega
                        have y3 : decide (fk < fi) = false := decide_eq_false y1
                        have y4 : decide (lk < li) = false := decide_eq_false y2
                        have y5 : decide (li ≤ lk) = true := decide_eq_true hl
                        clear m1 m2 i1 i2 i3 hki
                        go_wp2_with fail
                        go_quiet (fail)
                        go_wp2_with fail
                        have := HK.out
                        exact ⟨⟨k + 1, by omega, by go_num, HW.out.on (Kb.below_drewN (Below.refl _ _) nq)⟩, by simp only [intOf]; omega⟩
                      · have y1 : ¬ fi < fk := by have := m2 (by omega); omega
                        have y2 : lk < li := by omega
                        have y3 : decide (fi < fk) = false := decide_eq_false y1
                        have y4 : decide (lk < li) = true := decide_eq_true y2
                        have y5 : decide (li ≤ lk) = false := decide_eq_false hl
                        clear m1 m2 i1 i2 i3 hki
                        go_wp2_with fail
                        go_quiet (fail)
                        go_wp2_with fail
                        have := HK.out
                        exact ⟨⟨k + 1, by omega, by go_num, HW.out.on (Kb.below_drewN (Below.refl _ _) nq)⟩, by simp only [intOf]; omega⟩
                    · have qk : ¬ (k : Int) < (i : Int) := by omega
                      go_wp2_with fail
                      obtain ⟨i1, i2, i3⟩ := HI.out
                      refine ⟨⟨i + 1, A + fi, by omega, by go_num, by go_num, ?_, HW⟩, by simp only [intOf]; omega⟩
                      show _ = _
                      rw [smF, ← i2, HA.out]
            · have qi : ¬ (i : Int) < (j : Int) := by omega
              have eA : A = u := by
                have e : i = j := by omega
                have := HD.out.all
                rw [HX.out.1] at this
                rw [HA.out, e, this]
              rw [eA]
              go_wp2_with fail
              go_ret
              exact ⟨by simp, HW.out.1⟩
end Go.Proofs.Ytgojcebdlafbeab.Fb
