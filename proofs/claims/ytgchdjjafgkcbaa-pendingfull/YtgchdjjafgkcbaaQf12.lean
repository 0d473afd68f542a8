import Derived.Test.YtgchdjjafgkcbaaQf11
/- A wheel of *turnstile/pending.held: take's walk. -/
namespace Go.Proofs.Ytgchdjjafgkcbaa.Mh
set_option linter.unusedVariables false
set_option linter.unusedSimpArgs false
open Go.RowKit Go.Maps Lib0 Kb Xp Ih Dh Eh Fh Gh Hh Kh Jh
attribute [local go_sem] Oper.semAt_some
set_option maxRecDepth 100000 in
set_option maxHeartbeats 6400000 in
theorem take_m (g cb : Nat) (t : Int) (p : XT → Bool) (eg : ∀ args w, (callFunc g args).run Try.prog w = .ok (.enter g args) w) (hp : Pred g cb t p) (w : World) (b sb mb n : Nat) (S : Nat → Value) (c : Nat) (D : DataW Unit) (L : LT) (now last tick : Int) (h : Wm w b sb mb n S c D L now last) (ho : One L) (hi : Inc L) (hnum : ∀ x ∈ L, 1 ≤ x.1 ∧ x.1 ≤ last) (hlast : last ≤ 5864062014805) (hn : 1 ≤ n) (hn2 : n ≤ 4096) (ht : 0 ≤ tick) (hH : ∀ x ∈ L, p x = true → x.2.1 = tick) (hcb : w.heap[cb]? = some (.cells #[.int .i64 t] tI)) :
    Calls Try.prog 42 #[.pointer (some ⟨b, 0, none⟩), .int .i64 tick, .func (.func g) #[] #[.pointer (some ⟨cb, 0, none⟩)]] w fun e w' => ∃ v, e = .returned v ∧ TakePost w b sb mb n S c L now last p v w' := by
  obtain ⟨i0, hti, hz0, hz1, hz2⟩ := info_parts infoT
  have HM : Hid (Wm w b sb mb n S c D L now last) := h
  have HO : Hid (One L) := ho
  have HI : Hid (Inc L) := hi
  have HNUM : Hid (∀ x ∈ L, 1 ≤ x.1 ∧ x.1 ≤ last) := hnum
  have HHH : Hid (∀ x ∈ L, p x = true → x.2.1 = tick) := hH
  have HCB : Hid (w.heap[cb]? = some (.cells #[.int .i64 t] tI)) := hcb
  have HP : Hid (Pred g cb t p) := hp
  have HLAST : Hid (last ≤ 5864062014805) := hlast
  have HLEN : Hid (L.length ≤ 5864062014805) := by
    have := Wm.len h
    show L.length ≤ 5864062014805
    omega
  have hsl := slot_any w b sb mb n _ _ tick h.blk ht hn hn2
  obtain ⟨j, HJ⟩ : ∃ j, Hid (tick.toNat % n = j) := ⟨_, rfl⟩
  rw [HJ.out] at hsl
  have HJN : Hid (j < n) := by
    show j < n
    rw [← HJ.out]; exact Nat.mod_lt _ (by omega)
  obtain ⟨Z, HZ⟩ : ∃ Z, Hid (slotL L n j = Z) := ⟨_, rfl⟩
  have HZS : Hid (∀ x ∈ Z, x ∈ L) := fun x hx => (List.mem_filter.1 (HZ.out ▸ hx : x ∈ slotL L n j)).1
  have HZI : Hid (Inc Z) := HZ.out ▸ slotL_inc hi n j
  have HZO : Hid (One Z) := HZ.out ▸ slotL_one ho n j
  have hrw := h.row j HJN.out
  rw [HZ.out] at hrw
  have HR : Hid (w.ownsRow 0 tL 3 (S j) Z.length (gc Z)) := hrw
  obtain ⟨N, HN⟩ : ∃ N, Hid (Z.length = N) := ⟨_, rfl⟩
  obtain ⟨o, cap, hv, hc1, hc2, hc3⟩ := own_form hrw
  rw [HN.out] at hv hc1
  have HV : Hid (S j = .slice o N cap) := hv
  have hNL : N ≤ 5864062014805 := by
    have h1 := HLEN.out
    have h2 : Z.length ≤ L.length := by rw [← HZ.out]; exact List.length_filter_le _ _
    have := HN.out
    omega
  clear h ho hi hnum hlast ht hH hcb hp hrw hv hc1 hc2 hc3 hn hn2
  go_enter Try.func42, Try.ntmps42
  go_wp2_with fail
  refine hsl.mono ?_
  rintro e u ⟨rfl, m, hu⟩
  have HU : Hid (Below w.heap.size w u) := by subst hu; exact Kb.below_drewN (Below.refl _ _) m
  have a0 : u.cell? ⟨sb, j, none⟩ = some (.slice o N cap) := by rw [cell_of_row _ _ _ _ _ _ (kept HU.out HM.out.slots), slots_at _ _ _ HJN.out, HV.out]
  clear hsl hu
  go_wp2_with fail
  go_loopw [8, 10, 18] (fun tv _ iv wr => ∃ i : Nat, iv = .int .i64 (i : Int) ∧ i ≤ N ∧ Hid (Mid w b sb mb n S c D L now last ((Z.take i).filter p) wr tv)) (fun _ _ iv _ => N + 1 - (intOf iv).toNat)
  case atStart =>
    refine ⟨0, rfl, Nat.zero_le _, World.ownsRow_nil _ _ _ _, FrP.of HU.out, D, ?_, ?_⟩
    · exact HM.out.map.kept (row := none) ⟨HU.out.os, HU.out.tape, HU.out.output, HU.out.size, fun g hg _ => HU.out.block g hg⟩ (by simp)
    · rw [List.take_zero, List.filter_nil, lessA_nil]
      exact HM.out.mp
  case round =>
    obtain ⟨i, rfl, hiN, HMid⟩ := hrel
    by_cases hlt : i < N
    · have hi2 : i < Z.length := by rw [HN.out]; exact hlt
      have HI2 : Hid (i < Z.length) := hi2
      have hrr : wr.ownsRow 0 tL 3 (S j) Z.length (gc Z) := own_keep HR.out fun k hk => by
        have h1 := HM.out.row_lt HJN.out hk
        exact HMid.out.fr.block k h1.1 h1.2.2.2
      have hrg := rowg_own hrr
      rw [HV.out] at hrg
      obtain ⟨o', cap', ev, hcell⟩ := hrg
      injection ev with e1 e2 e3
      subst e1
      subst e3
      obtain ⟨a, ea, c0, c1, c2⟩ := hcell i hi2
      subst ea
      have hone := HZO.out _ (List.getElem_mem hi2)
      have hcbr : wr.heap[cb]? = some (.cells #[.int .i64 t] tI) := (HMid.out.fr.block cb (Array.getElem?_eq_some_iff.1 HCB.out).1 (map_ne HCB.out HM.out.map)).trans HCB.out
      rw [add_field _ _ _ (by decide)] at c1 c2
      obtain ⟨x, HX⟩ : ∃ x : XT, Hid (∀ h : i < Z.length, Z[i]'h = x) := ⟨Z[i]'hi2, fun _ => rfl⟩
      rw [HX.out hi2] at c0 c1 c2 hone
      have HXM : Hid (x ∈ lessA L ((Z.take i).filter p) ∧ x ∈ L) := by
        have h1 := lessA_mem HZI.out HZS.out p i hi2
        have h2 := HZS.out _ (List.getElem_mem hi2)
        rw [HX.out hi2] at h1 h2
        exact ⟨h1, h2⟩
      obtain ⟨x0, x1, x2⟩ := x
      dsimp only at c0 c1 c2 hone
      obtain ⟨W1, HW1⟩ : ∃ W1, Hid (wr.alloc (.cells #[.int .i64 x0, .int .i64 x1, x2] tL) = W1) := ⟨_, rfl⟩
      have HB1 : Hid (Below wr.heap.size wr W1) := HW1.out ▸ below_one _ _
      have hcall := HP.out W1 (x0, x1, x2) hone (kept HB1.out hcbr)
      unfold agv at hcall
      dsimp only at hcall
      obtain ⟨pv, HPV⟩ : ∃ pv, Hid (p (x0, x1, x2) = pv) := ⟨_, rfl⟩
      rw [HPV.out] at hcall
      have HST : Hid (W1.heap[wr.heap.size]? = some (.cells #[.int .i64 x0, .int .i64 x1, x2] tL)) := HW1.out ▸ h1_0 _ _
      have q2 : (i : Int) < (N : Int) := by omega
      have q3 : (0 : Int) ≤ (i : Int) := by omega
      have q4 : (i : Int) + 1 ≤ 9223372036854775807 := by omega
      have hst : ∀ (a : Addr) (m : Mode) (w : World), Sem.run Try.prog (store a x2 m) w = stored Try.prog w a x2 m := fun a m w => run_store Try.prog w a _ m hone
      have hcl : x2.cells = #[x2] := by cases x2 <;> first | (simp [Value.oneCell'] at hone; done) | rfl
      simp only [Value.cells] at hcl
      have HONE : Hid (x2.oneCell' = true) := hone
      clear hi2 hrr hcell hcbr e2
      cases pv
      · go_wp2_with fail
        rw [HW1.out]
        refine hcall.mono ?_
        rintro e w2 ⟨rfl, hw2⟩
        have HB2 : Hid (Below wr.heap.size wr w2) := keepB HB1.out hw2
        clear hw2 hcall c0 c1 c2
        go_wp2_with fail
        refine ⟨⟨i + 1, by simp, by omega, ?_⟩, ?_⟩
        · rw [take_filter_snoc Z p i HI2.out, HX.out HI2.out, HPV.out, if_neg (by simp)]
          refine ⟨own_keep HMid.out.own fun k hk => HB2.out.block k (HMid.out.own.lt k hk).2, HMid.out.fr.behind HB2.out, ?_⟩
          obtain ⟨D', h1, h2⟩ := HMid.out.map
          exact ⟨D', h1.kept (row := none) ⟨HB2.out.os, HB2.out.tape, HB2.out.output, HB2.out.size, fun g hg _ => HB2.out.block g hg⟩ (by simp), h2⟩
        · simp only [intOf]; omega
      · go_wp2_with fail
        rw [HW1.out]
        refine hcall.mono ?_
        rintro e w2 ⟨rfl, hw2⟩
        have HB2 : Hid (Below wr.heap.size wr w2) := keepB HB1.out hw2
        have HBX : Hid (w2.heap[wr.heap.size]? = some (.cells #[.int .i64 x0, .int .i64 x1, x2] tL)) := kept hw2 HST.out
        have d2 : w2.cell? ⟨wr.heap.size, 2, none⟩ = some x2 := by simp [World.cell?, HBX.out]
        clear hw2 hcall c0 c1 c2
        have HOW2 : Hid (w2.ownsRow w.heap.size tT 1 u8 ((Z.take i).filter p).length (thgs ((Z.take i).filter p))) := own_keep HMid.out.own fun k hk => HB2.out.block k (HMid.out.own.lt k hk).2
        obtain ⟨K, HK⟩ : ∃ K, Hid (((Z.take i).filter p).length = K) := ⟨_, rfl⟩
        have HKL : Hid (K ≤ N) := by
          have h1 : ((Z.take i).filter p).length ≤ (Z.take i).length := List.length_filter_le _ _
          rw [List.length_take] at h1
          have := HK.out
          show K ≤ N
          omega
        have HS : Hid (w.heap.size ≤ w2.heap.size) := Nat.le_trans HMid.out.fr.size HB2.out.size
        rw [HK.out] at HOW2
        go_wp2_with (first | (at_builtin; refine wpList_append_own_at _ rfl _ _ 90 rfl w.heap.size tT i0 _ 1 8 Try.underlying90 hti hz0 hz1 hz2 rfl (by decide) _ _ _ rfl (HOW2.out.alloc _) ⟨w2.heap.size, 0, none⟩ 1 1 [x2] rfl rfl (cell_one_new _ _ _) (by intro u hu; simp at hu; rw [hu]; exact HONE.out) (by have := HKL.out; unfold maxLen; omega) (by have := HKL.out; omega) (by have := HS.out; simp; omega) ?_; intro v' w3 hown3 hgrow3 hnil3 hloc3; have HG3 := hidW (And.intro hown3 hgrow3); clear hown3 hgrow3 hnil3 hloc3) | fail)
        have hg3 : (w2.alloc (.cells #[x2] tT)).grownBy w3 u8.ownBlock := HG3.out.2
        have HK3 : Hid (∀ gg o, w2.heap[gg]? = some o → u8.ownBlock ≠ some gg → w3.heap[gg]? = some o) := fun gg o h1 h2 => by
          have h3 := kept (below_one w2 (.cells #[x2] tT)) h1
          exact (hg3.block gg (Array.getElem?_eq_some_iff.1 h3).1 (fun e => h2 e.symm)).trans h3
        have HB3 : Hid (w3.heap[b]? = some (.cells #[.slice (some ⟨sb, 0, none⟩) n n, .map (some mb), .int .i64 now, .int .i64 last] tW)) := by
          have hbw := HM.out.blk
          have hlt := (Array.getElem?_eq_some_iff.1 hbw).1
          refine HK3.out b _ (kept HB2.out ((HMid.out.fr.block b hlt (map_ne hbw HM.out.map)).trans hbw)) (fun e => ?_)
          have := (HMid.out.own.lt b e).1
          omega
        have HX3 : Hid (w3.heap[wr.heap.size]? = some (.cells #[.int .i64 x0, .int .i64 x1, x2] tL)) := HK3.out _ _ HBX.out (fun e => by
          have := (HMid.out.own.lt _ e).2
          omega)
        have HFR3 : Hid (FrP (fun g => g = mb) w w3) := ((HMid.out.fr.behind HB2.out).behind (below_one w2 (.cells #[x2] tT))).grown hg3 (fun g hg => .inr (HMid.out.own.lt g hg).1)
        have HM3 : Hid (∃ D', w3.ownsMap Try.prog tI (plainElem Try.prog tI) mb c D' ∧ Mp D' (lessA L ((Z.take i).filter p))) := by
          obtain ⟨D', h1, h2⟩ := HMid.out.map
          refine ⟨D', ?_, h2⟩
          have h3 := h1.kept (row := none) (w' := w2.alloc (.cells #[x2] tT)) ⟨HB2.out.os, HB2.out.tape, HB2.out.output, Nat.le_trans HB2.out.size (by simp), fun g hg _ => (HB2.out.alloc HB2.out.size _).block g hg⟩ (by simp)
          refine h3.kept hg3 (fun e => ?_)
          have h4 := (HMid.out.own.lt mb e.symm).1
          have h5 := HM.out.map.lt
          omega
        obtain ⟨D', hm3, hmp3⟩ := HM3.out
        have HMP : Hid (Mp D' (lessA L ((Z.take i).filter p))) := hmp3
        have r1 : w3.cell? ⟨b, 1, none⟩ = some (.map (some mb)) := by simp [World.cell?, HB3.out]
        obtain ⟨X0, HX0⟩ : ∃ X0, Hid (wr.heap.size = X0) := ⟨_, rfl⟩
        rw [HX0.out]
        have r2 : w3.cell? ⟨X0, 0, none⟩ = some (.int .i64 x0) := by rw [← HX0.out]; simp [World.cell?, HX3.out]
        have l1 : b < w3.heap.size := (Array.getElem?_eq_some_iff.1 HB3.out).1
        have l2 : X0 < w3.heap.size := by rw [← HX0.out]; exact (Array.getElem?_eq_some_iff.1 HX3.out).1
        have HKEY : Hid (keyOf Try.prog tI (.int .i64 x0) = some (.int .i64 x0)) := by
          have h1 := HNUM.out _ HXM.out.2
          dsimp only at h1
          have h2 := HLAST.out
          exact keyOf_int_mk Try.underlying3 (wf64 (by omega) (by omega))
        have HM3' : Hid (w3.ownsMap Try.prog tI (plainElem Try.prog tI) mb c D') := hm3
        clear d2 hg3 hm3 hmp3
        refine Qt.region_tail 6 0 (C := Ql.Cl w3) (by kernel_rfl) rfl (by kernel_rfl) (by kernel_rfl) (by kernel_rfl) ((Below.refl _ _).drew) ?_
        simp only [List.take_succ_cons, List.take_zero, List.drop_succ_cons, List.drop_zero]
        repeat (first | go_big_quiet_skip | (go_big_quiet_want; go_big_quiet_op; first | go_big_quiet_on | (refine ⟨_, fun _ _ => rfl, ?_⟩; go_big_quiet_on) | (refine ⟨_, fun _ _ => ⟨rfl, rfl⟩, ?_⟩; go_big_quiet_on)) | (refine wpQuiet_step (fun K hK => ?_); first
          | (refine Ql.q_cell (by rfl) 96 _ rfl b 1 rfl _ r1 l1 (fun y => Try.isAgg96 y) (hK _ ?_); clear hK K; simp only [Act.put, List.setIfInBounds_toArray, List.set_cons_succ, List.set_cons_zero])
          | (refine Ql.q_cell (by rfl) 3 _ rfl X0 0 rfl _ r2 l2 (fun y => Try.isAgg3 y) (hK _ ?_); clear hK K; simp only [Act.put, List.setIfInBounds_toArray, List.set_cons_succ, List.set_cons_zero])
          | fail))
        refine wpQuiet_nil ?_
        intro y3 hy3
        have HY3 : Hid (Below w3.heap.size w3 y3) := hy3
        have hown3 : y3.ownsMap Try.prog tI (plainElem Try.prog tI) mb c D' := HM3'.out.kept (row := none) ⟨hy3.os, hy3.tape, hy3.output, hy3.size, fun g hg _ => hy3.block g hg⟩ (by simp)
        clear hy3 r1 r2
        go_wp2_with (first | (at_delete; refine wpList_delete_own _ rfl _ _ 96 tI rfl tI law Try.underlying96 _ mb c D' rfl hown3 _ _ rfl HKEY.out ?_; intro w4 hown4 hturn4) | fail)
        refine ⟨⟨i + 1, by simp, by omega, ?_⟩, ?_⟩
        · rw [take_filter_snoc Z p i HI2.out, HX.out HI2.out, HPV.out, if_pos rfl]
          refine ⟨?_, (HFR3.out.behind HY3.out).grown hturn4.grown (fun g hg => by cases hg; exact .inl rfl), D'.del (.int .i64 x0), hown4, ?_⟩
          · have h1 := HG3.out.1
            rw [List.length_append, HK.out, thgs, List.map_append]
            refine own_keep h1 fun g hg => ?_
            obtain ⟨cy, hcy⟩ := own_ty h1 hg
            have h2 := kept HY3.out hcy
            rw [hcy]
            exact (hturn4.grown.block g (Array.getElem?_eq_some_iff.1 h2).1 (fun e => map_ne h2 hown3 (by simpa using e))).trans h2
          · rw [lessA_snoc]
            exact HMP.out.del (HI.out.filter _) HXM.out.1
        · simp only [intOf]; omega
    · obtain rfl : i = N := by omega
      have hrr : wr.ownsRow 0 tL 3 (S j) Z.length (gc Z) := own_keep HR.out fun k hk => by
        have h1 := HM.out.row_lt HJN.out hk
        exact HMid.out.fr.block k h1.1 h1.2.2.2
      have hcbr : wr.heap[cb]? = some (.cells #[.int .i64 t] tI) := (HMid.out.fr.block cb (Array.getElem?_eq_some_iff.1 HCB.out).1 (map_ne HCB.out HM.out.map)).trans HCB.out
      have hA : (Z.take i).filter p = L.filter p := by
        rw [List.take_of_length_le (by rw [HN.out]; omega), ← HZ.out, ← HJ.out]
        exact slotL_all HHH.out
      have HMD : Hid (Mid w b sb mb n S c D L now last (L.filter p) wr u8) := hA ▸ HMid.out
      have hdel := delete_any g cb t p eg HP.out wr 0 (S j) Z hrr HZO.out (by rw [HN.out]; omega) hcbr
      have hsw : wr.heap[sb]? = some (.cells ((List.range n).map S).toArray tS) := (HMD.out.fr.block sb (Array.getElem?_eq_some_iff.1 HM.out.slots).1 (map_ne HM.out.slots HM.out.map)).trans HM.out.slots
      have HSW : Hid (wr.heap[sb]? = some (.cells ((List.range n).map S).toArray tS)) := hsw
      have a1 : wr.cell? ⟨sb, j, none⟩ = some (.slice o i cap) := by rw [cell_of_row _ _ _ _ _ _ hsw, slots_at _ _ _ HJN.out, HV.out]
      rw [HV.out] at hdel
      have q2 : ¬ (i : Int) < (i : Int) := by omega
      have HLZ : Hid ((Z.filter fun x => !p x).length ≤ 5864062014805) := by
        have h1 : (Z.filter fun x => !p x).length ≤ Z.length := List.length_filter_le _ _
        have := HN.out
        show (Z.filter fun x => !p x).length ≤ 5864062014805
        omega
      clear hA hrr hcbr hsw HMid hiN
      go_wp2_with fail
      refine hdel.mono ?_
      rintro e w5 ⟨v1, rfl, ho1, hb1, hf1⟩
      have hfit := fitted_any w5 v1 _ ho1 (HZO.out.filter _) HLZ.out
      have HF1 : Hid (FrP (fun k => (S j).ownBlock = some k) wr w5 ∧ v1.ownBlock = (S j).ownBlock) := by rw [HV.out]; exact ⟨hf1, hb1⟩
      clear hdel ho1 hb1 hf1 a1
      go_wp2_with fail
      refine hfit.mono ?_
      rintro e w6 ⟨v2, rfl, ho2, hb2, hw6⟩
      have HEND : Hid (TakePost w b sb mb n S c L now last p u8 (w6.setCell ⟨sb, j, none⟩ v2)) := by
        refine take_end HM.out HMD.out HI.out HHH.out HJ.out HJN.out HF1.out.1 hw6 ?_ ?_
        · rw [HZ.out]; exact ho2
        · rw [← HF1.out.2]; exact hb2
      have hs6 : w6.heap[sb]? = some (.cells ((List.range n).map S).toArray tS) := kept hw6 ((HF1.out.1.block sb (Array.getElem?_eq_some_iff.1 HSW.out).1 (fun e => (HM.out.row_lt HJN.out e).2.2.1 rfl)).trans HSW.out)
      obtain ⟨o2, cap2, hv2, hcc⟩ := own_form ho2
      subst hv2
      have a2 : w6.cell? ⟨sb, j, none⟩ = some (.slice o i cap) := by rw [cell_of_row _ _ _ _ _ _ hs6, slots_at _ _ _ HJN.out, HV.out]
      have f2 : w6.frozen? ⟨sb, j, none⟩ = false := frozen_of_row _ _ _ _ _ hs6
      clear hfit ho2 hb2 hw6 hs6 hcc
      go_wp2_with fail
      go_ret
      exact ⟨_, rfl, HEND.out⟩
end Go.Proofs.Ytgchdjjafgkcbaa.Mh
/- A wheel of *turnstile/pending.held: Tick. -/
namespace Go.Proofs.Ytgchdjjafgkcbaa.Th
set_option linter.unusedVariables false
set_option linter.unusedSimpArgs false
open Go.RowKit Go.Maps Lib0 Kb Xp Ih Dh Eh Fh Gh Hh Kh Jh Mh
attribute [local go_sem] Oper.semAt_some
theorem Ok.tick {n : Nat} {L : LT} {now last : Int} (h : Ok n L now last) (h1 : now + 1 ≤ 1000000000000) : Ok n (L.filter fun x => !(x.2.1 == now + 1)) (now + 1) last := by
  refine ⟨h.pos, h.top, h.one.filter _, h.inc.filter _, fun x hx => h.num x (List.mem_filter.1 hx).1, fun x hx => ?_, by have := h.now0; omega, h1, h.last0, h.last1⟩
  have h2 := List.mem_filter.1 hx
  have h3 := h.tik x h2.1
  have h4 : ¬ x.2.1 = now + 1 := by simpa using h2.2
  omega
theorem own_lift {w : World} {base base' e size n : Nat} {v : Value} {xs : List Value} (h : w.ownsRow base e size v n xs) (k : base' ≤ base) : w.ownsRow base' e size v n xs := own_base h fun g hg => Nat.le_trans k (Lib0.own_ge h g hg)
set_option maxRecDepth 100000 in
set_option maxHeartbeats 1600000 in
theorem tick_any (w : World) (b : Nat) (B : Nat → Prop) (n : Nat) (L : LT) (now last : Int) (h : Wl w b B n L now last) (ok : Ok n L now last) (hl : last ≤ 5864062014805) (hnow : now + 1 ≤ 1000000000000) :
    Calls Try.prog 31 #[.pointer (some ⟨b, 0, none⟩)] w fun e w' => ∃ v, e = .returned v ∧ w'.ownsRow w.heap.size tT 1 v (L.filter fun x => x.2.1 == now + 1).length (thgs (L.filter fun x => x.2.1 == now + 1)) ∧ Trn w b B n (L.filter fun x => !(x.2.1 == now + 1)) (now + 1) last w' := by
  obtain ⟨sb, mb, S, c, D, hm, hB⟩ := h
  have HB : Hid (∀ g, B g ↔ Bk b sb mb n S g) := hB
  have hb := hm.blk
  have c2 : w.cell? ⟨b, 2, none⟩ = some (.int .i64 now) := by simp [World.cell?, hb]
  have f2 : w.frozen? ⟨b, 2, none⟩ = false := by simp [World.frozen?, hb]
  have n0 := ok.now0
  obtain ⟨y, hy⟩ : ∃ y, w.setCell ⟨b, 2, none⟩ (.int .i64 (now + 1)) = y := ⟨_, rfl⟩
  have hmy : Wm y b sb mb n S c D L (now + 1) last := hy ▸ Wm.set hm 2 _ rfl (Int.le_refl _)
  have HF : Hid (FrP B w y) := hy ▸ (FrP.refl B w).set (p := ⟨b, 2, none⟩) (.inl ((hB b).2 (.inl rfl))) _
  have d2 : y.cell? ⟨b, 2, none⟩ = some (.int .i64 (now + 1)) := by simp [World.cell?, hmy.blk]
  obtain ⟨z, hz⟩ : ∃ z, y.alloc (.cells #[.int .i64 (now + 1)] 3) = z := ⟨_, rfl⟩
  have HZ : Hid (Below y.heap.size y z) := hz ▸ below_one _ _
  have HZX : Hid (z.heap[y.heap.size]? = some (.cells #[.int .i64 (now + 1)] tI)) := hz ▸ h1_0 _ _
  have d3 : z.cell? ⟨y.heap.size, 0, none⟩ = some (.int .i64 (now + 1)) := by simp [World.cell?, HZX.out]
  have htk := take_m 43 y.heap.size (now + 1) (fun x => x.2.1 == now + 1) (enters_of Try.func43 (by kernel_rfl) rfl) (tick_pred y.heap.size (now + 1)) z b sb mb n S c D L (now + 1) last (now + 1) (hmy.keep fun g hg => HZ.out.block g (hmy.lt g hg)) ok.one ok.inc ok.num hl ok.pos ok.top (by omega) (fun x hx hp => by simpa using hp) HZX.out
  have s0 : now + 1 ≤ 9223372036854775807 := by omega
  have s1 : -9223372036854775808 ≤ now + 1 := by omega
  have HS : Hid (y.heap.size = w.heap.size) := hy ▸ setCell_size _ _ _
  clear hm hb ok hB n0 hmy hl hnow
  go_enter Try.func31, Try.ntmps31
  go_wp2_with fail
  refine htk.mono ?_
  rintro e z2 ⟨v, rfl, ho, S', D', hw, hf, hg⟩
  have HEND : Hid (z2.ownsRow w.heap.size tT 1 v (L.filter fun x => x.2.1 == now + 1).length (thgs (L.filter fun x => x.2.1 == now + 1)) ∧ Trn w b B n (L.filter fun x => !(x.2.1 == now + 1)) (now + 1) last z2) := by
    have h1 := HZ.out.size
    have h2 := HS.out
    refine ⟨own_lift ho (by omega), Bk b sb mb n S', ⟨sb, mb, S', c, D', hw, fun g => Iff.rfl⟩, ?_, ?_⟩
    · exact (HF.out.behind HZ.out).trans hf (fun g h => .inl ((HB.out g).2 h))
    · intro g hgg
      rcases hg g hgg with h | h
      · exact .inl ((HB.out g).2 h)
      · exact .inr (by omega)
  clear ho hw hf hg htk
  go_wp2_with fail
  go_ret
  exact ⟨_, rfl, HEND.out⟩
theorem len_any (w : World) (b : Nat) (B : Nat → Prop) (n : Nat) (L : LT) (now last : Int) (h : Wl w b B n L now last) :
    Calls Try.prog 22 #[.pointer (some ⟨b, 0, none⟩)] w fun e w' => e = .returned (.int .i64 (L.length : Nat)) ∧ w' = w := by
  obtain ⟨sb, mb, S, c, D, hm, hB⟩ := h
  exact len_m w b sb mb n S c D L now last hm
/-- a wheel that was made since H -/
def Fsh (w0 : World) (w : World) (b : Nat) (n : Nat) (L : LT) (now last : Int) : Prop := ∃ B, Wl w b B n L now last ∧ Below w0.heap.size w0 w ∧ ∀ g, B g → w0.heap.size ≤ g
theorem Trn.fresh {w0 w w' : World} {b : Nat} {B : Nat → Prop} {n : Nat} {L' : LT} {now' last' : Int} (h : Trn w b B n L' now' last' w') (hb : Below w0.heap.size w0 w) (hB : ∀ g, B g → w0.heap.size ≤ g) : Fsh w0 w' b n L' now' last' := by
  obtain ⟨B', h1, h2, h3⟩ := h
  refine ⟨B', h1, ((FrP.of (B := fun _ => False) hb).trans h2 (fun g hg => .inr (hB g hg))).below (fun _ h => h.elim), fun g hg => ?_⟩
  rcases h3 g hg with h | h
  · exact hB g h
  · exact Nat.le_trans hb.size h
theorem Ok.new {n : Nat} (h1 : 1 ≤ n) (h2 : n ≤ 4096) : Ok n [] 0 0 := ⟨h1, h2, (fun x hx => by cases hx), List.Pairwise.nil, (fun x hx => by cases hx), (fun x hx => by cases hx), by decide, by decide, by decide, by decide⟩
end Go.Proofs.Ytgchdjjafgkcbaa.Th
