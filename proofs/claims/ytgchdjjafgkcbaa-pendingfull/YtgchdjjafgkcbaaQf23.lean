import Derived.Test.YtgchdjjafgkcbaaQf21
/- Tick. -/
namespace Go.Proofs.Ytgchdjjafgkcbaa.Pp
set_option linter.unusedVariables false
set_option linter.unusedSimpArgs false
open Go.RowKit Go.Maps Lib0 Kb Xp Za Ze Ih Fh Hh Pa Pb Pc Pe Pf Pg Pl Pm Pn Po Pq
attribute [local go_sem] Oper.semAt_some
attribute [local irreducible] Pb.nl Pb.kl Pq.Pi_ Pl.push
def PostT (w : World) (base b : Nat) (C : Cf) (S : St) (e : Ending) (w' : World) : Prop := ∃ lv gv, e = .returned (.tuple #[lv, gv]) ∧ Tb w' base b C (tickS C S) ∧ Lst w' base w.heap.size lv (lateL S) ∧ Lst w' base w.heap.size gv (tickP C S).gone ∧ Kt w w' ∧ Below base w w'
set_option maxRecDepth 100000 in
set_option maxHeartbeats 6400000 in
theorem tick_tb {w : World} {base b : Nat} {C : Cf} {S : St} (h : Tb w base b C S) (co : Co C) (hn : S.now + 1 ≤ 1000000) (hl : S.lr + (S.LW.length : Int) ≤ 1000000) (hlw : S.lw ≤ 1000000) :
    Calls Try.prog 19 #[.pointer (some ⟨b, 0, none⟩)] w (PostT w base b C S) := by
  obtain ⟨wb, rb, kb, hb, Bw, Br, ck, ch, Dk, Dh, hT, hM, hck, hch⟩ := h.mem
  have HTB : Hid (Tb w base b C S) := h
  have HC : Hid (Co C) := co
  have HNO : Hid (S.now + 1 ≤ 1000000) := hn
  have HLR : Hid (S.lr + (S.LW.length : Int) ≤ 1000000) := hl
  have HLW : Hid (S.lw ≤ 1000000) := hlw
  have HCK : Hid (ck ≤ S.lw.toNat ∧ ch ≤ S.lw.toNat) := ⟨hck, hch⟩
  have HT0 : Hid (Tm w base b wb rb kb hb Bw Br ck ch Dk Dh C S.old (S.LW.map tx) (S.LR.map tx) S.now S.now S.lw S.lr) := hT
  have HM0 : Hid (Mt Dk Dh (KPs S.LW) (HPs (S.LW ++ S.LR))) := hM
  obtain ⟨c0, c1, -⟩ := hT.cells
  have HTK : Hid (Calls Try.prog 31 #[.pointer (some ⟨rb, 0, none⟩)] w fun e w' => ∃ v, e = .returned v ∧ w'.ownsRow w.heap.size Jh.tT 1 v ((S.LR.map tx).filter fun x => x.2.1 == S.now + 1).length (Jh.thgs ((S.LR.map tx).filter fun x => x.2.1 == S.now + 1)) ∧ Trn w rb Br 256 ((S.LR.map tx).filter fun x => !(x.2.1 == S.now + 1)) (S.now + 1) S.lr w') := Th.tick_any w rb Br 256 _ S.now S.lr hT.wr h.iv.okr (by omega) (by omega)
  clear h co hn hl hlw hck hch hT hM
  go_enter Try.func19, Try.ntmps19
  go_wp2_with fail
  refine HTK.out.mono ?_
  rintro e y1 ⟨v, rfl, ho, tr⟩
  rw [filter_tx, thgs_tx, List.length_map] at ho
  rw [filter_tx2] at tr
  obtain ⟨E, HE⟩ : ∃ E, Hid (S.LR.filter (dueX S.now) = E) := ⟨_, rfl⟩
  rw [HE.out] at ho
  have HJ0 : Hid (∃ Br', J1 w y1 base b wb rb kb hb Bw Br' ck ch Dk C S E v (.slice none 0 0) 0) := by
    obtain ⟨⟨Br', t1⟩, kx, bl⟩ := HT0.out.rem tr
    exact ⟨Br', ⟨⟨Dh, t1, HM0.out.congr (fun _ => Iff.rfl) (fun k q => ⟨fun e => ⟨e, fun x hx => by simp at hx⟩, fun e => e.1⟩)⟩, fun x hx => (HTB.out.hw x hx).keep kx, fun x hx => (HTB.out.hr x hx).keep kx, by rw [List.take_zero]; exact lst_nil _ _ _, ho, kx.kt, bl, HT0.out.base_⟩⟩
  obtain ⟨Br1, HJ0⟩ := HJ0.out
  have HJ1 : Hid (J1 w y1 base b wb rb kb hb Bw Br1 ck ch Dk C S E v (.slice none 0 0) 0) := HJ0
  obtain ⟨ov, cv, ev, -⟩ := own_form ho
  obtain ⟨N, HN⟩ : ∃ N, Hid (E.length = N) := ⟨_, rfl⟩
  rw [HN.out] at ev
  subst ev
  have HEM : Hid (∀ x ∈ E, x ∈ S.LR) := fun x hx => by rw [← HE.out] at hx; exact (List.mem_filter.1 hx).1
  have HNB : Hid (N ≤ 10000) := by
    have h1 : E.length ≤ S.LR.length := by rw [← HE.out]; exact List.length_filter_le _ _
    have h2 := HTB.out.iv.lenr
    have h3 := HC.out.m1
    have h4 := HN.out
    show N ≤ 10000
    omega
  clear ho tr HJ0 HTK c0 c1
  go_wp2_with fail
  go_loopw [5, 17] (fun gv iv wr => ∃ i : Nat, iv = .int .i64 (i : Int) ∧ i ≤ N ∧ ∃ og cg, gv = .slice og i cg ∧ Hid (J1 w wr base b wb rb kb hb Bw Br1 ck ch Dk C S E (.slice ov N cv) (.slice og i cg) i)) (fun _ iv _ => N + 1 - (intOf iv).toNat)
  case atStart => exact ⟨0, rfl, Nat.zero_le _, none, 0, rfl, HJ1.out⟩
  case round =>
    obtain ⟨i, rfl, hi, og, cg, rfl, HJ⟩ := hrel
    have q1 : (0 : Int) ≤ (i : Int) := by omega
    by_cases hlt : i < N
    · have hi2 : i < E.length := by rw [HN.out]; exact hlt
      obtain ⟨Dh1, t1, t2⟩ := HJ.out.tm
      obtain ⟨gp, eo, cp⟩ := cell_ptr HJ.out.row hi2
      have HX : Hid (∃ x, E[i] = x) := ⟨_, rfl⟩
      have hmem := HEM.out E[i] (List.getElem_mem hi2)
      have hdx := HJ.out.hr _ hmem
      have hrx := HTB.out.iv.ro E[i] (List.mem_append.2 (.inr hmem))
      obtain ⟨ps, hps, hown, hrows⟩ := HJ.out.gone.row
      have hpl : ps.length = i := by
        have := congrArg List.length hps
        rw [List.length_map, List.length_map, List.length_take] at this
        omega
      have HSTEP : Hid (∀ (y z1 : World) (v1 v2 : Value) (gg cap : Nat), Tm y base b wb rb kb hb Bw Br1 ck ch Dk (Dh1.del (nl E[i].2.2.2)) C S.old (S.LW.map tx) ((S.LR.filter (fun x => !dueX S.now x)).map tx) S.now (S.now + 1) S.lw S.lr → y.ownsRow base tF 3 v1 E[i].2.2.2.L1.length (fc E[i].2.2.2.L1) → y.ownsRow base tF 3 v2 E[i].2.2.2.L2.length (fc E[i].2.2.2.L2) → Kx wr y → Below base wr y → z1.ownsRow w.heap.size tP 12 (.slice (some ⟨gg, 0, none⟩) (i + 1) cap) (i + 1) (pl ps ++ (pcs E[i].2.2.2 v1 v2).toList) → (y.alloc (.cells (pcs E[i].2.2.2 v1 v2) tP)).grownBy z1 (Value.slice og i cg).ownBlock → J1 w z1 base b wb rb kb hb Bw Br1 ck ch Dk C S E (.slice ov N cv) (.slice (some ⟨gg, 0, none⟩) (i + 1) cap) (i + 1)) := fun y z1 v1 v2 gg cap a1 a2 a3 a4 a5 a6 a7 => by
        subst hpl
        exact HJ.out.step hi2 HEM.out t2 a1 a2 a3 a4 a5 hps hown hrows a6 a7
      have HGF : Hid (∀ y, Below base wr y → Kx wr y → y.ownsRow w.heap.size tP 12 (.slice og i cg) i (pl ps) ∧ w.heap.size ≤ y.heap.size) := fun y hy kx => ⟨by have h9 := Kx.rowP kx hown; rwa [hpl] at h9, Nat.le_trans HJ.out.kt.size hy.size⟩
      have HFG : Hid (Calls Try.prog 28 #[.pointer (some ⟨b, 0, none⟩), ptr E[i]] wr fun e w' => ∃ v1 v2, e = .returned (pv E[i].2.2.2 v1 v2) ∧ Tm w' base b wb rb kb hb Bw Br1 ck ch Dk (Dh1.del (nl E[i].2.2.2)) C S.old (S.LW.map tx) ((S.LR.filter (fun x => !dueX S.now x)).map tx) S.now (S.now + 1) S.lw S.lr ∧ w'.ownsRow base tF 3 v1 E[i].2.2.2.L1.length (fc E[i].2.2.2.L1) ∧ w'.ownsRow base tF 3 v2 E[i].2.2.2.L2.length (fc E[i].2.2.2.L2) ∧ Kx wr w' ∧ Below base wr w') := Pj.forget_any t1 hdx hrx
      have HIN : Hid (i < N) := hlt
      have q0 : (i : Int) < (N : Int) := by omega
      have q3 : (i : Int) + 1 ≤ 9223372036854775807 := by have := HNB.out; omega
      subst eo
      generalize E[i] = x at *
      obtain ⟨tim, tik, g, lk, cl, nu, st, tr, fr, to_, no, m1, L1, m2, L2⟩ := x
      unfold ptr at cp HFG
      unfold pv at HFG
      dsimp only at cp HFG HSTEP
      generalize pl ps = PL at *
      clear hi hlt hi2 t1 t2 HX hmem hdx hrx hps hown hrows hpl HJ
      go_wp2_with fail
      refine HFG.out.mono ?_
      rintro e y ⟨v1, v2, rfl, a1, a2, a3, a4, a5⟩
      obtain ⟨o1, p1, e1, -⟩ := own_form a2
      obtain ⟨o2, p2, e2, -⟩ := own_form a3
      obtain ⟨K1, HK1⟩ : ∃ K1, Hid (L1.length = K1) := ⟨_, rfl⟩
      obtain ⟨K2, HK2⟩ : ∃ K2, Hid (L2.length = K2) := ⟨_, rfl⟩
      rw [HK1.out] at e1
      rw [HK2.out] at e2
      subst e1 e2
      have HAP : Hid (∀ z1 gg cap, z1.ownsRow w.heap.size tP 12 (.slice (some ⟨gg, 0, none⟩) (i + 1) cap) (i + 1) (PL ++ #[.int .i64 lk, .int .i64 cl, .string nu, .string st, .string tr, .int .i64 fr, .int .i64 to_, .int .i64 no, .string m1, .slice o1 K1 p1, .string m2, .slice o2 K2 p2].toList) → (y.alloc (.cells #[.int .i64 lk, .int .i64 cl, .string nu, .string st, .string tr, .int .i64 fr, .int .i64 to_, .int .i64 no, .string m1, .slice o1 K1 p1, .string m2, .slice o2 K2 p2] tP)).grownBy z1 (Value.slice og i cg).ownBlock → J1 w z1 base b wb rb kb hb Bw Br1 ck ch Dk C S E (.slice (some ⟨gp, 0, none⟩) N cv) (.slice (some ⟨gg, 0, none⟩) (i + 1) cap) (i + 1)) := fun z1 gg cap b1 b2 => HSTEP.out y z1 _ _ gg cap a1 a2 a3 a4 a5 b1 b2
      have HOW : Hid ((y.alloc (.cells #[.int .i64 lk, .int .i64 cl, .string nu, .string st, .string tr, .int .i64 fr, .int .i64 to_, .int .i64 no, .string m1, .slice o1 K1 p1, .string m2, .slice o2 K2 p2] tP)).ownsRow w.heap.size tP 12 (.slice og i cg) i PL ∧ w.heap.size ≤ (y.alloc (.cells #[.int .i64 lk, .int .i64 cl, .string nu, .string st, .string tr, .int .i64 fr, .int .i64 to_, .int .i64 no, .string m1, .slice o1 K1 p1, .string m2, .slice o2 K2 p2] tP)).heap.size) := by
        obtain ⟨b1, b2⟩ := HGF.out y a5 a4
        exact ⟨b1.alloc _, by rw [World.size_alloc]; omega⟩
      obtain ⟨i0, hi0, hz0, hz1, hz2⟩ := infoP12
      clear a1 a2 a3 a4 a5 HSTEP HGF HFG
      simp only [pcs]
      go_wp2_with (first | (at_builtin; refine wpList_append_lies _ rfl _ _ _ rfl w.heap.size tP i0 _ 12 168 Try.underlying53 hi0 hz0 hz1 hz2 rfl (by omega) _ i PL rfl HOW.out.1 ⟨y.heap.size, 0, none⟩ 1 1 _ rfl (by rfl) (World.news_of_block (h1_0 y _)) (by simp [Value.oneCell']) (by omega) (by have := HNB.out; have := HIN.out; unfold maxLen; omega) (by have := HNB.out; have := HIN.out; omega) HOW.out.2 _ rfl ?_; intro gg cap2 z1 hown hgrow hat hlt1; have HPU : Hid (J1 w z1 base b wb rb kb hb Bw Br1 ck ch Dk C S E (.slice (some ⟨gp, 0, none⟩) N cv) (.slice (some ⟨gg, 0, none⟩) (i + 1) cap2) (i + 1)) := HAP.out z1 gg cap2 hown hgrow; clear hown hgrow hat hlt1) | fail)
      have := HIN.out
      refine ⟨⟨i + 1, by simp, by omega, _, _, rfl, HPU.out⟩, ?_⟩
      simp only [intOf]
      omega
    · obtain rfl : i = N := by omega
      have q0 : ¬ (i : Int) < (i : Int) := by omega
      obtain ⟨Dh1, t1, t2⟩ := HJ.out.tm
      rw [← HN.out, List.take_length] at t2
      obtain ⟨c0, c1, -⟩ := t1.cells
      have HTK : Hid (Calls Try.prog 31 #[.pointer (some ⟨wb, 0, none⟩)] wr fun e w' => ∃ v, e = .returned v ∧ w'.ownsRow wr.heap.size Jh.tT 1 v ((S.LW.map tx).filter fun x => x.2.1 == S.now + 1).length (Jh.thgs ((S.LW.map tx).filter fun x => x.2.1 == S.now + 1)) ∧ Trn wr wb Bw 256 ((S.LW.map tx).filter fun x => !(x.2.1 == S.now + 1)) (S.now + 1) S.lw w') := Th.tick_any wr wb Bw 256 _ S.now S.lw t1.ww HTB.out.iv.okw (by have := HLW.out; omega) (by have := HNO.out; omega)
      have HGO : Hid (Lst wr base w.heap.size (.slice og i cg) ((E0 S).map (·.2.2.2))) := by
        have := HJ.out.gone
        rw [← HN.out, List.take_length] at this
        rw [show E0 S = E from HE.out]
        rwa [HN.out] at this
      have HT1 : Hid (Tm wr base b wb rb kb hb Bw Br1 ck ch Dk Dh1 C S.old (S.LW.map tx) ((S.LR.filter (fun x => !dueX S.now x)).map tx) S.now (S.now + 1) S.lw S.lr) := t1
      have HM1 : Hid (Mt Dk Dh1 (KPs S.LW) (fun k q => HPs (S.LW ++ S.LR) k q ∧ ∀ x ∈ E, nl q ≠ nl x.2.2.2)) := t2
      have HJW : Hid ((∀ x ∈ S.LW, Hd wr base x.2.2.1 x.2.2.2 x.1 false) ∧ (∀ x ∈ S.LR, Hd wr base x.2.2.1 x.2.2.2 x.1 true) ∧ Kt w wr ∧ Below base w wr ∧ base ≤ w.heap.size) := ⟨HJ.out.hw, HJ.out.hr, HJ.out.kt, HJ.out.bel, HJ.out.bas⟩
      clear t1 t2 HJ hi hlt HNB HN
      go_wp2_with fail
      refine HTK.out.mono ?_
      rintro e y2 ⟨v2, rfl, ho, tr⟩
      rw [filter_tx, thgs_tx, List.length_map] at ho
      rw [filter_tx2] at tr
      obtain ⟨F, HF⟩ : ∃ F, Hid (F0 S = F) := ⟨_, rfl⟩
      rw [show S.LW.filter (dueX S.now) = F from HF.out] at ho
      have HZ0 : Hid (Zs w y2 base b wb rb kb hb ck ch C (S.now + 1) S.lw ((W0 S).map tx) (F ++ W0 S) (F ++ W0 S) (R0 S) S.lr S.old [] ((E0 S).map (·.2.2.2)) (.slice none 0 0) (.slice og i cg) F v2) := by
        obtain ⟨⟨Bw', t1⟩, kx, bl⟩ := HT1.out.wait tr
        have hp : (F0 S ++ W0 S).Perm S.LW := split_perm _ _
        rw [HF.out] at hp
        refine ⟨⟨Bw', Br1, Dk, Dh1, t1, HM1.out.congr (fun q => ?_) (fun k q => ?_)⟩, fun x hx => (HJW.out.1 x (hp.mem_iff.1 hx)).keep kx, fun x hx => (HJW.out.2.1 x (List.mem_filter.1 hx).1).keep kx, lst_nil _ _ _, HGO.out.keep kx.kt, fun k hk => by simp [Value.ownBlock] at hk, own_low ho HJW.out.2.2.1.size, HJW.out.2.2.1.trans kx.kt, HJW.out.2.2.2.1.trans bl, HJW.out.2.2.2.2⟩
        · rw [← HF.out]; exact kp0 q
        · rw [← HF.out, ← HE.out]; exact hp0 HTB.out.iv k q
      obtain ⟨ov2, cv2, ev, -⟩ := own_form ho
      obtain ⟨M, HM⟩ : ∃ M, Hid (F.length = M) := ⟨_, rfl⟩
      rw [HM.out] at ev
      subst ev
      have HNB : Hid (M ≤ 10000 ∧ (M : Int) ≤ (S.LW.length : Int)) := by
        have h1 : F.length ≤ S.LW.length := by rw [← HF.out]; exact List.length_filter_le _ _
        have h2 := HTB.out.iv.lenw
        have h3 := HC.out.m1
        have h4 := HM.out
        show M ≤ 10000 ∧ _
        omega
      have HGL : Hid (i = ((E0 S).map (·.2.2.2)).length) := by
        obtain ⟨ps, hps, hown, -⟩ := HGO.out.row
        obtain ⟨o9, c9, e9, -⟩ := own_form hown
        injection e9 with _ e9 _
        rw [← hps, List.length_map]; exact e9
      clear ho tr HTK c0 c1 HT1 HM1 HJW HGO
      go_wp2_with fail
      obtain ⟨wo, HWO⟩ : ∃ wo : World, Hid (wo = wr) := ⟨_, rfl⟩
      go_loopw [4, 5, 35] (fun lv gv iv wr => ∃ j : Nat, iv = .int .i64 (j : Int) ∧ j ≤ M ∧ ∃ ol cl og cg, lv = .slice ol j cl ∧ gv = .slice og (Pi_ C S j).gone.length cg ∧ Hid (Zs w wr base b wb rb kb hb ck ch C (S.now + 1) S.lw ((W0 S).map tx) (F.drop j ++ W0 S) (F.drop j ++ W0 S) (Pi_ C S j).LR (Pi_ C S j).lr (Pi_ C S j).old ((F.take j).map (·.2.2.2)) (Pi_ C S j).gone (.slice ol j cl) (.slice og (Pi_ C S j).gone.length cg) F (.slice ov2 M cv2))) (fun _ _ iv _ => M + 1 - (intOf iv).toNat)
      case atStart =>
        refine ⟨0, rfl, Nat.zero_le _, none, 0, og, cg, rfl, ?_, ?_⟩
        · rw [HGL.out, pi_zero]; rfl
        · have := HZ0.out
          rw [HGL.out] at this
          rw [pi_zero]
          exact this
      case round =>
        obtain ⟨j, rfl, hj, ol, cl, og2, cg2, rfl, rfl, HZ⟩ := hrel
        have q1 : (0 : Int) ≤ (j : Int) := by omega
        by_cases hlt : j < M
        · have hj2 : j < F.length := by rw [HM.out]; exact hlt
          have hIP := ip_i HTB.out.iv HC.out HNO.out HLR.out j (by rw [HF.out]; omega)
          have hPS := pi_succ (C := C) (S := S) (i := j) (by rw [HF.out]; exact hj2)
          have hPL := pi_lr (C := C) (S := S) j (by rw [HF.out]; omega)
          have HPG : Hid ((Pi_ C S j).gone.length ≤ 30000) := by
            have h1 := pi_gone (C := C) (S := S) j (by rw [HF.out]; omega)
            have h2 := HTB.out.iv.lenr
            have h3 := HC.out.m1
            have h4 := HNB.out
            show _ ≤ _
            omega
          simp only [HF.out] at hIP hPS
          obtain ⟨gp, eo, cp⟩ := cell_ptr HZ.out.row hj2
          have hdr : F.drop j = F[j] :: F.drop (j + 1) := List.drop_eq_getElem_cons hj2
          have htk : F.take (j + 1) = F.take j ++ [F[j]] := List.take_succ_eq_append_getElem hj2
          rw [hdr, List.cons_append] at HZ hIP
          have HTK2 : Hid ((F.take (j + 1)).map (·.2.2.2) = (F.take j).map (·.2.2.2) ++ [F[j].2.2.2]) := by show _ = _; rw [htk, List.map_append]; rfl
          have HLL : Hid (((F.take j).map (fun x : XQ => x.2.2.2)).length = j) := by show _ = _; rw [List.length_map, List.length_take]; omega
          generalize (F.take j).map (fun x : XQ => x.2.2.2) = ls at *
          generalize F[j] = x at *
          obtain ⟨Q, HQQ⟩ : ∃ Q, Hid (F.drop (j + 1) ++ W0 S = Q) := ⟨_, rfl⟩
          rw [HQQ.out] at HZ hIP
          generalize Pi_ C S j = P at *
          have HIP : Hid (Ip C (S.now + 1) (x :: Q) P) := hIP
          have HPS : Hid (Pi_ C S (j + 1) = push C (S.now + 1) P x) := hPS
          have HPL : Hid (P.lr + 1 ≤ 1000000) := by
            have := HLR.out
            have := HNB.out
            show P.lr + 1 ≤ 1000000
            omega
          have hro := hIP.ro x (by simp)
          have hdx := HZ.out.hq x (by simp)
          obtain ⟨hg0, v1, v2, hgx, hv1, hv2⟩ := hdx
          obtain ⟨o1, p1, e1, -⟩ := own_form hv1
          obtain ⟨o2, p2, e2, -⟩ := own_form hv2
          obtain ⟨tim, tik, g, lk, cl_, nu, st, tr, fr, to_, no, m1, L1, m2, L2⟩ := x
          dsimp only at hro hgx hv1 hv2 e1 e2 hg0 HTK2
          obtain ⟨K1, HK1⟩ : ∃ K1, Hid (L1.length = K1) := ⟨_, rfl⟩
          obtain ⟨K2, HK2⟩ : ∃ K2, Hid (L2.length = K2) := ⟨_, rfl⟩
          rw [HK1.out] at e1
          rw [HK2.out] at e2
          subst e1 e2
          have HRM : Hid (Rm wr ⟨lk, cl_, nu, st, tr, fr, to_, no, m1, L1, m2, L2⟩ (.slice o1 K1 p1) (.slice o2 K2 p2)) := ⟨⟨hro.m1, rowf_own hv1, hro.f1⟩, ⟨hro.m2, rowf_own hv2, hro.f2⟩⟩
          have HRO : Hid (Ro ⟨lk, cl_, nu, st, tr, fr, to_, no, m1, L1, m2, L2⟩) := hro
          have HCP : Hid (Calls Try.prog 25 #[pv ⟨lk, cl_, nu, st, tr, fr, to_, no, m1, L1, m2, L2⟩ (.slice o1 K1 p1) (.slice o2 K2 p2)] wr (PostP wr ⟨lk, cl_, nu, st, tr, fr, to_, no, m1, L1, m2, L2⟩)) := copied_any _ _ _ wr HRO.out HRM.out
          obtain ⟨f0, f1, f2, f3, f4, f5, f6, f7, f8, f9, f10, f11⟩ := Pj.hcells hgx
          dsimp only at f0 f1 f2 f3 f4 f5 f6 f7 f8 f10
          unfold ptr at cp
          dsimp only at cp
          unfold pv at HCP
          simp only [pcs] at HCP
          have q0 : (j : Int) < (M : Int) := by omega
          have q3 : (j : Int) + 1 ≤ 9223372036854775807 := by have := HNB.out; omega
          have HJN : Hid (j < M) := hlt
          subst eo
          have HZ1 : Hid (Zs w wr base b wb rb kb hb ck ch C (S.now + 1) S.lw ((W0 S).map tx) ((tim, tik, g, (⟨lk, cl_, nu, st, tr, fr, to_, no, m1, L1, m2, L2⟩ : Rq)) :: Q) ((tim, tik, g, (⟨lk, cl_, nu, st, tr, fr, to_, no, m1, L1, m2, L2⟩ : Rq)) :: Q) P.LR P.lr P.old ls P.gone (.slice ol j cl) (.slice og2 P.gone.length cg2) F (.slice (some ⟨gp, 0, none⟩) M cv2)) := HZ.out
          clear hj hlt hj2 hIP hPS hPL hdr htk hro hg0 hgx hv1 hv2 HZ
          go_wp2_with fail
          refine HCP.out.mono ?_
          rintro e y ⟨u1, u2, rfl, a1, a2, -, -, a3⟩
          obtain ⟨o3, p3, e3, -⟩ := own_form a1
          obtain ⟨o4, p4, e4, -⟩ := own_form a2
          dsimp only at e3 e4 a1 a2
          rw [HK1.out] at e3
          rw [HK2.out] at e4
          subst e3 e4
          have HAP : Hid (∃ PL, (y.alloc (.cells #[.int .i64 lk, .int .i64 cl_, .string nu, .string st, .string tr, .int .i64 fr, .int .i64 to_, .int .i64 no, .string m1, .slice o3 K1 p3, .string m2, .slice o4 K2 p4] tP)).ownsRow w.heap.size tP 12 (.slice ol j cl) j PL ∧ w.heap.size ≤ (y.alloc (.cells #[.int .i64 lk, .int .i64 cl_, .string nu, .string st, .string tr, .int .i64 fr, .int .i64 to_, .int .i64 no, .string m1, .slice o3 K1 p3, .string m2, .slice o4 K2 p4] tP)).heap.size ∧ ∀ z1 gg cap, z1.ownsRow w.heap.size tP 12 (.slice (some ⟨gg, 0, none⟩) (j + 1) cap) (j + 1) (PL ++ #[.int .i64 lk, .int .i64 cl_, .string nu, .string st, .string tr, .int .i64 fr, .int .i64 to_, .int .i64 no, .string m1, .slice o3 K1 p3, .string m2, .slice o4 K2 p4].toList) → (y.alloc (.cells #[.int .i64 lk, .int .i64 cl_, .string nu, .string st, .string tr, .int .i64 fr, .int .i64 to_, .int .i64 no, .string m1, .slice o3 K1 p3, .string m2, .slice o4 K2 p4] tP)).grownBy z1 (Value.slice ol j cl).ownBlock → ((Value.slice ol j cl).ownBlock = some gg ∨ gg = (y.alloc (.cells #[.int .i64 lk, .int .i64 cl_, .string nu, .string st, .string tr, .int .i64 fr, .int .i64 to_, .int .i64 no, .string m1, .slice o3 K1 p3, .string m2, .slice o4 K2 p4] tP)).heap.size) → Zs w z1 base b wb rb kb hb ck ch C (S.now + 1) S.lw ((W0 S).map tx) ((tim, tik, g, (⟨lk, cl_, nu, st, tr, fr, to_, no, m1, L1, m2, L2⟩ : Rq)) :: Q) ((tim, tik, g, (⟨lk, cl_, nu, st, tr, fr, to_, no, m1, L1, m2, L2⟩ : Rq)) :: Q) P.LR P.lr P.old (ls ++ [(⟨lk, cl_, nu, st, tr, fr, to_, no, m1, L1, m2, L2⟩ : Rq)]) P.gone (.slice (some ⟨gg, 0, none⟩) (j + 1) cap) (.slice og2 P.gone.length cg2) F (.slice (some ⟨gp, 0, none⟩) M cv2)) := by
            obtain ⟨ps, hps, hown, hrows⟩ := HZ1.out.late.row
            have hpl : ps.length = j := by
              have := congrArg List.length hps
              rw [List.length_map, HLL.out] at this
              exact this
            obtain ⟨Bw3, Br3, Dk3, Dh3, t1, t2⟩ := HZ1.out.tm
            have hbs := Nat.le_trans HZ1.out.bas HZ1.out.kt.size
            refine ⟨pl ps, ?_, ?_, fun z1 gg cap b1 b2 b3 => ?_⟩
            · have h9 := (Kx.rowP (Kx.of a3) hown)
              rw [hpl] at h9
              exact h9.alloc _
            · have h8 := HZ1.out.kt.size
              have h9 := a3.size
              rw [World.size_alloc]
              omega
            · have h9 := HZ1.out.tell (r := ⟨lk, cl_, nu, st, tr, fr, to_, no, m1, L1, m2, L2⟩) (z1 := z1) (gg := gg) (cap := cap) a3 (own_low a1 hbs) (own_low a2 hbs) hps hown hrows (by rw [hpl]; exact b1) b2 b3
              rwa [hpl] at h9
          obtain ⟨PL, hA1, hA2, hA3⟩ := HAP.out
          have HA1 : Hid ((y.alloc (.cells #[.int .i64 lk, .int .i64 cl_, .string nu, .string st, .string tr, .int .i64 fr, .int .i64 to_, .int .i64 no, .string m1, .slice o3 K1 p3, .string m2, .slice o4 K2 p4] tP)).ownsRow w.heap.size tP 12 (.slice ol j cl) j PL) := hA1
          have HA2 : Hid (w.heap.size ≤ (y.alloc (.cells #[.int .i64 lk, .int .i64 cl_, .string nu, .string st, .string tr, .int .i64 fr, .int .i64 to_, .int .i64 no, .string m1, .slice o3 K1 p3, .string m2, .slice o4 K2 p4] tP)).heap.size) := hA2
          have HA3 : Hid (∀ z1 gg cap, z1.ownsRow w.heap.size tP 12 (.slice (some ⟨gg, 0, none⟩) (j + 1) cap) (j + 1) (PL ++ #[.int .i64 lk, .int .i64 cl_, .string nu, .string st, .string tr, .int .i64 fr, .int .i64 to_, .int .i64 no, .string m1, .slice o3 K1 p3, .string m2, .slice o4 K2 p4].toList) → (y.alloc (.cells #[.int .i64 lk, .int .i64 cl_, .string nu, .string st, .string tr, .int .i64 fr, .int .i64 to_, .int .i64 no, .string m1, .slice o3 K1 p3, .string m2, .slice o4 K2 p4] tP)).grownBy z1 (Value.slice ol j cl).ownBlock → ((Value.slice ol j cl).ownBlock = some gg ∨ gg = (y.alloc (.cells #[.int .i64 lk, .int .i64 cl_, .string nu, .string st, .string tr, .int .i64 fr, .int .i64 to_, .int .i64 no, .string m1, .slice o3 K1 p3, .string m2, .slice o4 K2 p4] tP)).heap.size) → Zs w z1 base b wb rb kb hb ck ch C (S.now + 1) S.lw ((W0 S).map tx) ((tim, tik, g, (⟨lk, cl_, nu, st, tr, fr, to_, no, m1, L1, m2, L2⟩ : Rq)) :: Q) ((tim, tik, g, (⟨lk, cl_, nu, st, tr, fr, to_, no, m1, L1, m2, L2⟩ : Rq)) :: Q) P.LR P.lr P.old (ls ++ [(⟨lk, cl_, nu, st, tr, fr, to_, no, m1, L1, m2, L2⟩ : Rq)]) P.gone (.slice (some ⟨gg, 0, none⟩) (j + 1) cap) (.slice og2 P.gone.length cg2) F (.slice (some ⟨gp, 0, none⟩) M cv2)) := hA3
          obtain ⟨i0, hi0, hz0, hz1, hz2⟩ := infoP12
          clear a1 a2 a3 hA1 hA2 hA3 HAP HCP HZ1 f0 f1 f2 f3 f4 f5 f6 f7 f8 f9 f10 f11 cp HRM
          unfold pv
          simp only [pcs]
          go_wp2_with (first | (at_builtin; refine wpList_append_lies _ rfl _ _ _ rfl w.heap.size tP i0 _ 12 168 Try.underlying53 hi0 hz0 hz1 hz2 rfl (by omega) _ j PL rfl HA1.out ⟨y.heap.size, 0, none⟩ 1 1 _ rfl (by rfl) (World.news_of_block (h1_0 y _)) (by simp [Value.oneCell']) (by omega) (by have := HNB.out; have := HJN.out; unfold maxLen; omega) (by have := HNB.out; have := HJN.out; omega) HA2.out _ rfl ?_; intro gg cap2 z1 hown hgrow hat hlt1; have HZ2 : Hid (Zs w z1 base b wb rb kb hb ck ch C (S.now + 1) S.lw ((W0 S).map tx) ((tim, tik, g, (⟨lk, cl_, nu, st, tr, fr, to_, no, m1, L1, m2, L2⟩ : Rq)) :: Q) ((tim, tik, g, (⟨lk, cl_, nu, st, tr, fr, to_, no, m1, L1, m2, L2⟩ : Rq)) :: Q) P.LR P.lr P.old (ls ++ [(⟨lk, cl_, nu, st, tr, fr, to_, no, m1, L1, m2, L2⟩ : Rq)]) P.gone (.slice (some ⟨gg, 0, none⟩) (j + 1) cap2) (.slice og2 P.gone.length cg2) F (.slice (some ⟨gp, 0, none⟩) M cv2)) := HA3.out z1 gg cap2 hown hgrow hat; clear hown hgrow hat hlt1) | fail)
          have HZ3 : Hid (∃ y2, (Builtin.delete_ #[tMK, tK] 0 #[.map (some kb), kv ⟨lk, cl_, nu, st, tr, fr, to_, no, m1, L1, m2, L2⟩]).run Try.prog z1.drew = .ok (.tuple #[]) y2 ∧ Hid (Zs w y2 base b wb rb kb hb ck ch C (S.now + 1) S.lw ((W0 S).map tx) Q ((tim, tik, g, (⟨lk, cl_, nu, st, tr, fr, to_, no, m1, L1, m2, L2⟩ : Rq)) :: Q) P.LR P.lr P.old (ls ++ [(⟨lk, cl_, nu, st, tr, fr, to_, no, m1, L1, m2, L2⟩ : Rq)]) P.gone (.slice (some ⟨gg, 0, none⟩) (j + 1) cap2) (.slice og2 P.gone.length cg2) F (.slice (some ⟨gp, 0, none⟩) M cv2))) := by
            have hz := HZ2.out.below ((Below.refl _ z1).drew)
            obtain ⟨Bw3, Br3, Dk3, Dh3, t1, t2⟩ := hz.tm
            obtain ⟨y2, hr, ho, ht⟩ := t1.keys.drop lawK Try.underlying65 (kl_of HRO.out) 0
            refine ⟨y2, hr, hz.key t1 t2 ho ht (fun q => ?_)⟩
            have hk := List.pairwise_cons.1 HIP.out.kd
            constructor
            · rintro ⟨⟨x, hx, rfl⟩, e2⟩
              rcases List.mem_cons.1 hx with rfl | hx
              · exact absurd rfl e2
              · exact ⟨x, hx, rfl⟩
            · rintro ⟨x, hx, rfl⟩
              exact ⟨⟨x, List.mem_cons_of_mem _ hx, rfl⟩, (hk.1 x hx).symm⟩
          obtain ⟨y2, hrun, HZ3⟩ := HZ3.out
          have d6 : z1.cell? ⟨b, 6, none⟩ = some (.map (some kb)) := by
            obtain ⟨Bw3, Br3, Dk3, Dh3, t1, t2⟩ := HZ2.out.tm
            exact t1.cells.2.2.2.2.2.2.1
          obtain ⟨-, w1, w2, hgx, -⟩ := HZ2.out.hq (tim, tik, g, (⟨lk, cl_, nu, st, tr, fr, to_, no, m1, L1, m2, L2⟩ : Rq)) (List.mem_cons_self ..)
          obtain ⟨f0, f1, f2, f3, f4, -⟩ := Pj.hcells hgx
          dsimp only at f0 f1 f2 f3 f4
          simp only [kv, keyV] at hrun
          clear hgx HA1 HA2 HA3 hi0 hz0 hz1 hz2
          go_region
          have HD2 : Hid (Hd y2 base g ⟨lk, cl_, nu, st, tr, fr, to_, no, m1, L1, m2, L2⟩ tim false) := HZ3.out.hq (tim, tik, g, (⟨lk, cl_, nu, st, tr, fr, to_, no, m1, L1, m2, L2⟩ : Rq)) (List.mem_cons_self ..)
          have HRE : Hid (Calls Try.prog 32 #[.pointer (some ⟨b, 0, none⟩), .pointer (some ⟨g, 0, none⟩)] y2 fun e w' => e = .returned (.tuple #[]) ∧ Zs w w' base b wb rb kb hb ck ch C (S.now + 1) S.lw ((W0 S).map tx) Q Q (P.LR ++ [(P.lr + 1, S.now + 1 + C.late, g, (⟨lk, cl_, nu, st, tr, fr, to_, no, m1, L1, m2, L2⟩ : Rq))]) (P.lr + 1) P.old (ls ++ [(⟨lk, cl_, nu, st, tr, fr, to_, no, m1, L1, m2, L2⟩ : Rq)]) P.gone (.slice (some ⟨gg, 0, none⟩) (j + 1) cap2) (.slice og2 P.gone.length cg2) F (.slice (some ⟨gp, 0, none⟩) M cv2)) := by
            obtain ⟨Bw3, Br3, Dk3, Dh3, t1, t2⟩ := HZ3.out.tm
            refine (remember_any t1 HC.out HIP.out.okr (by have := HPL.out; omega) HD2.out).mono ?_
            rintro e w' ⟨rfl, ⟨Br4, t3⟩, h2, h3, h4, h5⟩
            exact ⟨rfl, HZ3.out.rem t2 t3 h2 h3 h4 h5 (zs_ne HZ3.out HIP.out.nd)⟩
          clear f0 f1 f2 f3 f4 d6 hrun HZ2
          go_wp2_with fail
          refine HRE.out.mono ?_
          rintro e y3 ⟨rfl, hz3⟩
          have HZ4 : Hid (Zs w y3 base b wb rb kb hb ck ch C (S.now + 1) S.lw ((W0 S).map tx) Q Q (P.LR ++ [(P.lr + 1, S.now + 1 + C.late, g, (⟨lk, cl_, nu, st, tr, fr, to_, no, m1, L1, m2, L2⟩ : Rq))]) (P.lr + 1) P.old (ls ++ [(⟨lk, cl_, nu, st, tr, fr, to_, no, m1, L1, m2, L2⟩ : Rq)]) P.gone (.slice (some ⟨gg, 0, none⟩) (j + 1) cap2) (.slice og2 P.gone.length cg2) F (.slice (some ⟨gp, 0, none⟩) M cv2)) := hz3
          clear hz3 HRE HZ3 HD2
          have d5 : y3.cell? ⟨b, 5, none⟩ = some (.int .i64 C.most) := by
            obtain ⟨Bw3, Br3, Dk3, Dh3, t1, t2⟩ := HZ4.out.tm
            exact t1.cells.2.2.2.2.2.1
          have HQ : Hid (∀ m, Calls Try.prog 12 #[.pointer (some ⟨b, 0, none⟩)] (y3.drewN m) fun e w' => e = .returned (.int .i64 ((P.LR.length : Int) + 1)) ∧ w' = y3.drewN m) := fun m => by
            obtain ⟨Bw3, Br3, Dk3, Dh3, t1, t2⟩ := (HZ4.out.below (Kb.below_drewN (Below.refl _ y3) m)).tm
            have := Pd.late_any t1
            rw [List.length_map, List.length_append, List.length_singleton] at this
            exact this
          by_cases hm : C.most < (P.LR.length : Int) + 1
          · have HPM : Hid (C.most < (P.LR.length : Int) + 1) := hm
            have hNL : ∃ yy L, (P.LR ++ [(P.lr + 1, S.now + 1 + C.late, g, (⟨lk, cl_, nu, st, tr, fr, to_, no, m1, L1, m2, L2⟩ : Rq))]) = yy :: L := by
              cases e : (P.LR ++ [(P.lr + 1, S.now + 1 + C.late, g, (⟨lk, cl_, nu, st, tr, fr, to_, no, m1, L1, m2, L2⟩ : Rq))]) with
              | nil => simp at e
              | cons yy L => exact ⟨yy, L, rfl⟩
            obtain ⟨yy, L, hNL⟩ := hNL
            have HNL : Hid ((P.LR ++ [(P.lr + 1, S.now + 1 + C.late, g, (⟨lk, cl_, nu, st, tr, fr, to_, no, m1, L1, m2, L2⟩ : Rq))]) = yy :: L) := hNL
            have HIA : Hid (Ok 256 ((yy :: L).map tx) (S.now + 1) (P.lr + 1)) := by
              have := HIP.out.added HC.out HPL.out
              rw [show P.LR ++ [xr P C (S.now + 1) (tim, tik, g, (⟨lk, cl_, nu, st, tr, fr, to_, no, m1, L1, m2, L2⟩ : Rq))] = yy :: L from hNL] at this
              exact this
            have HOL : Hid (P.old < yy.1) := by
              have hy : yy ∈ (P.LR ++ [(P.lr + 1, S.now + 1 + C.late, g, (⟨lk, cl_, nu, st, tr, fr, to_, no, m1, L1, m2, L2⟩ : Rq))]) := by rw [hNL]; exact List.mem_cons_self ..
              show P.old < yy.1
              rcases List.mem_append.1 hy with hy | hy
              · exact HIP.out.old1 yy hy
              · rw [List.mem_singleton.1 hy]; have := HIP.out.old2; show P.old < P.lr + 1; omega
            have HRY : Hid (Ro yy.2.2.2) := by
              have := HIP.out.ro2 yy
              rw [show P.LR ++ [xr P C (S.now + 1) (tim, tik, g, (⟨lk, cl_, nu, st, tr, fr, to_, no, m1, L1, m2, L2⟩ : Rq))] = yy :: L from hNL] at this
              exact this (List.mem_append.2 (.inr (List.mem_cons_self ..)))
            have HNE : Hid (∀ z ∈ Q ++ L, nl z.2.2.2 ≠ nl yy.2.2.2) := by
              have h1 := nd_move (x := (tim, tik, g, (⟨lk, cl_, nu, st, tr, fr, to_, no, m1, L1, m2, L2⟩ : Rq))) (x' := xr P C (S.now + 1) (tim, tik, g, (⟨lk, cl_, nu, st, tr, fr, to_, no, m1, L1, m2, L2⟩ : Rq))) rfl HIP.out.nd
              rw [show P.LR ++ [xr P C (S.now + 1) (tim, tik, g, (⟨lk, cl_, nu, st, tr, fr, to_, no, m1, L1, m2, L2⟩ : Rq))] = yy :: L from hNL] at h1
              have h2 := nd_sym (L := yy :: (Q ++ L)) List.perm_middle.symm h1
              exact fun z hz => ((List.pairwise_cons.1 h2).1 z hz).symm
            have HPD : Hid (Pi_ C S (j + 1) = ⟨L, P.lr + 1, yy.1, P.gone ++ [yy.2.2.2]⟩) := by
              show _ = _
              rw [HPS.out]
              exact push_drop hm hNL
            have HZ5 : Hid (Zs w y3 base b wb rb kb hb ck ch C (S.now + 1) S.lw ((W0 S).map tx) Q Q (yy :: L) (P.lr + 1) P.old (ls ++ [(⟨lk, cl_, nu, st, tr, fr, to_, no, m1, L1, m2, L2⟩ : Rq)]) P.gone (.slice (some ⟨gg, 0, none⟩) (j + 1) cap2) (.slice og2 P.gone.length cg2) F (.slice (some ⟨gp, 0, none⟩) M cv2)) := by
              have := HZ4.out
              rw [hNL] at this
              exact this
            clear hNL HZ4
            go_wp2_with fail
            go_quiet ((go_at_call 12; exact Calls.quiet_of_same (HQ.out _)))
            clear hm HQ d5
            obtain ⟨y4, HY4⟩ : ∃ y4, Hid (y3.drewN nq = y4) := ⟨_, rfl⟩
            have hpm := HPM.out
            go_wp2_with fail
            rw [HY4.out]
            have HZ6 : Hid (Zs w y4 base b wb rb kb hb ck ch C (S.now + 1) S.lw ((W0 S).map tx) Q Q (yy :: L) (P.lr + 1) P.old (ls ++ [(⟨lk, cl_, nu, st, tr, fr, to_, no, m1, L1, m2, L2⟩ : Rq)]) P.gone (.slice (some ⟨gg, 0, none⟩) (j + 1) cap2) (.slice og2 P.gone.length cg2) F (.slice (some ⟨gp, 0, none⟩) M cv2)) := HY4.out ▸ HZ5.out.below (Kb.below_drewN (Below.refl _ y3) nq)
            clear HZ5 HY4 hpm
            obtain ⟨Bw5, Br5, Dk5, Dh5, t1, t2⟩ := HZ6.out.tm
            rw [List.map_cons] at t1
            have HIA2 := HIA.out
            rw [List.map_cons] at HIA2
            refine (Pk.stopOldest_any t1 HIA2 HIP.out.old0 HOL.out (by have := HPL.out; omega)).mono ?_
            rintro e y5 ⟨rfl, ⟨Br6, t3⟩, kx5, bl5⟩
            have hd5 := (HZ6.out.hr yy (List.mem_cons_self ..)).keep kx5
            have HFO : Hid (Calls Try.prog 28 #[.pointer (some ⟨b, 0, none⟩), .pointer (some ⟨yy.2.2.1, 0, none⟩)] y5 fun e w' => ∃ v1 v2, e = .returned (pv yy.2.2.2 v1 v2) ∧ Tm w' base b wb rb kb hb Bw5 Br6 ck ch Dk5 (Dh5.del (nl yy.2.2.2)) C (tx yy).1 ((W0 S).map tx) (L.map tx) (S.now + 1) (S.now + 1) S.lw (P.lr + 1) ∧ w'.ownsRow base tF 3 v1 yy.2.2.2.L1.length (fc yy.2.2.2.L1) ∧ w'.ownsRow base tF 3 v2 yy.2.2.2.L2.length (fc yy.2.2.2.L2) ∧ Kx y5 w' ∧ Below base y5 w') := Pj.forget_any t3 hd5 HRY.out
            have HKX5 : Hid (Kx y4 y5 ∧ Below base y4 y5) := ⟨kx5, bl5⟩
            have HT2 : Hid (Mt Dk5 Dh5 (KPs Q) (HPs (Q ++ yy :: L))) := t2
            clear t1 t2 t3 kx5 bl5 hd5 HIA2 HIA HOL HRY
            obtain ⟨yt, yk, yg, lk2, cl2, nu2, st2, tr2, fr2, to2, no2, m12, L12, m22, L22⟩ := yy
            try dsimp only [tx] at HFO
            unfold pv at HFO
            simp only [tx]
            go_wp2_with fail
            refine HFO.out.mono ?_
            rintro e y6 ⟨v5, v6, rfl, a1, a2, a3, a4, a5⟩
            try dsimp only at a1 a2 a3
            obtain ⟨o5, p5, e5, -⟩ := own_form a2
            obtain ⟨o6, p6, e6, -⟩ := own_form a3
            obtain ⟨K5, HK5⟩ : ∃ K5, Hid (L12.length = K5) := ⟨_, rfl⟩
            obtain ⟨K6, HK6⟩ : ∃ K6, Hid (L22.length = K6) := ⟨_, rfl⟩
            rw [HK5.out] at e5
            rw [HK6.out] at e6
            subst e5 e6
            obtain ⟨GL, HGL2⟩ : ∃ GL, Hid (P.gone.length = GL) := ⟨_, rfl⟩
            have HGB : Hid (GL ≤ 30000) := HGL2.out ▸ HPG.out
            have HAP : Hid (∃ PL, (y6.alloc (.cells #[.int .i64 lk2, .int .i64 cl2, .string nu2, .string st2, .string tr2, .int .i64 fr2, .int .i64 to2, .int .i64 no2, .string m12, .slice o5 K5 p5, .string m22, .slice o6 K6 p6] tP)).ownsRow w.heap.size tP 12 (.slice og2 GL cg2) GL PL ∧ w.heap.size ≤ (y6.alloc (.cells #[.int .i64 lk2, .int .i64 cl2, .string nu2, .string st2, .string tr2, .int .i64 fr2, .int .i64 to2, .int .i64 no2, .string m12, .slice o5 K5 p5, .string m22, .slice o6 K6 p6] tP)).heap.size ∧ ∀ z1 gg2 cap, z1.ownsRow w.heap.size tP 12 (.slice (some ⟨gg2, 0, none⟩) (GL + 1) cap) (GL + 1) (PL ++ #[.int .i64 lk2, .int .i64 cl2, .string nu2, .string st2, .string tr2, .int .i64 fr2, .int .i64 to2, .int .i64 no2, .string m12, .slice o5 K5 p5, .string m22, .slice o6 K6 p6].toList) → (y6.alloc (.cells #[.int .i64 lk2, .int .i64 cl2, .string nu2, .string st2, .string tr2, .int .i64 fr2, .int .i64 to2, .int .i64 no2, .string m12, .slice o5 K5 p5, .string m22, .slice o6 K6 p6] tP)).grownBy z1 (Value.slice og2 GL cg2).ownBlock → ((Value.slice og2 GL cg2).ownBlock = some gg2 ∨ gg2 = (y6.alloc (.cells #[.int .i64 lk2, .int .i64 cl2, .string nu2, .string st2, .string tr2, .int .i64 fr2, .int .i64 to2, .int .i64 no2, .string m12, .slice o5 K5 p5, .string m22, .slice o6 K6 p6] tP)).heap.size) → Zs w z1 base b wb rb kb hb ck ch C (S.now + 1) S.lw ((W0 S).map tx) Q Q L (P.lr + 1) yt (ls ++ [(⟨lk, cl_, nu, st, tr, fr, to_, no, m1, L1, m2, L2⟩ : Rq)]) (P.gone ++ [(⟨lk2, cl2, nu2, st2, tr2, fr2, to2, no2, m12, L12, m22, L22⟩ : Rq)]) (.slice (some ⟨gg, 0, none⟩) (j + 1) cap2) (.slice (some ⟨gg2, 0, none⟩) (GL + 1) cap) F (.slice (some ⟨gp, 0, none⟩) M cv2)) := by
              obtain ⟨ps, hps, hown, hrows⟩ := HZ6.out.gone.row
              have hpl : ps.length = GL := by
                have := congrArg List.length hps
                rw [List.length_map, HGL2.out] at this
                exact this
              have kx := HKX5.out.1.trans a4
              have bl := HKX5.out.2.trans a5
              rw [HGL2.out] at hown
              refine ⟨pl ps, ?_, ?_, fun z1 gg2 cap b1 b2 b3 => ?_⟩
              · have h9 := Kx.rowP kx hown
                rw [hpl] at h9
                exact h9.alloc _
              · have h8 := HZ6.out.kt.size
                have h9 := bl.size
                rw [World.size_alloc]
                omega
              · have h9 := HZ6.out.drop (x := (yt, yk, yg, (⟨lk2, cl2, nu2, st2, tr2, fr2, to2, no2, m12, L12, m22, L22⟩ : Rq))) (z1 := z1) (gg := gg2) (cap := cap) HT2.out a1 a2 a3 kx bl HNE.out hps (by rw [HGL2.out]; exact hown) hrows (by rw [hpl]; exact b1) (by rw [HGL2.out]; exact b2) (by rw [HGL2.out]; exact b3)
                rwa [hpl] at h9
            obtain ⟨PL, hA1, hA2, hA3⟩ := HAP.out
            have HA1 : Hid ((y6.alloc (.cells #[.int .i64 lk2, .int .i64 cl2, .string nu2, .string st2, .string tr2, .int .i64 fr2, .int .i64 to2, .int .i64 no2, .string m12, .slice o5 K5 p5, .string m22, .slice o6 K6 p6] tP)).ownsRow w.heap.size tP 12 (.slice og2 GL cg2) GL PL) := hA1
            have HA2 : Hid (w.heap.size ≤ (y6.alloc (.cells #[.int .i64 lk2, .int .i64 cl2, .string nu2, .string st2, .string tr2, .int .i64 fr2, .int .i64 to2, .int .i64 no2, .string m12, .slice o5 K5 p5, .string m22, .slice o6 K6 p6] tP)).heap.size) := hA2
            have HA3 : Hid (∀ z1 gg2 cap, z1.ownsRow w.heap.size tP 12 (.slice (some ⟨gg2, 0, none⟩) (GL + 1) cap) (GL + 1) (PL ++ #[.int .i64 lk2, .int .i64 cl2, .string nu2, .string st2, .string tr2, .int .i64 fr2, .int .i64 to2, .int .i64 no2, .string m12, .slice o5 K5 p5, .string m22, .slice o6 K6 p6].toList) → (y6.alloc (.cells #[.int .i64 lk2, .int .i64 cl2, .string nu2, .string st2, .string tr2, .int .i64 fr2, .int .i64 to2, .int .i64 no2, .string m12, .slice o5 K5 p5, .string m22, .slice o6 K6 p6] tP)).grownBy z1 (Value.slice og2 GL cg2).ownBlock → ((Value.slice og2 GL cg2).ownBlock = some gg2 ∨ gg2 = (y6.alloc (.cells #[.int .i64 lk2, .int .i64 cl2, .string nu2, .string st2, .string tr2, .int .i64 fr2, .int .i64 to2, .int .i64 no2, .string m12, .slice o5 K5 p5, .string m22, .slice o6 K6 p6] tP)).heap.size) → Zs w z1 base b wb rb kb hb ck ch C (S.now + 1) S.lw ((W0 S).map tx) Q Q L (P.lr + 1) yt (ls ++ [(⟨lk, cl_, nu, st, tr, fr, to_, no, m1, L1, m2, L2⟩ : Rq)]) (P.gone ++ [(⟨lk2, cl2, nu2, st2, tr2, fr2, to2, no2, m12, L12, m22, L22⟩ : Rq)]) (.slice (some ⟨gg, 0, none⟩) (j + 1) cap2) (.slice (some ⟨gg2, 0, none⟩) (GL + 1) cap) F (.slice (some ⟨gp, 0, none⟩) M cv2)) := hA3
            obtain ⟨i0, hi0, hz0, hz1, hz2⟩ := infoP12
            clear a1 a2 a3 a4 a5 hA1 hA2 hA3 HAP HFO HZ6 HKX5 HT2 HNE
            simp only [pcs]
            rw [HGL2.out]
            go_wp2_with (first | (at_builtin; refine wpList_append_lies _ rfl _ _ _ rfl w.heap.size tP i0 _ 12 168 Try.underlying53 hi0 hz0 hz1 hz2 rfl (by omega) _ GL PL rfl HA1.out ⟨y6.heap.size, 0, none⟩ 1 1 _ rfl (by rfl) (World.news_of_block (h1_0 y6 _)) (by simp [Value.oneCell']) (by omega) (by have := HGB.out; unfold maxLen; omega) (by have := HGB.out; omega) HA2.out _ rfl ?_; intro gg2 cap3 z1 hown hgrow hat hlt1; have HZ7 : Hid (Zs w z1 base b wb rb kb hb ck ch C (S.now + 1) S.lw ((W0 S).map tx) Q Q L (P.lr + 1) yt (ls ++ [(⟨lk, cl_, nu, st, tr, fr, to_, no, m1, L1, m2, L2⟩ : Rq)]) (P.gone ++ [(⟨lk2, cl2, nu2, st2, tr2, fr2, to2, no2, m12, L12, m22, L22⟩ : Rq)]) (.slice (some ⟨gg, 0, none⟩) (j + 1) cap2) (.slice (some ⟨gg2, 0, none⟩) (GL + 1) cap3) F (.slice (some ⟨gp, 0, none⟩) M cv2)) := HA3.out z1 gg2 cap3 hown hgrow hat; clear hown hgrow hat hlt1) | fail)
            have hgl : ((⟨L, P.lr + 1, yt, P.gone ++ [⟨lk2, cl2, nu2, st2, tr2, fr2, to2, no2, m12, L12, m22, L22⟩]⟩ : Pu)).gone.length = GL + 1 := by
              show (P.gone ++ [_]).length = _
              rw [List.length_append, List.length_singleton, HGL2.out]
            refine ⟨⟨j + 1, by simp, by have := HJN.out; omega, _, _, some ⟨gg2, 0, none⟩, cap3, rfl, ?_, ?_⟩, ?_⟩
            · rw [HPD.out, hgl]
            · rw [HPD.out, hgl, HTK2.out, HQQ.out]
              exact HZ7.out
            · simp only [intOf]
              have := HJN.out
              omega
          · have HMM : Hid (¬ C.most < (P.LR.length : Int) + 1) := hm
            have HDM : Hid (decide (C.most < (P.LR.length : Int) + 1) = false) := by show _ = _; simpa using hm
            clear hm
            go_wp2_with fail
            have hd2 := HDM.out
            go_quiet ((go_at_call 12; exact Calls.quiet_of_same (HQ.out _)))
            go_wp2_with fail
            refine ⟨⟨j + 1, by simp, by have := HJN.out; omega, _, _, og2, cg2, rfl, ?_, ?_⟩, ?_⟩
            · rw [HPS.out, push_keep (by have := HMM.out; omega)]
            · rw [HPS.out, push_keep (by have := HMM.out; omega), HTK2.out, HQQ.out]
              exact HZ4.out.below (Kb.below_drewN (Below.refl _ y3) _)
            · simp only [intOf]
              have := HJN.out
              omega
        · obtain rfl : j = M := by omega
          have q0 : ¬ (j : Int) < (j : Int) := by omega
          have HEND : Hid (Tb wr base b C (tickS C S) ∧ Lst wr base w.heap.size (.slice ol j cl) (lateL S) ∧ Lst wr base w.heap.size (.slice og2 (Pi_ C S j).gone.length cg2) (tickP C S).gone ∧ Kt w wr ∧ Below base w wr) := by
            have hz := HZ.out
            have e1 : Pi_ C S j = tickP C S := by
              have e9 := pi_all (C := C) (S := S)
              rw [HF.out, HM.out] at e9
              exact e9
            have e2 : F.drop j ++ W0 S = W0 S := by rw [← HM.out, List.drop_length, List.nil_append]
            have e3 : (F.take j).map (fun x : XQ => x.2.2.2) = lateL S := by
              rw [← HM.out, List.take_length, ← HF.out]; rfl
            rw [e2, e3] at hz
            obtain ⟨Bw9, Br9, Dk9, Dh9, t1, t2⟩ := hz.tm
            refine ⟨⟨⟨wb, rb, kb, hb, Bw9, Br9, ck, ch, Dk9, Dh9, ?_, ?_, HCK.out.1, HCK.out.2⟩, hz.hq, ?_, iv_tick HTB.out.iv HC.out HNO.out HLR.out⟩, hz.late, ?_, hz.kt, hz.bel⟩
            · rw [e1] at t1; exact t1
            · rw [e1] at t2; exact t2
            · have := hz.hr; rw [e1] at this; exact this
            · have := hz.gone; rw [e1] at this ⊢; exact this
          clear HZ
          go_wp2_with fail
          go_ret2
          exact ⟨_, _, rfl, HEND.out⟩
end Go.Proofs.Ytgchdjjafgkcbaa.Pp
/- PendingTwice, plain. -/
namespace Go.Proofs.Ytgchdjjafgkcbaa.Pr
set_option linter.unusedVariables false
set_option linter.unusedSimpArgs false
open Go.RowKit Go.Maps Lib0 Kb Xp Za Ze Ih Fh Hh Pa Pb Pc Pe Pf Pg Px Pl Pm Pn Po Pq Pp
def rk (lk cl : Int) (nu st tr : ByteArray) (to_ no : Int) : Rq := ⟨lk, cl, nu, st, tr, 0, to_, no, ⟨#[]⟩, [], ⟨#[]⟩, []⟩
def C2 (M N : Int) : Cf := ⟨3, M, N⟩
theorem co2 {M N : Int} (hM : 1 ≤ M) (hM2 : M ≤ 40) (hN : 1 ≤ N) (hN2 : N ≤ 40) : Co (C2 M N) := ⟨by show (1 : Int) ≤ 3; decide, by show (3 : Int) ≤ 10000; decide, hM, by show M ≤ 100000; omega, hN, by show N ≤ 100000; omega⟩
def T1 (M N : Int) (g : Nat) (p : Rq) (i : Int) : St := if i < M then ⟨[(1, M, g, p)], [], i, 1, 0, 0⟩ else ⟨[], [(1, M + N, g, p)], i, 1, 1, 0⟩
def T2 (M N : Int) (g : Nat) (p : Rq) (g2 : Nat) (c : Rq) (i : Int) : St :=
  if i < M then ⟨[(2, M + M, g2, c)], (if i < N then [(1, M + N, g, p)] else []), M + i, 2, 1, 0⟩
  else ⟨[], (if i < N then [(1, M + N, g, p)] else []) ++ [(2, M + M + N, g2, c)], M + i, 2, 2, 0⟩
theorem t1_start (M N : Int) (g : Nat) (p : Rq) (hM : 1 ≤ M) : addS S0 (C2 M N) g p = T1 M N g p 0 := by
  unfold T1
  rw [if_pos (by omega)]
  simp [addS, S0, C2]
theorem t2_start (M N : Int) (g g2 : Nat) (p c : Rq) (hM : 1 ≤ M) (hN : 1 ≤ N) : addS (T1 M N g p M) (C2 M N) g2 c = T2 M N g p g2 c 0 := by
  unfold T1 T2
  rw [if_neg (by omega), if_pos (by omega), if_pos (by omega)]
  simp [addS, C2]
theorem tick_t1 (M N : Int) (g : Nat) (p : Rq) (i : Int) (h0 : 0 ≤ i) (h1 : i < M) : tickS (C2 M N) (T1 M N g p i) = T1 M N g p (i + 1) ∧ (lateL (T1 M N g p i)).length = (if i + 1 = M then 1 else 0) ∧ (tickP (C2 M N) (T1 M N g p i)).gone = [] := by
  have e : T1 M N g p i = ⟨[(1, M, g, p)], [], i, 1, 0, 0⟩ := by unfold T1; rw [if_pos h1]
  rw [e]
  by_cases h2 : i + 1 = M
  · have hd : (M == i + 1) = true := by simp [h2]
    have h3 : ¬ i + 1 < M := by omega
    simp only [tickS, tickP, lateL, dueX, List.filter, hd, T1, if_neg h3, if_pos h2, List.foldl, push, C2, List.map]
    refine ⟨?_, rfl, rfl⟩
    simp
    omega
  · have hd : (M == i + 1) = false := by simpa using fun e : M = i + 1 => h2 e.symm
    have h3 : i + 1 < M := by omega
    simp only [tickS, tickP, lateL, dueX, List.filter, hd, T1, if_pos h3, if_neg h2, List.foldl, List.map]
    refine ⟨rfl, ?_⟩
    simp
theorem tick_t2 (M N : Int) (g g2 : Nat) (p c : Rq) (i : Int) (hM : 1 ≤ M) (h0 : 0 ≤ i) (h1 : i < N) : tickS (C2 M N) (T2 M N g p g2 c i) = T2 M N g p g2 c (i + 1) ∧ (tickP (C2 M N) (T2 M N g p g2 c i)).gone = (if i + 1 = N then [p] else []) := by
  have b1 : (M + N == M + i + 1) = decide (i + 1 = N) := by
    by_cases e : i + 1 = N
    · have : M + N = M + i + 1 := by omega
      simp [e, this]
    · have : ¬ M + N = M + i + 1 := by omega
      simp [e, this]
  have b2 : (M + M + N == M + i + 1) = false := by
    have : ¬ M + M + N = M + i + 1 := by omega
    simpa using this
  have b3 : (M + M == M + i + 1) = decide (i + 1 = M) := by
    by_cases e : i + 1 = M
    · have : M + M = M + i + 1 := by omega
      simp [e, this]
    · have : ¬ M + M = M + i + 1 := by omega
      simp [e, this]
  have e5 : M + i + 1 = M + (i + 1) := by omega
  by_cases hm : i < M
  · have e : T2 M N g p g2 c i = ⟨[(2, M + M, g2, c)], [(1, M + N, g, p)], M + i, 2, 1, 0⟩ := by unfold T2; rw [if_pos hm, if_pos h1]
    rw [e]
    by_cases h2 : i + 1 = M <;> by_cases h3 : i + 1 = N
    · have h4 : ¬ i + 1 < M := by omega
      have h5 : ¬ i + 1 < N := by omega
      simp only [tickS, tickP, dueX, List.filter, b1, b3, decide_eq_true h2, decide_eq_true h3, T2, if_neg h4, if_neg h5, if_pos h3, List.foldl, push, C2, List.map]
      simp
      omega
    · have h4 : ¬ i + 1 < M := by omega
      have h5 : i + 1 < N := by omega
      simp only [tickS, tickP, dueX, List.filter, b1, b3, decide_eq_true h2, decide_eq_false h3, T2, if_neg h4, if_pos h5, if_neg h3, List.foldl, push, C2, List.map]
      simp
      omega
    · have h4 : i + 1 < M := by omega
      have h5 : ¬ i + 1 < N := by omega
      simp only [tickS, tickP, dueX, List.filter, b1, b3, decide_eq_false h2, decide_eq_true h3, T2, if_pos h4, if_neg h5, if_pos h3, List.foldl, push, C2, List.map]
      simp
      omega
    · have h4 : i + 1 < M := by omega
      have h5 : i + 1 < N := by omega
      simp only [tickS, tickP, dueX, List.filter, b1, b3, decide_eq_false h2, decide_eq_false h3, T2, if_pos h4, if_pos h5, if_neg h3, List.foldl, push, C2, List.map]
      simp
      omega
  · have e : T2 M N g p g2 c i = ⟨[], [(1, M + N, g, p), (2, M + M + N, g2, c)], M + i, 2, 2, 0⟩ := by unfold T2; rw [if_neg hm, if_pos h1]; rfl
    rw [e]
    have h4 : ¬ i + 1 < M := by omega
    by_cases h3 : i + 1 = N
    · have h5 : ¬ i + 1 < N := by omega
      simp only [tickS, tickP, dueX, List.filter, b1, b2, decide_eq_true h3, T2, if_neg h4, if_neg h5, if_pos h3, List.foldl, push, C2, List.map]
      simp
      omega
    · have h5 : i + 1 < N := by omega
      simp only [tickS, tickP, dueX, List.filter, b1, b2, decide_eq_false h3, T2, if_neg h4, if_pos h5, if_neg h3, List.foldl, push, C2, List.map]
      simp
      omega
end Go.Proofs.Ytgchdjjafgkcbaa.Pr
