/- SafOnce: its walk. -/
import Derived.Test.YtmpcgmpobmnmmaaOn
import Derived.Test.YtmpcgmpobmnmmaaSy
import Derived.Test.YtmpcgmpobmnmmaaPick
namespace Go.Proofs.Ytmpcgmpobmnmmaa.Ow
set_option linter.unusedVariables false
set_option linter.unusedSimpArgs false
open Go.RowKit Go.Maps Lib0 Kb Xp Za Zc Zd Ze Sa Sb Sc Sd Se Sf Sg Sh Si Sj Sk Sm On Pick
attribute [local go_sem] Oper.semAt_some
theorem bnd {a : Int} (h : (Lit.int .i64 a).wf = true) : -9223372036854775808 ≤ a ∧ a ≤ 9223372036854775807 := by
  simp [Lit.wf, IntKind.min, IntKind.max, IntKind.signed, IntKind.bits] at h; omega
/-- a row of advices, as the laws look at it -/
structure Rl (x : World) (vl : Value) (f : Int) (k : Nat) : Prop where
  form : ∃ o c, vl = .slice o k c
  at_ : ∀ j, j < k → ∀ o c, vl = .slice o k c → ∃ a : Addr, o = some a ∧ x.cell? ⟨(a.add (j * 6)).block, (a.add (j * 6)).off + 1, none⟩ = some (.int .i64 (f + (j : Int))) ∧ ∃ n : Nat, f + (j : Int) = (n : Int) ∧ x.cell? ⟨(a.add (j * 6)).block, (a.add (j * 6)).off + 2, none⟩ = some (.string (ks n))
theorem rl_of {x : World} {vl : Value} {ps : List PT} {base F k : Nat} (h : x.ownsRow base tA 6 vl ps.length (pl ps)) (he : ps.map Prod.fst = lof F k) : Rl x vl (F : Int) k := by
  have hl : ps.length = k := by rw [← lof_len F k, ← he, List.length_map]
  refine ⟨?_, fun j hj o c hv => ?_⟩
  · obtain ⟨o, c, e, -⟩ := own_form h
    exact ⟨o, c, by rw [← hl]; exact e⟩
  · rcases h.2 with ⟨e, h0⟩ | ⟨r, cap, cur, e, -⟩
    · omega
    · rw [e] at hv
      injection hv with h1 h2 h3
      subst h1
      obtain ⟨p1, p2⟩ := pl_at ps j (by omega)
      have hav : ps[j].1 = adv (F + j) := by
        have h4 := congrArg (fun l => l[j]?) he
        simp only [List.getElem?_map] at h4
        rw [List.getElem?_eq_getElem (by omega), lof_at F k j hj] at h4
        simpa using h4
      rw [hav] at p1 p2
      have q1 := h.cells (g := r) (by rw [e]; rfl) _ _ p1
      have q2 := h.cells (g := r) (by rw [e]; rfl) _ _ p2
      rw [add_field _ _ _ (by decide)] at q1 q2
      refine ⟨⟨r, 0, none⟩, rfl, ?_, F + j, by push_cast; rfl, q2⟩
      rw [q1, show (adv (F + j)).no = (F : Int) + (j : Int) from by show ((F + j : Nat) : Int) = _; push_cast; rfl]
theorem Rl.below {x y : World} {vl : Value} {f : Int} {k : Nat} (h : Rl x vl f k) (hb : Below x.heap.size x y) : Rl y vl f k := by
  refine ⟨h.form, fun j hj o c hv => ?_⟩
  obtain ⟨a, ea, c1, n, en, c2⟩ := h.at_ j hj o c hv
  exact ⟨a, ea, (hb.cell (World.block_lt_of_cell? _ _ c1)).trans c1, n, en, (hb.cell (World.block_lt_of_cell? _ _ c2)).trans c2⟩
theorem tick_os {m r t : Int} {F k : Nat} {s : Int} {way : Bool} {ticks : Int} {G : List Int} {d : Int} : tickS (Oz m r t F k s way ticks G d) = Oz m r t F k s way (if ticks < r then ticks + 1 else ticks) G d := rfl
set_option maxRecDepth 100000 in
set_option maxHeartbeats 12800000 in
theorem walk (a0 a1 a2 : Int) (v3 : Value) (z3 : List Int) (w : World) (w0 : (Lit.int .i64 a0).wf = true) (w1 : (Lit.int .i64 a1).wf = true) (w2 : (Lit.int .i64 a2).wf = true) (w3 : Sy.LiesI w v3 z3) :
    Calls Try.prog 4 #[.int .i64 a0, .int .i64 a1, .int .i64 a2, v3] w fun e w' => e = .returned (.bool true) ∧ Below w.heap.size w w' := by
  have i0 := bnd w0
  have i1 := bnd w1
  have i2 := bnd w2
  have P0 : Hid (∀ x, Calls Try.prog 19 #[.int .i64 a0, .int .i64 40] x fun e w' => e = .returned (.int .i64 (pickOf a0 40)) ∧ w' = x) := fun x => pick_any a0 40 x i0.1 i0.2 (by omega) (by omega)
  have P1 : Hid (∀ x, Calls Try.prog 19 #[.int .i64 a1, .int .i64 20] x fun e w' => e = .returned (.int .i64 (pickOf a1 20)) ∧ w' = x) := fun x => pick_any a1 20 x i1.1 i1.2 (by omega) (by omega)
  have P2 : Hid (∀ x, Calls Try.prog 19 #[.int .i64 a2, .int .i64 6] x fun e w' => e = .returned (.int .i64 (pickOf a2 6)) ∧ w' = x) := fun x => pick_any a2 6 x i2.1 i2.2 (by omega) (by omega)
  have l0 := pick_lo a0 40 (by omega)
  have u0 := pick_hi a0 40 (by omega)
  have l1 := pick_lo a1 20 (by omega)
  have u1 := pick_hi a1 20 (by omega)
  have l2 := pick_lo a2 6 (by omega)
  have u2 := pick_hi a2 6 (by omega)
  generalize pickOf a0 40 = p0 at *
  generalize pickOf a1 20 = p1 at *
  generalize pickOf a2 6 = p2 at *
  have HS3 : Hid (Sy.LiesI w v3 z3) := w3
  obtain ⟨so, scap, hv3, lz3, _⟩ := w3
  subst hv3
  obtain ⟨N, HN⟩ : ∃ N, Hid (z3.length = N) := ⟨_, rfl⟩
  rw [HN.out] at lz3
  rw [HN.out]
  clear i0 i1 i2 w0 w1 w2
  go_enter Try.func4, Try.ntmps4
  go_wp2_with fail
  refine (examples_any _).mono ?_
  rintro e y ⟨rfl, hb⟩
  have HB : Hid (Below w.heap.size w y) := hb
  clear hb
  go_wp2_with fail
  refine (P0.out _).mono ?_
  rintro e y2 ⟨rfl, hy2⟩
  rw [hy2]
  clear hy2 y2
  go_wp2_with fail
  refine (P1.out _).mono ?_
  rintro e y2 ⟨rfl, hy2⟩
  rw [hy2]
  clear hy2 y2
  go_wp2_with fail
  refine (P2.out _).mono ?_
  rintro e y2 ⟨rfl, hy2⟩
  rw [hy2]
  clear hy2 y2
  obtain ⟨m, hm⟩ : ∃ m, 1 + p0 = m := ⟨_, rfl⟩
  obtain ⟨r, hr⟩ : ∃ r, 1 + p1 = r := ⟨_, rfl⟩
  obtain ⟨t, ht⟩ : ∃ t, 1 + p2 = t := ⟨_, rfl⟩
  have m0 : 1 ≤ m := by omega
  have m1 : m ≤ 40 := by omega
  have r0 : 1 ≤ r := by omega
  have r1 : r ≤ 20 := by omega
  have t0 : 1 ≤ t := by omega
  have t1 : t ≤ 6 := by omega
  clear l0 u0 l1 u1 l2 u2 P0 P1 P2
  go_wp2_with fail
  refine (new_any m r t _ (by omega) (by omega) (by omega) (by omega) (by omega) (by omega)).mono ?_
  rintro e y1 ⟨rfl, S0, B0⟩
  obtain ⟨g, hg⟩ : ∃ g, y.heap.size = g := ⟨_, rfl⟩
  rw [hg] at S0 B0 ⊢
  have HG : Hid (y.heap.size = g) := hg
  have T0 : Hid (Lw y y1 g (Oz m r t 1 0 0 false 0 [] 0)) := ⟨S0, B0⟩
  have O0 : Hid (Oi m r t 0 0 1 0 0 false 0 0 0) := ⟨m0, m1, r0, r1, t0, t1, by omega, by omega, by omega, by omega, by omega, by omega, by omega, (fun e => by cases e), by omega, by omega, by omega, by omega, by omega⟩
  have HRW : Hid (∀ x, Below g y x → Sy.LiesI x (.slice so N scap) z3) := fun x hx => by
    have h1 := Sy.liesI_below HS3.out HB.out
    rw [HN.out] at h1
    exact Sy.liesI_below h1 (by rw [← HG.out] at hx; exact hx)
  clear S0 B0 hg hm hr ht
  go_wp2_with fail
  go_loopw [15, 16, 17, 18, 19, 20] (fun pv fv sv dv ev iv wr => ∃ (i P F k : Nat) (s : Int) (way : Bool) (ticks D d : Int), iv = .int .i64 (i : Int) ∧ pv = .int .i64 (P : Int) ∧ fv = .int .i64 (F : Int) ∧ sv = .int .i64 s ∧ dv = .int .i64 D ∧ ev = .int .i64 d ∧ i ≤ N ∧ Hid (Oi m r t i P F k s way ticks D d) ∧ Hid (Lw y wr g (Oz m r t F k s way ticks [] d))) (fun _ _ _ _ _ iv _ => N + 1 - (intOf iv).toNat)
  case atStart => exact ⟨0, 0, 1, 0, 0, false, 0, 0, 0, rfl, rfl, rfl, rfl, rfl, rfl, Nat.zero_le _, O0, T0⟩
  case round =>
    obtain ⟨i, P, F, k, s, way, ticks, D, d, rfl, rfl, rfl, rfl, rfl, rfl, hiN, HO, HL⟩ := hrel
    clear O0 T0
    obtain ⟨-, -, -, -, -, -, of0, opk, okm, os0, os1, -, -, -, opi, oi4, od0, od1, odd⟩ := HO.out
    by_cases hc : i < N ∧ i < 400
    · obtain ⟨hi, hi4⟩ := hc
      have hi41 : i + 1 ≤ 400 := by omega
      have hlt : (i : Int) < (N : Int) := by omega
      have hl4 : (i : Int) < 400 := by omega
      have hge : (0 : Int) ≤ (i : Int) := by omega
      obtain ⟨ax, hax⟩ : ∃ ax, ax = z3[i]'(by rw [HN.out]; exact hi) := ⟨_, rfl⟩
      obtain ⟨aa, haa, hcell, hwf⟩ : ∃ a : Addr, so = some a ∧ wr.cell? (a.add i) = some (.int .i64 ax) ∧ (Lit.int .i64 ax).wf = true := by
        obtain ⟨o, c, e, -, h3⟩ := HRW.out wr HL.out.bel
        injection e with e1 e2 e3
        subst e1
        obtain ⟨a, ea, ca, wa⟩ := h3 i (by rw [HN.out]; exact hi)
        rw [← hax] at ca wa
        exact ⟨a, ea, ca, wa⟩
      subst haa
      have PK : Hid (∀ x, Calls Try.prog 19 #[.int .i64 ax, .int .i64 7] x fun e w' => e = .returned (.int .i64 (pickOf ax 7)) ∧ w' = x) := fun x => pick_any ax 7 x (bnd hwf).1 (bnd hwf).2 (by omega) (by omega)
      have al := pick_lo ax 7 (by omega)
      have ah := pick_hi ax 7 (by omega)
      generalize pickOf ax 7 = A at *
      clear hwf hax
      go_wp2_with fail
      refine (PK.out _).mono ?_
      rintro e x0 ⟨rfl, hx0⟩
      rw [hx0]
      clear hx0 x0 PK hcell
      have hA7 : A = 0 ∨ A = 1 ∨ A = 2 ∨ A = 3 ∨ A = 4 ∨ A = 5 ∨ A = 6 := by omega
      clear al ah
      rcases hA7 with hA | hA | hA | hA | hA | hA | hA
      · as_aux_lemma =>
          subst hA
          have TX : Hid (∀ x, Calls Try.prog 21 #[.int .i64 ((P : Int) + 1)] x fun e w' => e = .returned (.string (ks (P + 1))) ∧ Below x.heap.size x w') := fun x => by
            have := text_any (P + 1) (by omega) x
            rw [show (((P + 1 : Nat) : Int)) = (P : Int) + 1 from by push_cast; rfl] at this
            exact this
          obtain ⟨s1, hs1⟩ : ∃ s1, Hid (ks (P + 1) = s1) := ⟨_, rfl⟩
          rw [hs1.out] at TX
          have hss : s1.size ≤ 1000000 := by rw [← hs1.out]; have := ks_size (P + 1); omega
          have hp4 : (P : Int) + 1 ≤ 401 := by omega
          go_wp2_with fail
          refine (TX.out _).mono ?_
          rintro e x1 ⟨rfl, hx1⟩
          have L1 : Hid (Lw y x1 g (Oz m r t F k s way ticks [] d)) := HL.out.next hx1
          clear hx1
          go_wp2_with fail
          refine (TX.out _).mono ?_
          rintro e x2 ⟨rfl, hx2⟩
          have L2 : Hid (Lw y x2 g (Oz m r t F k s way ticks [] d)) := L1.out.next hx2
          clear hx2 L1 TX
          have hkl : (Oz m r t F k s way ticks [] d).L.length = k := lof_len F k
          have HAV : Hid ((⟨0, (P : Int) + 1, s1, [], s1 ++ rr, []⟩ : Av) = adv (P + 1)) := by rw [← hs1.out]; show _ = (⟨0, ((P + 1 : Nat) : Int), ks (P + 1), [], ks (P + 1) ++ rr, []⟩ : Av); rw [show (((P + 1 : Nat) : Int)) = (P : Int) + 1 from by push_cast; rfl]
          by_cases hk : (k : Int) = m
          · as_aux_lemma =>
              have PF : Hid (Calls Try.prog 20 #[.pointer (some ⟨g, 0, none⟩), .agg #[.int .i64 0, .int .i64 ((P : Int) + 1), .string s1, .slice none 0 0, .string (s1 ++ ⟨#[114]⟩), .slice none 0 0]] x2 fun e w' => e = .returned (.int .i64 200) ∧ PQ x2 g g (Oz m r t F k s way ticks [] d) w') := put_full L2.out.sq (by rw [hkl]; exact hk) ⟨0, (P : Int) + 1, s1, [], s1 ++ rr, []⟩ _ _ ⟨_, _, _, rfl⟩ ⟨_, _, _, rfl⟩
              have hd9 : decide ((P : Int) + 1 - (F : Int) < m) = false := decide_eq_false (by omega)
              have HD9 : Hid _ := hd9
              clear hd9 hk hkl
              go_wp2_with fail
              refine PF.out.mono ?_
              rintro e x3 ⟨rfl, hp⟩
              have HL1 : Hid (Lw y x3 g (Oz m r t F k s way ticks [] d)) := L2.out.step hp
              have HO1 : Hid (Oi m r t (i + 1) P F k s way ticks D d) := HO.out.same hi41
              have hd9 := HD9.out
              clear hp PF L2 HAV
              go_wp2_with fail
              obtain ⟨PP, hPP⟩ : ∃ q, (P : Int) = q := ⟨_, rfl⟩
              obtain ⟨FF, hFF⟩ : ∃ q, (F : Int) = q := ⟨_, rfl⟩
              have HPF : Hid (PP = ((P : Nat) : Int) ∧ FF = ((F : Nat) : Int)) := ⟨hPP.symm.trans (by omega), hFF.symm.trans (by omega)⟩
              have ALL : Hid (Calls Try.prog 17 #[.pointer (some ⟨g, 0, none⟩)] x3 (PostL x3 (Oz m r t (F) (k) (s) way (ticks) [] (d)))) := all_any HL1.out.sq (HO1.out.ok (by decide))
              rw [hPP, hFF]
              refine ALL.out.mono ?_
              clear ALL
              rintro e xa ⟨vl, ps, rfl, hps, hrow, hba⟩
              have HRL : Hid (Rl xa vl FF (k)) := by rw [HPF.out.2]; exact rl_of hrow hps
              have HLA : Hid (Lw y xa g (Oz m r t (F) (k) (s) way (ticks) [] (d))) := HL1.out.next hba
              obtain ⟨ol, cl, hvl⟩ := HRL.out.form
              subst hvl
              have HLEN : Hid (Calls Try.prog 11 #[.pointer (some ⟨g, 0, none⟩)] xa fun e w' => e = .returned (.int .i64 ((k : Nat) : Int)) ∧ w' = xa) := (len_any HLA.out.sq).mono fun e w' h => ⟨by rw [h.1, show (Oz m r t (F) (k) (s) way (ticks) [] (d)).L.length = k from lof_len _ _], h.2⟩
              have HDEAD : Hid (Calls Try.prog 13 #[.pointer (some ⟨g, 0, none⟩)] xa fun e w' => e = .returned (.int .i64 (d)) ∧ w' = xa) := dead_any HLA.out.sq
              have hpk := HO1.out.pk
              have hdd := HO1.out.dd
              have hpi := HO1.out.pi
              have hd0 := HO1.out.d0
              have hd1 := HO1.out.d1
              obtain ⟨KK, hKK⟩ : ∃ q : Nat, k = q := ⟨_, rfl⟩
              have eP := HPF.out.1
              have eF := HPF.out.2
              have b1 : (((KK : Nat) : Int) != PP + 1 - FF) = false := by simp; omega
              have b3 : (D + d + ((KK : Nat) : Int) != PP) = false := by simp; omega
              have o1 : (0 : Int) ≤ PP ∧ PP ≤ 400 := by omega
              have o2 : (1 : Int) ≤ FF ∧ FF ≤ 401 := by have := HO1.out.f0; omega
              have o3 : ((KK : Nat) : Int) ≤ 401 := by omega
              have o4 : D ≤ 401 ∧ d ≤ 401 := by omega
              obtain ⟨o1a, o1b⟩ := o1
              obtain ⟨o2a, o2b⟩ := o2
              obtain ⟨o4a, o4b⟩ := o4
              rw [hKK] at HLEN HRL ⊢
              clear hpk hdd hpi hd0 hd1 hps hrow hba eP eF hPP hFF
              go_wp2_with (first | (go_at_call 11; refine HLEN.out.mono ?_; rintro e x ⟨rfl, rfl⟩) | (go_at_call 13; refine HDEAD.out.mono ?_; rintro e x ⟨rfl, rfl⟩))
              clear HLEN HDEAD b1 b3
              go_loopw [32] (fun kv wr => ∃ j : Nat, kv = .int .i64 (j : Int) ∧ j ≤ KK ∧ Hid (Rl wr (.slice ol KK cl) FF KK) ∧ Hid (Lw y wr g (Oz m r t (F) (k) (s) way (ticks) [] (d)))) (fun kv _ => KK + 1 - (intOf kv).toNat)
              case atStart => exact ⟨0, rfl, Nat.zero_le _, HRL, HLA⟩
              case round =>
                obtain ⟨j, rfl, hj, HR2, HL2⟩ := hrel
                clear HRL HLA
                by_cases hjk : j < KK
                · obtain ⟨av, hav, k1, nn, hnn, k2⟩ := HR2.out.at_ j hjk ol cl rfl
                  subst hav
                  have ptx : ∀ x, Calls Try.prog 21 #[.int .i64 (FF + (j : Int))] x fun e w' => e = .returned (.string (ks nn)) ∧ Below x.heap.size x w' := fun x => by rw [hnn]; exact text_any nn (by omega) _
                  have jq0 : (j : Int) < ((KK : Nat) : Int) := by omega
                  have jq1 : (0 : Int) ≤ (j : Int) := by omega
                  obtain ⟨s2, hs2⟩ : ∃ s2, ks nn = s2 := ⟨_, rfl⟩
                  rw [hs2] at ptx k2
                  have klt := World.block_lt_of_cell? _ _ k1
                  have HFIN : Hid (∀ x, Below wr.heap.size wr x → Hid (Rl x (.slice (some av) KK cl) FF KK) ∧ Hid (Lw y x g (Oz m r t (F) (k) (s) way (ticks) [] (d)))) := fun x hx => ⟨HR2.out.below hx, HL2.out.next hx⟩
                  clear hnn hs2
                  go_wp2_with fail
                  refine Ql.region_cl (by kernel_rfl) (by kernel_rfl) ?_
                  repeat (first | go_big_quiet_skip | (go_big_quiet_want; go_big_quiet_op; first | go_big_quiet_on | (refine ⟨_, fun _ _ => rfl, ?_⟩; go_big_quiet_on) | (refine ⟨_, fun _ _ => ⟨rfl, rfl⟩, ?_⟩; go_big_quiet_on)) | (refine wpQuiet_step (fun K hK => ?_); first
                    | (refine Ql.q_cell (by rfl) 3 _ rfl _ _ rfl _ k1 klt (fun y => Try.isAgg3 y) (hK _ ?_); clear hK K; simp only [Act.put, List.setIfInBounds_toArray, List.set_cons_succ, List.set_cons_zero])
                    | (refine Ql.q_cell (by rfl) 9 _ rfl _ _ rfl _ k2 klt (fun y => Try.isAgg9 y) (hK _ ?_); clear hK K; simp only [Act.put, List.setIfInBounds_toArray, List.set_cons_succ, List.set_cons_zero])
                    | (go_simp; apply Exists.intro; refine ⟨fun y hy => ?_, hK _ ?_⟩; (go_at_call 21; exact Ql.cl_of hy (ptx _)); clear hK K)
                    | fail))
                  refine wpQuiet_nil ?_
                  intro y5 hy5
                  have HF5 := HFIN.out y5 hy5
                  clear hy5 k1 k2 klt ptx
                  go_wp2_with fail
                  exact ⟨⟨j + 1, by simp, by omega, HF5.1, HF5.2⟩, by simp only [intOf]; omega⟩
                · obtain rfl : j = KK := by omega
                  go_wp2_with fail
                  refine ⟨⟨i + 1, P, F, k, s, way, ticks, D, d, by first | rfl | (push_cast; rfl), by rw [HPF.out.1], by rw [HPF.out.2], rfl, rfl, rfl, by omega, HO1, HL2⟩, by simp only [intOf]; omega⟩

          · as_aux_lemma =>
              have PF : Hid (Calls Try.prog 20 #[.pointer (some ⟨g, 0, none⟩), .agg #[.int .i64 0, .int .i64 ((P : Int) + 1), .string s1, .slice none 0 0, .string (s1 ++ ⟨#[114]⟩), .slice none 0 0]] x2 fun e w' => e = .returned (.int .i64 0) ∧ PQ x2 g g (Oz m r t F (k + 1) s way ticks [] d) w') := by
                have hfa := fo_adv (n := P + 1) (by omega)
                have := put_ok L2.out.sq (HO.out.ok (by decide)) (by rw [hkl]; exact hk) ⟨0, (P : Int) + 1, s1, [], s1 ++ rr, []⟩ (.slice none 0 0) (.slice none 0 0) (by rw [HAV.out]; exact ⟨⟨hfa.1, rowf_nil _, hfa.2.2.1⟩, ⟨hfa.2.1, rowf_nil _, hfa.2.2.2.1⟩⟩) (by rw [HAV.out]; exact lof_has (by omega))
                have e9 : putS (Oz m r t F k s way ticks [] d) ⟨0, (P : Int) + 1, s1, [], s1 ++ rr, []⟩ = Oz m r t F (k + 1) s way ticks [] d := by
                  rw [HAV.out]
                  show (⟨m, r, t, lof F k ++ [adv (P + 1)], s, way, ticks, [], d⟩ : St) = _
                  rw [show P + 1 = F + k by omega, lof_add]
                  rfl
                rw [e9] at this
                exact this
              have hd9 : decide ((P : Int) + 1 - (F : Int) < m) = true := decide_eq_true (by omega)
              have HD9 : Hid _ := hd9
              have HO1 : Hid (Oi m r t (i + 1) (P + 1) F (k + 1) s way ticks D d) := HO.out.put hi41 hk
              clear hd9 hk hkl
              go_wp2_with fail
              refine PF.out.mono ?_
              rintro e x3 ⟨rfl, hp⟩
              have HL1 : Hid (Lw y x3 g (Oz m r t F (k + 1) s way ticks [] d)) := L2.out.step hp
              have hd9 := HD9.out
              clear hp PF L2 HAV
              go_wp2_with fail
              obtain ⟨PP, hPP⟩ : ∃ q, (P : Int) + 1 = q := ⟨_, rfl⟩
              obtain ⟨FF, hFF⟩ : ∃ q, (F : Int) = q := ⟨_, rfl⟩
              have HPF : Hid (PP = ((P + 1 : Nat) : Int) ∧ FF = ((F : Nat) : Int)) := ⟨hPP.symm.trans (by omega), hFF.symm.trans (by omega)⟩
              have ALL : Hid (Calls Try.prog 17 #[.pointer (some ⟨g, 0, none⟩)] x3 (PostL x3 (Oz m r t (F) (k + 1) (s) way (ticks) [] (d)))) := all_any HL1.out.sq (HO1.out.ok (by decide))
              rw [hPP, hFF]
              refine ALL.out.mono ?_
              clear ALL
              rintro e xa ⟨vl, ps, rfl, hps, hrow, hba⟩
              have HRL : Hid (Rl xa vl FF (k + 1)) := by rw [HPF.out.2]; exact rl_of hrow hps
              have HLA : Hid (Lw y xa g (Oz m r t (F) (k + 1) (s) way (ticks) [] (d))) := HL1.out.next hba
              obtain ⟨ol, cl, hvl⟩ := HRL.out.form
              subst hvl
              have HLEN : Hid (Calls Try.prog 11 #[.pointer (some ⟨g, 0, none⟩)] xa fun e w' => e = .returned (.int .i64 ((k + 1 : Nat) : Int)) ∧ w' = xa) := (len_any HLA.out.sq).mono fun e w' h => ⟨by rw [h.1, show (Oz m r t (F) (k + 1) (s) way (ticks) [] (d)).L.length = k + 1 from lof_len _ _], h.2⟩
              have HDEAD : Hid (Calls Try.prog 13 #[.pointer (some ⟨g, 0, none⟩)] xa fun e w' => e = .returned (.int .i64 (d)) ∧ w' = xa) := dead_any HLA.out.sq
              have hpk := HO1.out.pk
              have hdd := HO1.out.dd
              have hpi := HO1.out.pi
              have hd0 := HO1.out.d0
              have hd1 := HO1.out.d1
              obtain ⟨KK, hKK⟩ : ∃ q : Nat, k + 1 = q := ⟨_, rfl⟩
              have eP := HPF.out.1
              have eF := HPF.out.2
              have b1 : (((KK : Nat) : Int) != PP + 1 - FF) = false := by simp; omega
              have b3 : (D + d + ((KK : Nat) : Int) != PP) = false := by simp; omega
              have o1 : (0 : Int) ≤ PP ∧ PP ≤ 400 := by omega
              have o2 : (1 : Int) ≤ FF ∧ FF ≤ 401 := by have := HO1.out.f0; omega
              have o3 : ((KK : Nat) : Int) ≤ 401 := by omega
              have o4 : D ≤ 401 ∧ d ≤ 401 := by omega
              obtain ⟨o1a, o1b⟩ := o1
              obtain ⟨o2a, o2b⟩ := o2
              obtain ⟨o4a, o4b⟩ := o4
              rw [hKK] at HLEN HRL ⊢
              clear hpk hdd hpi hd0 hd1 hps hrow hba eP eF hPP hFF
              go_wp2_with (first | (go_at_call 11; refine HLEN.out.mono ?_; rintro e x ⟨rfl, rfl⟩) | (go_at_call 13; refine HDEAD.out.mono ?_; rintro e x ⟨rfl, rfl⟩))
              clear HLEN HDEAD b1 b3
              go_loopw [32] (fun kv wr => ∃ j : Nat, kv = .int .i64 (j : Int) ∧ j ≤ KK ∧ Hid (Rl wr (.slice ol KK cl) FF KK) ∧ Hid (Lw y wr g (Oz m r t (F) (k + 1) (s) way (ticks) [] (d)))) (fun kv _ => KK + 1 - (intOf kv).toNat)
              case atStart => exact ⟨0, rfl, Nat.zero_le _, HRL, HLA⟩
              case round =>
                obtain ⟨j, rfl, hj, HR2, HL2⟩ := hrel
                clear HRL HLA
                by_cases hjk : j < KK
                · obtain ⟨av, hav, k1, nn, hnn, k2⟩ := HR2.out.at_ j hjk ol cl rfl
                  subst hav
                  have ptx : ∀ x, Calls Try.prog 21 #[.int .i64 (FF + (j : Int))] x fun e w' => e = .returned (.string (ks nn)) ∧ Below x.heap.size x w' := fun x => by rw [hnn]; exact text_any nn (by omega) _
                  have jq0 : (j : Int) < ((KK : Nat) : Int) := by omega
                  have jq1 : (0 : Int) ≤ (j : Int) := by omega
                  obtain ⟨s2, hs2⟩ : ∃ s2, ks nn = s2 := ⟨_, rfl⟩
                  rw [hs2] at ptx k2
                  have klt := World.block_lt_of_cell? _ _ k1
                  have HFIN : Hid (∀ x, Below wr.heap.size wr x → Hid (Rl x (.slice (some av) KK cl) FF KK) ∧ Hid (Lw y x g (Oz m r t (F) (k + 1) (s) way (ticks) [] (d)))) := fun x hx => ⟨HR2.out.below hx, HL2.out.next hx⟩
                  clear hnn hs2
                  go_wp2_with fail
                  refine Ql.region_cl (by kernel_rfl) (by kernel_rfl) ?_
                  repeat (first | go_big_quiet_skip | (go_big_quiet_want; go_big_quiet_op; first | go_big_quiet_on | (refine ⟨_, fun _ _ => rfl, ?_⟩; go_big_quiet_on) | (refine ⟨_, fun _ _ => ⟨rfl, rfl⟩, ?_⟩; go_big_quiet_on)) | (refine wpQuiet_step (fun K hK => ?_); first
                    | (refine Ql.q_cell (by rfl) 3 _ rfl _ _ rfl _ k1 klt (fun y => Try.isAgg3 y) (hK _ ?_); clear hK K; simp only [Act.put, List.setIfInBounds_toArray, List.set_cons_succ, List.set_cons_zero])
                    | (refine Ql.q_cell (by rfl) 9 _ rfl _ _ rfl _ k2 klt (fun y => Try.isAgg9 y) (hK _ ?_); clear hK K; simp only [Act.put, List.setIfInBounds_toArray, List.set_cons_succ, List.set_cons_zero])
                    | (go_simp; apply Exists.intro; refine ⟨fun y hy => ?_, hK _ ?_⟩; (go_at_call 21; exact Ql.cl_of hy (ptx _)); clear hK K)
                    | fail))
                  refine wpQuiet_nil ?_
                  intro y5 hy5
                  have HF5 := HFIN.out y5 hy5
                  clear hy5 k1 k2 klt ptx
                  go_wp2_with fail
                  exact ⟨⟨j + 1, by simp, by omega, HF5.1, HF5.2⟩, by simp only [intOf]; omega⟩
                · obtain rfl : j = KK := by omega
                  go_wp2_with fail
                  refine ⟨⟨i + 1, P + 1, F, k + 1, s, way, ticks, D, d, by first | rfl | (push_cast; rfl), by rw [HPF.out.1], by rw [HPF.out.2], rfl, rfl, rfl, by omega, HO1, HL2⟩, by simp only [intOf]; omega⟩


      · as_aux_lemma =>
          subst hA
          rcases HO.out.next hi41 with ⟨hnx, ho1⟩ | ⟨hk0, hst0, hnx, ho1⟩ | ⟨hk1, hst0, hnx, ho1⟩ | ⟨jj, hk1, hst0, hnx, ho1⟩
          · as_aux_lemma =>
              have HO1 : Hid (Oi m r t (i + 1) P F k s way ticks D d) := ho1
              clear ho1
              have NX : Hid (Calls Try.prog 22 #[.pointer (some ⟨g, 0, none⟩), .bool true] wr fun e w' => e = .returned (.tuple #[.agg #[.string ⟨#[]⟩, .slice none 0 0], .bool false]) ∧ PQ wr g g (Oz m r t F k s way ticks [] d) w') := by
                have hn := next_yes HL.out.sq (HO.out.ok (by decide)) (by rw [show (Oz m r t F k s way ticks [] d).L.length = k from lof_len F k]; show 0 + k ≤ 1000000; omega)
                rw [hnx] at hn
                exact hn
              clear hnx
              go_wp2_with fail
              refine NX.out.mono ?_
              rintro e x1 ⟨rfl, hp⟩
              have L1 : Hid (Lw y x1 g (Oz m r t F k s way ticks [] d)) := HL.out.step hp
              clear hp NX
              obtain ⟨z1, hz1⟩ : ∃ z1, Hid (x1.alloc (.cells #[.string ⟨#[]⟩, .slice none 0 0] tG) = z1) := ⟨_, rfl⟩
              have U1 : Hid (Lw y z1 g (Oz m r t F k s way ticks [] d)) := L1.out.next (hz1.out ▸ below_one _ _)
              go_wp2_with fail
              rw [hz1.out]
              refine (gone_any U1.out.sq).mono ?_
              rintro e x2 ⟨vg, rfl, hrg, hp⟩
              have HRG : Hid (x2.ownsRow g tI 1 vg 0 (([] : List Int).map iv)) := hrg
              obtain ⟨og, cg, evg, -⟩ := own_form HRG.out
              have L2 : Hid (Lw y x2 g (Oz m r t F k s way ticks [] d)) := U1.out.step hp
              subst evg
              clear hp hrg HRG U1 L1 hz1
              go_wp2_with fail
              refine wp_loop_once ?_
              go_wp2_with fail
              have HL1 := L2
              obtain ⟨PP, hPP⟩ : ∃ q, (P : Int) = q := ⟨_, rfl⟩
              obtain ⟨FF, hFF⟩ : ∃ q, (F : Int) = q := ⟨_, rfl⟩
              have HPF : Hid (PP = ((P : Nat) : Int) ∧ FF = ((F : Nat) : Int)) := ⟨hPP.symm.trans (by omega), hFF.symm.trans (by omega)⟩
              have ALL : Hid (Calls Try.prog 17 #[.pointer (some ⟨g, 0, none⟩)] x2 (PostL x2 (Oz m r t (F) (k) (s) way (ticks) [] (d)))) := all_any HL1.out.sq (HO1.out.ok (by decide))
              rw [hPP, hFF]
              refine ALL.out.mono ?_
              clear ALL
              rintro e xa ⟨vl, ps, rfl, hps, hrow, hba⟩
              have HRL : Hid (Rl xa vl FF (k)) := by rw [HPF.out.2]; exact rl_of hrow hps
              have HLA : Hid (Lw y xa g (Oz m r t (F) (k) (s) way (ticks) [] (d))) := HL1.out.next hba
              obtain ⟨ol, cl, hvl⟩ := HRL.out.form
              subst hvl
              have HLEN : Hid (Calls Try.prog 11 #[.pointer (some ⟨g, 0, none⟩)] xa fun e w' => e = .returned (.int .i64 ((k : Nat) : Int)) ∧ w' = xa) := (len_any HLA.out.sq).mono fun e w' h => ⟨by rw [h.1, show (Oz m r t (F) (k) (s) way (ticks) [] (d)).L.length = k from lof_len _ _], h.2⟩
              have HDEAD : Hid (Calls Try.prog 13 #[.pointer (some ⟨g, 0, none⟩)] xa fun e w' => e = .returned (.int .i64 (d)) ∧ w' = xa) := dead_any HLA.out.sq
              have hpk := HO1.out.pk
              have hdd := HO1.out.dd
              have hpi := HO1.out.pi
              have hd0 := HO1.out.d0
              have hd1 := HO1.out.d1
              obtain ⟨KK, hKK⟩ : ∃ q : Nat, k = q := ⟨_, rfl⟩
              have eP := HPF.out.1
              have eF := HPF.out.2
              have b1 : (((KK : Nat) : Int) != PP + 1 - FF) = false := by simp; omega
              have b3 : (D + d + ((KK : Nat) : Int) != PP) = false := by simp; omega
              have o1 : (0 : Int) ≤ PP ∧ PP ≤ 400 := by omega
              have o2 : (1 : Int) ≤ FF ∧ FF ≤ 401 := by have := HO1.out.f0; omega
              have o3 : ((KK : Nat) : Int) ≤ 401 := by omega
              have o4 : D ≤ 401 ∧ d ≤ 401 := by omega
              obtain ⟨o1a, o1b⟩ := o1
              obtain ⟨o2a, o2b⟩ := o2
              obtain ⟨o4a, o4b⟩ := o4
              rw [hKK] at HLEN HRL ⊢
              clear hpk hdd hpi hd0 hd1 hps hrow hba eP eF hPP hFF
              go_wp2_with (first | (go_at_call 11; refine HLEN.out.mono ?_; rintro e x ⟨rfl, rfl⟩) | (go_at_call 13; refine HDEAD.out.mono ?_; rintro e x ⟨rfl, rfl⟩))
              clear HLEN HDEAD b1 b3
              go_loopw [32] (fun kv wr => ∃ j : Nat, kv = .int .i64 (j : Int) ∧ j ≤ KK ∧ Hid (Rl wr (.slice ol KK cl) FF KK) ∧ Hid (Lw y wr g (Oz m r t (F) (k) (s) way (ticks) [] (d)))) (fun kv _ => KK + 1 - (intOf kv).toNat)
              case atStart => exact ⟨0, rfl, Nat.zero_le _, HRL, HLA⟩
              case round =>
                obtain ⟨j, rfl, hj, HR2, HL2⟩ := hrel
                clear HRL HLA
                by_cases hjk : j < KK
                · obtain ⟨av, hav, k1, nn, hnn, k2⟩ := HR2.out.at_ j hjk ol cl rfl
                  subst hav
                  have ptx : ∀ x, Calls Try.prog 21 #[.int .i64 (FF + (j : Int))] x fun e w' => e = .returned (.string (ks nn)) ∧ Below x.heap.size x w' := fun x => by rw [hnn]; exact text_any nn (by omega) _
                  have jq0 : (j : Int) < ((KK : Nat) : Int) := by omega
                  have jq1 : (0 : Int) ≤ (j : Int) := by omega
                  obtain ⟨s2, hs2⟩ : ∃ s2, ks nn = s2 := ⟨_, rfl⟩
                  rw [hs2] at ptx k2
                  have klt := World.block_lt_of_cell? _ _ k1
                  have HFIN : Hid (∀ x, Below wr.heap.size wr x → Hid (Rl x (.slice (some av) KK cl) FF KK) ∧ Hid (Lw y x g (Oz m r t (F) (k) (s) way (ticks) [] (d)))) := fun x hx => ⟨HR2.out.below hx, HL2.out.next hx⟩
                  clear hnn hs2
                  go_wp2_with fail
                  refine Ql.region_cl (by kernel_rfl) (by kernel_rfl) ?_
                  repeat (first | go_big_quiet_skip | (go_big_quiet_want; go_big_quiet_op; first | go_big_quiet_on | (refine ⟨_, fun _ _ => rfl, ?_⟩; go_big_quiet_on) | (refine ⟨_, fun _ _ => ⟨rfl, rfl⟩, ?_⟩; go_big_quiet_on)) | (refine wpQuiet_step (fun K hK => ?_); first
                    | (refine Ql.q_cell (by rfl) 3 _ rfl _ _ rfl _ k1 klt (fun y => Try.isAgg3 y) (hK _ ?_); clear hK K; simp only [Act.put, List.setIfInBounds_toArray, List.set_cons_succ, List.set_cons_zero])
                    | (refine Ql.q_cell (by rfl) 9 _ rfl _ _ rfl _ k2 klt (fun y => Try.isAgg9 y) (hK _ ?_); clear hK K; simp only [Act.put, List.setIfInBounds_toArray, List.set_cons_succ, List.set_cons_zero])
                    | (go_simp; apply Exists.intro; refine ⟨fun y hy => ?_, hK _ ?_⟩; (go_at_call 21; exact Ql.cl_of hy (ptx _)); clear hK K)
                    | fail))
                  refine wpQuiet_nil ?_
                  intro y5 hy5
                  have HF5 := HFIN.out y5 hy5
                  clear hy5 k1 k2 klt ptx
                  go_wp2_with fail
                  exact ⟨⟨j + 1, by simp, by omega, HF5.1, HF5.2⟩, by simp only [intOf]; omega⟩
                · obtain rfl : j = KK := by omega
                  go_wp2_with fail
                  refine ⟨⟨i + 1, P, F, k, s, way, ticks, D, d, by first | rfl | (push_cast; rfl), by rw [HPF.out.1], by rw [HPF.out.2], rfl, rfl, rfl, by omega, HO1, HL2⟩, by simp only [intOf]; omega⟩

          · have HO1 : Hid (Oi m r t (i + 1) P F k (s + 1) true 0 D d) := ho1
            clear ho1
            by_cases hs : s = 0
            · as_aux_lemma =>
                have HS0 : Hid (s = 0) := hs
                clear hs
                have TX : Hid (∀ x, Calls Try.prog 21 #[.int .i64 (F : Int)] x fun e w' => e = .returned (.string (ks F)) ∧ Below x.heap.size x w') := fun x => by
                  have := text_any F (by omega) x
                  rw [show (((F : Nat) : Int)) = (F : Int) from by omega] at this
                  exact this
                have NX : Hid (Calls Try.prog 22 #[.pointer (some ⟨g, 0, none⟩), .bool true] wr fun e w' => ∃ v, e = .returned (.tuple #[.agg #[.string (mO F s), v], .bool true]) ∧ PostS wr g g (Oz m r t F k (s + 1) true 0 [] d) (mO F s) [] v w') := by
                  have hn := next_yes HL.out.sq (HO.out.ok (by decide)) (by rw [show (Oz m r t F k s way ticks [] d).L.length = k from lof_len F k]; show 0 + k ≤ 1000000; omega)
                  rw [hnx] at hn
                  exact hn
                obtain ⟨mm, hmm⟩ : ∃ mm, mO F s = mm := ⟨_, rfl⟩
                rw [hmm] at NX
                have HMM : Hid (mO F s = mm) := hmm
                clear hnx hmm
                go_wp2_with fail
                refine NX.out.mono ?_
                rintro e x1 ⟨v1, rfl, -, hnl, hp⟩
                obtain rfl := hnl rfl
                have L1 : Hid (Lw y x1 g (Oz m r t F k (s + 1) true 0 [] d)) := HL.out.step hp
                clear hp NX
                obtain ⟨z1, hz1⟩ : ∃ z1, Hid (x1.alloc (.cells #[.string mm, .slice none 0 0] tG) = z1) := ⟨_, rfl⟩
                have U1 : Hid (Lw y z1 g (Oz m r t F k (s + 1) true 0 [] d)) := L1.out.next (hz1.out ▸ below_one _ _)
                have BX1 : Hid (z1.heap[x1.heap.size]? = some (.cells #[.string mm, .slice none 0 0] tG (0, 0))) := hz1.out ▸ h1_0 _ _
                go_wp2_with fail
                rw [hz1.out]
                refine (gone_any U1.out.sq).mono ?_
                rintro e x2 ⟨vg, rfl, hrg, hp⟩
                have HRG : Hid (x2.ownsRow g tI 1 vg 0 (([] : List Int).map iv)) := hrg
                obtain ⟨og, cg, evg, -⟩ := own_form HRG.out
                have L2 : Hid (Lw y x2 g (Oz m r t F k (s + 1) true 0 [] d)) := U1.out.step hp
                have BX2 : Hid (x2.heap[x1.heap.size]? = some (.cells #[.string mm, .slice none 0 0] tG (0, 0))) := (hp.2.1.block _ _ _ _ BX1.out (by decide) (by decide) (by decide)).trans BX1.out
                clear BX1
                subst evg
                clear hp hrg HRG U1 L1 hz1
                go_wp2_with fail
                refine wp_loop_once ?_
                go_wp2_with fail
                refine (TX.out _).mono ?_
                rintro e x3 ⟨rfl, hx3⟩
                have L3 : Hid (Lw y x3 g (Oz m r t F k (s + 1) true 0 [] d)) := L2.out.next hx3
                have bx3 := kept hx3 BX2.out
                have k3 : x3.cell? ⟨x1.heap.size, 0, none⟩ = some (.string mm) := by simp [World.cell?, bx3]
                clear bx3 BX2 L2 TX hx3
                have hfp : ¬ (P : Int) < (F : Int) := by omega
                obtain rfl : mm = ks F := by rw [← HMM.out]; exact if_pos HS0.out
                have hs1 : ¬ (1 : Int) < s + 1 := by have := HS0.out; omega
                have hst : ¬ t < s + 1 := by omega
                generalize ks F = sF at *
                clear HMM
                go_wp2_with fail
                have HL1 := L3
                obtain ⟨PP, hPP⟩ : ∃ q, (P : Int) = q := ⟨_, rfl⟩
                obtain ⟨FF, hFF⟩ : ∃ q, (F : Int) = q := ⟨_, rfl⟩
                have HPF : Hid (PP = ((P : Nat) : Int) ∧ FF = ((F : Nat) : Int)) := ⟨hPP.symm.trans (by omega), hFF.symm.trans (by omega)⟩
                have ALL : Hid (Calls Try.prog 17 #[.pointer (some ⟨g, 0, none⟩)] x3 (PostL x3 (Oz m r t (F) (k) (s + 1) true (0) [] (d)))) := all_any HL1.out.sq (HO1.out.ok (by decide))
                rw [hPP, hFF]
                refine ALL.out.mono ?_
                clear ALL
                rintro e xa ⟨vl, ps, rfl, hps, hrow, hba⟩
                have HRL : Hid (Rl xa vl FF (k)) := by rw [HPF.out.2]; exact rl_of hrow hps
                have HLA : Hid (Lw y xa g (Oz m r t (F) (k) (s + 1) true (0) [] (d))) := HL1.out.next hba
                obtain ⟨ol, cl, hvl⟩ := HRL.out.form
                subst hvl
                have HLEN : Hid (Calls Try.prog 11 #[.pointer (some ⟨g, 0, none⟩)] xa fun e w' => e = .returned (.int .i64 ((k : Nat) : Int)) ∧ w' = xa) := (len_any HLA.out.sq).mono fun e w' h => ⟨by rw [h.1, show (Oz m r t (F) (k) (s + 1) true (0) [] (d)).L.length = k from lof_len _ _], h.2⟩
                have HDEAD : Hid (Calls Try.prog 13 #[.pointer (some ⟨g, 0, none⟩)] xa fun e w' => e = .returned (.int .i64 (d)) ∧ w' = xa) := dead_any HLA.out.sq
                have hpk := HO1.out.pk
                have hdd := HO1.out.dd
                have hpi := HO1.out.pi
                have hd0 := HO1.out.d0
                have hd1 := HO1.out.d1
                obtain ⟨KK, hKK⟩ : ∃ q : Nat, k = q := ⟨_, rfl⟩
                have eP := HPF.out.1
                have eF := HPF.out.2
                have b1 : (((KK : Nat) : Int) != PP + 1 - FF) = false := by simp; omega
                have b3 : (D + d + ((KK : Nat) : Int) != PP) = false := by simp; omega
                have o1 : (0 : Int) ≤ PP ∧ PP ≤ 400 := by omega
                have o2 : (1 : Int) ≤ FF ∧ FF ≤ 401 := by have := HO1.out.f0; omega
                have o3 : ((KK : Nat) : Int) ≤ 401 := by omega
                have o4 : D ≤ 401 ∧ d ≤ 401 := by omega
                obtain ⟨o1a, o1b⟩ := o1
                obtain ⟨o2a, o2b⟩ := o2
                obtain ⟨o4a, o4b⟩ := o4
                rw [hKK] at HLEN HRL ⊢
                clear hpk hdd hpi hd0 hd1 hps hrow hba eP eF hPP hFF
                go_wp2_with (first | (go_at_call 11; refine HLEN.out.mono ?_; rintro e x ⟨rfl, rfl⟩) | (go_at_call 13; refine HDEAD.out.mono ?_; rintro e x ⟨rfl, rfl⟩))
                clear HLEN HDEAD b1 b3
                go_loopw [32] (fun kv wr => ∃ j : Nat, kv = .int .i64 (j : Int) ∧ j ≤ KK ∧ Hid (Rl wr (.slice ol KK cl) FF KK) ∧ Hid (Lw y wr g (Oz m r t (F) (k) (s + 1) true (0) [] (d)))) (fun kv _ => KK + 1 - (intOf kv).toNat)
                case atStart => exact ⟨0, rfl, Nat.zero_le _, HRL, HLA⟩
                case round =>
                  obtain ⟨j, rfl, hj, HR2, HL2⟩ := hrel
                  clear HRL HLA
                  by_cases hjk : j < KK
                  · obtain ⟨av, hav, k1, nn, hnn, k2⟩ := HR2.out.at_ j hjk ol cl rfl
                    subst hav
                    have ptx : ∀ x, Calls Try.prog 21 #[.int .i64 (FF + (j : Int))] x fun e w' => e = .returned (.string (ks nn)) ∧ Below x.heap.size x w' := fun x => by rw [hnn]; exact text_any nn (by omega) _
                    have jq0 : (j : Int) < ((KK : Nat) : Int) := by omega
                    have jq1 : (0 : Int) ≤ (j : Int) := by omega
                    obtain ⟨s2, hs2⟩ : ∃ s2, ks nn = s2 := ⟨_, rfl⟩
                    rw [hs2] at ptx k2
                    have klt := World.block_lt_of_cell? _ _ k1
                    have HFIN : Hid (∀ x, Below wr.heap.size wr x → Hid (Rl x (.slice (some av) KK cl) FF KK) ∧ Hid (Lw y x g (Oz m r t (F) (k) (s + 1) true (0) [] (d)))) := fun x hx => ⟨HR2.out.below hx, HL2.out.next hx⟩
                    clear hnn hs2
                    go_wp2_with fail
                    refine Ql.region_cl (by kernel_rfl) (by kernel_rfl) ?_
                    repeat (first | go_big_quiet_skip | (go_big_quiet_want; go_big_quiet_op; first | go_big_quiet_on | (refine ⟨_, fun _ _ => rfl, ?_⟩; go_big_quiet_on) | (refine ⟨_, fun _ _ => ⟨rfl, rfl⟩, ?_⟩; go_big_quiet_on)) | (refine wpQuiet_step (fun K hK => ?_); first
                      | (refine Ql.q_cell (by rfl) 3 _ rfl _ _ rfl _ k1 klt (fun y => Try.isAgg3 y) (hK _ ?_); clear hK K; simp only [Act.put, List.setIfInBounds_toArray, List.set_cons_succ, List.set_cons_zero])
                      | (refine Ql.q_cell (by rfl) 9 _ rfl _ _ rfl _ k2 klt (fun y => Try.isAgg9 y) (hK _ ?_); clear hK K; simp only [Act.put, List.setIfInBounds_toArray, List.set_cons_succ, List.set_cons_zero])
                      | (go_simp; apply Exists.intro; refine ⟨fun y hy => ?_, hK _ ?_⟩; (go_at_call 21; exact Ql.cl_of hy (ptx _)); clear hK K)
                      | fail))
                    refine wpQuiet_nil ?_
                    intro y5 hy5
                    have HF5 := HFIN.out y5 hy5
                    clear hy5 k1 k2 klt ptx
                    go_wp2_with fail
                    exact ⟨⟨j + 1, by simp, by omega, HF5.1, HF5.2⟩, by simp only [intOf]; omega⟩
                  · obtain rfl : j = KK := by omega
                    go_wp2_with fail
                    refine ⟨⟨i + 1, P, F, k, s + 1, true, 0, D, d, by first | rfl | (push_cast; rfl), by rw [HPF.out.1], by rw [HPF.out.2], rfl, rfl, rfl, by omega, HO1, HL2⟩, by simp only [intOf]; omega⟩

            · as_aux_lemma =>
                have TX : Hid (∀ x, Calls Try.prog 21 #[.int .i64 (F : Int)] x fun e w' => e = .returned (.string (ks F)) ∧ Below x.heap.size x w') := fun x => by
                  have := text_any F (by omega) x
                  rw [show (((F : Nat) : Int)) = (F : Int) from by omega] at this
                  exact this
                have NX : Hid (Calls Try.prog 22 #[.pointer (some ⟨g, 0, none⟩), .bool true] wr fun e w' => ∃ v, e = .returned (.tuple #[.agg #[.string (mO F s), v], .bool true]) ∧ PostS wr g g (Oz m r t F k (s + 1) true 0 [] d) (mO F s) [] v w') := by
                  have hn := next_yes HL.out.sq (HO.out.ok (by decide)) (by rw [show (Oz m r t F k s way ticks [] d).L.length = k from lof_len F k]; show 0 + k ≤ 1000000; omega)
                  rw [hnx] at hn
                  exact hn
                obtain ⟨mm, hmm⟩ : ∃ mm, mO F s = mm := ⟨_, rfl⟩
                rw [hmm] at NX
                have HMM : Hid (mO F s = mm) := hmm
                clear hnx hmm
                go_wp2_with fail
                refine NX.out.mono ?_
                rintro e x1 ⟨v1, rfl, -, hnl, hp⟩
                obtain rfl := hnl rfl
                have L1 : Hid (Lw y x1 g (Oz m r t F k (s + 1) true 0 [] d)) := HL.out.step hp
                clear hp NX
                obtain ⟨z1, hz1⟩ : ∃ z1, Hid (x1.alloc (.cells #[.string mm, .slice none 0 0] tG) = z1) := ⟨_, rfl⟩
                have U1 : Hid (Lw y z1 g (Oz m r t F k (s + 1) true 0 [] d)) := L1.out.next (hz1.out ▸ below_one _ _)
                have BX1 : Hid (z1.heap[x1.heap.size]? = some (.cells #[.string mm, .slice none 0 0] tG (0, 0))) := hz1.out ▸ h1_0 _ _
                go_wp2_with fail
                rw [hz1.out]
                refine (gone_any U1.out.sq).mono ?_
                rintro e x2 ⟨vg, rfl, hrg, hp⟩
                have HRG : Hid (x2.ownsRow g tI 1 vg 0 (([] : List Int).map iv)) := hrg
                obtain ⟨og, cg, evg, -⟩ := own_form HRG.out
                have L2 : Hid (Lw y x2 g (Oz m r t F k (s + 1) true 0 [] d)) := U1.out.step hp
                have BX2 : Hid (x2.heap[x1.heap.size]? = some (.cells #[.string mm, .slice none 0 0] tG (0, 0))) := (hp.2.1.block _ _ _ _ BX1.out (by decide) (by decide) (by decide)).trans BX1.out
                clear BX1
                subst evg
                clear hp hrg HRG U1 L1 hz1
                go_wp2_with fail
                refine wp_loop_once ?_
                go_wp2_with fail
                refine (TX.out _).mono ?_
                rintro e x3 ⟨rfl, hx3⟩
                have L3 : Hid (Lw y x3 g (Oz m r t F k (s + 1) true 0 [] d)) := L2.out.next hx3
                have bx3 := kept hx3 BX2.out
                have k3 : x3.cell? ⟨x1.heap.size, 0, none⟩ = some (.string mm) := by simp [World.cell?, bx3]
                clear bx3 BX2 L2 TX hx3
                have hfp : ¬ (P : Int) < (F : Int) := by omega
                obtain rfl : mm = ks F ++ ⟨#[114]⟩ := by rw [← HMM.out]; exact if_neg hs
                have hs1 : (1 : Int) < s + 1 := by omega
                have hst : ¬ t < s + 1 := by omega
                have hsz : (ks F).size ≤ 1000000 := by have := ks_size F; omega
                generalize ks F = sF at *
                clear HMM
                go_wp2_with fail
                have HL1 := L3
                obtain ⟨PP, hPP⟩ : ∃ q, (P : Int) = q := ⟨_, rfl⟩
                obtain ⟨FF, hFF⟩ : ∃ q, (F : Int) = q := ⟨_, rfl⟩
                have HPF : Hid (PP = ((P : Nat) : Int) ∧ FF = ((F : Nat) : Int)) := ⟨hPP.symm.trans (by omega), hFF.symm.trans (by omega)⟩
                have ALL : Hid (Calls Try.prog 17 #[.pointer (some ⟨g, 0, none⟩)] x3 (PostL x3 (Oz m r t (F) (k) (s + 1) true (0) [] (d)))) := all_any HL1.out.sq (HO1.out.ok (by decide))
                rw [hPP, hFF]
                refine ALL.out.mono ?_
                clear ALL
                rintro e xa ⟨vl, ps, rfl, hps, hrow, hba⟩
                have HRL : Hid (Rl xa vl FF (k)) := by rw [HPF.out.2]; exact rl_of hrow hps
                have HLA : Hid (Lw y xa g (Oz m r t (F) (k) (s + 1) true (0) [] (d))) := HL1.out.next hba
                obtain ⟨ol, cl, hvl⟩ := HRL.out.form
                subst hvl
                have HLEN : Hid (Calls Try.prog 11 #[.pointer (some ⟨g, 0, none⟩)] xa fun e w' => e = .returned (.int .i64 ((k : Nat) : Int)) ∧ w' = xa) := (len_any HLA.out.sq).mono fun e w' h => ⟨by rw [h.1, show (Oz m r t (F) (k) (s + 1) true (0) [] (d)).L.length = k from lof_len _ _], h.2⟩
                have HDEAD : Hid (Calls Try.prog 13 #[.pointer (some ⟨g, 0, none⟩)] xa fun e w' => e = .returned (.int .i64 (d)) ∧ w' = xa) := dead_any HLA.out.sq
                have hpk := HO1.out.pk
                have hdd := HO1.out.dd
                have hpi := HO1.out.pi
                have hd0 := HO1.out.d0
                have hd1 := HO1.out.d1
                obtain ⟨KK, hKK⟩ : ∃ q : Nat, k = q := ⟨_, rfl⟩
                have eP := HPF.out.1
                have eF := HPF.out.2
                have b1 : (((KK : Nat) : Int) != PP + 1 - FF) = false := by simp; omega
                have b3 : (D + d + ((KK : Nat) : Int) != PP) = false := by simp; omega
                have o1 : (0 : Int) ≤ PP ∧ PP ≤ 400 := by omega
                have o2 : (1 : Int) ≤ FF ∧ FF ≤ 401 := by have := HO1.out.f0; omega
                have o3 : ((KK : Nat) : Int) ≤ 401 := by omega
                have o4 : D ≤ 401 ∧ d ≤ 401 := by omega
                obtain ⟨o1a, o1b⟩ := o1
                obtain ⟨o2a, o2b⟩ := o2
                obtain ⟨o4a, o4b⟩ := o4
                rw [hKK] at HLEN HRL ⊢
                clear hpk hdd hpi hd0 hd1 hps hrow hba eP eF hPP hFF
                go_wp2_with (first | (go_at_call 11; refine HLEN.out.mono ?_; rintro e x ⟨rfl, rfl⟩) | (go_at_call 13; refine HDEAD.out.mono ?_; rintro e x ⟨rfl, rfl⟩))
                clear HLEN HDEAD b1 b3
                go_loopw [32] (fun kv wr => ∃ j : Nat, kv = .int .i64 (j : Int) ∧ j ≤ KK ∧ Hid (Rl wr (.slice ol KK cl) FF KK) ∧ Hid (Lw y wr g (Oz m r t (F) (k) (s + 1) true (0) [] (d)))) (fun kv _ => KK + 1 - (intOf kv).toNat)
                case atStart => exact ⟨0, rfl, Nat.zero_le _, HRL, HLA⟩
                case round =>
                  obtain ⟨j, rfl, hj, HR2, HL2⟩ := hrel
                  clear HRL HLA
                  by_cases hjk : j < KK
                  · obtain ⟨av, hav, k1, nn, hnn, k2⟩ := HR2.out.at_ j hjk ol cl rfl
                    subst hav
                    have ptx : ∀ x, Calls Try.prog 21 #[.int .i64 (FF + (j : Int))] x fun e w' => e = .returned (.string (ks nn)) ∧ Below x.heap.size x w' := fun x => by rw [hnn]; exact text_any nn (by omega) _
                    have jq0 : (j : Int) < ((KK : Nat) : Int) := by omega
                    have jq1 : (0 : Int) ≤ (j : Int) := by omega
                    obtain ⟨s2, hs2⟩ : ∃ s2, ks nn = s2 := ⟨_, rfl⟩
                    rw [hs2] at ptx k2
                    have klt := World.block_lt_of_cell? _ _ k1
                    have HFIN : Hid (∀ x, Below wr.heap.size wr x → Hid (Rl x (.slice (some av) KK cl) FF KK) ∧ Hid (Lw y x g (Oz m r t (F) (k) (s + 1) true (0) [] (d)))) := fun x hx => ⟨HR2.out.below hx, HL2.out.next hx⟩
                    clear hnn hs2
                    go_wp2_with fail
                    refine Ql.region_cl (by kernel_rfl) (by kernel_rfl) ?_
                    repeat (first | go_big_quiet_skip | (go_big_quiet_want; go_big_quiet_op; first | go_big_quiet_on | (refine ⟨_, fun _ _ => rfl, ?_⟩; go_big_quiet_on) | (refine ⟨_, fun _ _ => ⟨rfl, rfl⟩, ?_⟩; go_big_quiet_on)) | (refine wpQuiet_step (fun K hK => ?_); first
                      | (refine Ql.q_cell (by rfl) 3 _ rfl _ _ rfl _ k1 klt (fun y => Try.isAgg3 y) (hK _ ?_); clear hK K; simp only [Act.put, List.setIfInBounds_toArray, List.set_cons_succ, List.set_cons_zero])
                      | (refine Ql.q_cell (by rfl) 9 _ rfl _ _ rfl _ k2 klt (fun y => Try.isAgg9 y) (hK _ ?_); clear hK K; simp only [Act.put, List.setIfInBounds_toArray, List.set_cons_succ, List.set_cons_zero])
                      | (go_simp; apply Exists.intro; refine ⟨fun y hy => ?_, hK _ ?_⟩; (go_at_call 21; exact Ql.cl_of hy (ptx _)); clear hK K)
                      | fail))
                    refine wpQuiet_nil ?_
                    intro y5 hy5
                    have HF5 := HFIN.out y5 hy5
                    clear hy5 k1 k2 klt ptx
                    go_wp2_with fail
                    exact ⟨⟨j + 1, by simp, by omega, HF5.1, HF5.2⟩, by simp only [intOf]; omega⟩
                  · obtain rfl : j = KK := by omega
                    go_wp2_with fail
                    refine ⟨⟨i + 1, P, F, k, s + 1, true, 0, D, d, by first | rfl | (push_cast; rfl), by rw [HPF.out.1], by rw [HPF.out.2], rfl, rfl, rfl, by omega, HO1, HL2⟩, by simp only [intOf]; omega⟩

          · as_aux_lemma =>
              obtain ⟨kz, hkz⟩ : ∃ kz : Nat, Hid (0 = kz) := ⟨_, rfl⟩
              have HO1 : Hid (Oi m r t (i + 1) P (F + 1) kz 0 false 0 D (d + 1)) := by rw [← hkz.out]; exact ho1
              clear ho1
              have hts : (s != t) = false := by simp [hst0]
              clear hst0 hk1
              have NX : Hid (Calls Try.prog 22 #[.pointer (some ⟨g, 0, none⟩), .bool true] wr fun e w' => e = .returned (.tuple #[.agg #[.string ⟨#[]⟩, .slice none 0 0], .bool false]) ∧ PQ wr g g (Oz m r t (F + 1) 0 0 false 0 [(F : Int)] (d + 1)) w') := by
                have hn := next_yes HL.out.sq (HO.out.ok (by decide)) (by rw [show (Oz m r t F k s way ticks [] d).L.length = k from lof_len F k]; show 0 + k ≤ 1000000; omega)
                rw [hnx] at hn
                exact hn
              clear hnx
              go_wp2_with fail
              refine NX.out.mono ?_
              rintro e x1 ⟨rfl, hp⟩
              have L1 : Hid (Lw y x1 g (Oz m r t (F + 1) 0 0 false 0 [(F : Int)] (d + 1))) := HL.out.step hp
              clear hp NX
              obtain ⟨z1, hz1⟩ : ∃ z1, Hid (x1.alloc (.cells #[.string ⟨#[]⟩, .slice none 0 0] tG) = z1) := ⟨_, rfl⟩
              have U1 : Hid (Lw y z1 g (Oz m r t (F + 1) 0 0 false 0 [(F : Int)] (d + 1))) := L1.out.next (hz1.out ▸ below_one _ _)
              go_wp2_with fail
              rw [hz1.out]
              refine (gone_any U1.out.sq).mono ?_
              rintro e x2 ⟨vg, rfl, hrg, hp⟩
              have HRG : Hid (x2.ownsRow g tI 1 vg 1 ([(F : Int)].map iv)) := hrg
              obtain ⟨og, cg, evg, -⟩ := own_form HRG.out
              have L2 : Hid (Lw y x2 g (Oz m r t (F + 1) 0 0 false 0 [] (d + 1))) := U1.out.step hp
              rcases HRG.out.2 with ⟨-, h0⟩ | ⟨rb, cap, cur, erb, -⟩
              · omega
              have hgc : x2.cell? ⟨rb, 0, none⟩ = some (.int .i64 (F : Int)) := HRG.out.cells (g := rb) (by rw [erb]; rfl) 0 (iv F) rfl
              subst erb
              clear hp hrg HRG U1 L1 hz1
              clear evg
              go_wp2_with fail
              refine wp_loop_rounds 2 ?_
              rw [rounds_succ]
              go_wp2_with fail
              rw [rounds_succ]
              go_wp2_with fail
              have HL1 : Hid (Lw y x2 g (Oz m r t (F + 1) kz 0 false 0 [] (d + 1))) := by rw [← hkz.out]; exact L2
              obtain ⟨PP, hPP⟩ : ∃ q, (P : Int) = q := ⟨_, rfl⟩
              obtain ⟨FF, hFF⟩ : ∃ q, (F : Int) + 1 = q := ⟨_, rfl⟩
              have HPF : Hid (PP = ((P : Nat) : Int) ∧ FF = ((F + 1 : Nat) : Int)) := ⟨hPP.symm.trans (by omega), hFF.symm.trans (by omega)⟩
              have ALL : Hid (Calls Try.prog 17 #[.pointer (some ⟨g, 0, none⟩)] x2 (PostL x2 (Oz m r t (F + 1) (kz) (0) false (0) [] (d + 1)))) := all_any HL1.out.sq (HO1.out.ok (by decide))
              rw [hPP, hFF]
              refine ALL.out.mono ?_
              clear ALL
              rintro e xa ⟨vl, ps, rfl, hps, hrow, hba⟩
              have HRL : Hid (Rl xa vl FF (kz)) := by rw [HPF.out.2]; exact rl_of hrow hps
              have HLA : Hid (Lw y xa g (Oz m r t (F + 1) (kz) (0) false (0) [] (d + 1))) := HL1.out.next hba
              obtain ⟨ol, cl, hvl⟩ := HRL.out.form
              subst hvl
              have HLEN : Hid (Calls Try.prog 11 #[.pointer (some ⟨g, 0, none⟩)] xa fun e w' => e = .returned (.int .i64 ((kz : Nat) : Int)) ∧ w' = xa) := (len_any HLA.out.sq).mono fun e w' h => ⟨by rw [h.1, show (Oz m r t (F + 1) (kz) (0) false (0) [] (d + 1)).L.length = kz from lof_len _ _], h.2⟩
              have HDEAD : Hid (Calls Try.prog 13 #[.pointer (some ⟨g, 0, none⟩)] xa fun e w' => e = .returned (.int .i64 (d + 1)) ∧ w' = xa) := dead_any HLA.out.sq
              have hpk := HO1.out.pk
              have hdd := HO1.out.dd
              have hpi := HO1.out.pi
              have hd0 := HO1.out.d0
              have hd1 := HO1.out.d1
              obtain ⟨KK, hKK⟩ : ∃ q : Nat, kz = q := ⟨_, rfl⟩
              have eP := HPF.out.1
              have eF := HPF.out.2
              have b1 : (((KK : Nat) : Int) != PP + 1 - FF) = false := by simp; omega
              have b3 : (D + (d + 1) + ((KK : Nat) : Int) != PP) = false := by simp; omega
              have o1 : (0 : Int) ≤ PP ∧ PP ≤ 400 := by omega
              have o2 : (1 : Int) ≤ FF ∧ FF ≤ 401 := by have := HO1.out.f0; omega
              have o3 : ((KK : Nat) : Int) ≤ 401 := by omega
              have o4 : D ≤ 401 ∧ (d + 1) ≤ 401 := by omega
              obtain ⟨o1a, o1b⟩ := o1
              obtain ⟨o2a, o2b⟩ := o2
              obtain ⟨o4a, o4b⟩ := o4
              rw [hKK] at HLEN HRL ⊢
              clear hpk hdd hpi hd0 hd1 hps hrow hba eP eF hPP hFF
              go_wp2_with (first | (go_at_call 11; refine HLEN.out.mono ?_; rintro e x ⟨rfl, rfl⟩) | (go_at_call 13; refine HDEAD.out.mono ?_; rintro e x ⟨rfl, rfl⟩))
              clear HLEN HDEAD b1 b3
              go_loopw [32] (fun kv wr => ∃ j : Nat, kv = .int .i64 (j : Int) ∧ j ≤ KK ∧ Hid (Rl wr (.slice ol KK cl) FF KK) ∧ Hid (Lw y wr g (Oz m r t (F + 1) (kz) (0) false (0) [] (d + 1)))) (fun kv _ => KK + 1 - (intOf kv).toNat)
              case atStart => exact ⟨0, rfl, Nat.zero_le _, HRL, HLA⟩
              case round =>
                obtain ⟨j, rfl, hj, HR2, HL2⟩ := hrel
                clear HRL HLA
                by_cases hjk : j < KK
                · obtain ⟨av, hav, k1, nn, hnn, k2⟩ := HR2.out.at_ j hjk ol cl rfl
                  subst hav
                  have ptx : ∀ x, Calls Try.prog 21 #[.int .i64 (FF + (j : Int))] x fun e w' => e = .returned (.string (ks nn)) ∧ Below x.heap.size x w' := fun x => by rw [hnn]; exact text_any nn (by omega) _
                  have jq0 : (j : Int) < ((KK : Nat) : Int) := by omega
                  have jq1 : (0 : Int) ≤ (j : Int) := by omega
                  obtain ⟨s2, hs2⟩ : ∃ s2, ks nn = s2 := ⟨_, rfl⟩
                  rw [hs2] at ptx k2
                  have klt := World.block_lt_of_cell? _ _ k1
                  have HFIN : Hid (∀ x, Below wr.heap.size wr x → Hid (Rl x (.slice (some av) KK cl) FF KK) ∧ Hid (Lw y x g (Oz m r t (F + 1) (kz) (0) false (0) [] (d + 1)))) := fun x hx => ⟨HR2.out.below hx, HL2.out.next hx⟩
                  clear hnn hs2
                  go_wp2_with fail
                  refine Ql.region_cl (by kernel_rfl) (by kernel_rfl) ?_
                  repeat (first | go_big_quiet_skip | (go_big_quiet_want; go_big_quiet_op; first | go_big_quiet_on | (refine ⟨_, fun _ _ => rfl, ?_⟩; go_big_quiet_on) | (refine ⟨_, fun _ _ => ⟨rfl, rfl⟩, ?_⟩; go_big_quiet_on)) | (refine wpQuiet_step (fun K hK => ?_); first
                    | (refine Ql.q_cell (by rfl) 3 _ rfl _ _ rfl _ k1 klt (fun y => Try.isAgg3 y) (hK _ ?_); clear hK K; simp only [Act.put, List.setIfInBounds_toArray, List.set_cons_succ, List.set_cons_zero])
                    | (refine Ql.q_cell (by rfl) 9 _ rfl _ _ rfl _ k2 klt (fun y => Try.isAgg9 y) (hK _ ?_); clear hK K; simp only [Act.put, List.setIfInBounds_toArray, List.set_cons_succ, List.set_cons_zero])
                    | (go_simp; apply Exists.intro; refine ⟨fun y hy => ?_, hK _ ?_⟩; (go_at_call 21; exact Ql.cl_of hy (ptx _)); clear hK K)
                    | fail))
                  refine wpQuiet_nil ?_
                  intro y5 hy5
                  have HF5 := HFIN.out y5 hy5
                  clear hy5 k1 k2 klt ptx
                  go_wp2_with fail
                  exact ⟨⟨j + 1, by simp, by omega, HF5.1, HF5.2⟩, by simp only [intOf]; omega⟩
                · obtain rfl : j = KK := by omega
                  go_wp2_with fail
                  refine ⟨⟨i + 1, P, F + 1, kz, 0, false, 0, D, d + 1, by first | rfl | (push_cast; rfl), by rw [HPF.out.1], by rw [HPF.out.2], rfl, rfl, rfl, by omega, HO1, HL2⟩, by simp only [intOf]; omega⟩

          · as_aux_lemma =>
              have HO1 : Hid (Oi m r t (i + 1) P (F + 1) (jj + 1) 1 true 0 D (d + 1)) := ho1
              clear ho1
              have hts : (s != t) = false := by simp [hst0]
              have TX : Hid (∀ x, Calls Try.prog 21 #[.int .i64 ((F : Int) + 1)] x fun e w' => e = .returned (.string (ks (F + 1))) ∧ Below x.heap.size x w') := fun x => by
                have := text_any (F + 1) (by omega) x
                rw [show ((((F + 1) : Nat) : Int)) = ((F : Int) + 1) from by omega] at this
                exact this
              have NX : Hid (Calls Try.prog 22 #[.pointer (some ⟨g, 0, none⟩), .bool true] wr fun e w' => ∃ v, e = .returned (.tuple #[.agg #[.string (ks (F + 1)), v], .bool true]) ∧ PostS wr g g (Oz m r t (F + 1) (jj + 1) 1 true 0 [(F : Int)] (d + 1)) (ks (F + 1)) [] v w') := by
                have hn := next_yes HL.out.sq (HO.out.ok (by decide)) (by rw [show (Oz m r t F k s way ticks [] d).L.length = k from lof_len F k]; show 0 + k ≤ 1000000; omega)
                rw [hnx] at hn
                exact hn
              obtain ⟨mm, hmm⟩ : ∃ mm, ks (F + 1) = mm := ⟨_, rfl⟩
              rw [hmm] at NX
              have HMM : Hid (ks (F + 1) = mm) := hmm
              clear hnx hmm
              go_wp2_with fail
              refine NX.out.mono ?_
              rintro e x1 ⟨v1, rfl, -, hnl, hp⟩
              obtain rfl := hnl rfl
              have L1 : Hid (Lw y x1 g (Oz m r t (F + 1) (jj + 1) 1 true 0 [(F : Int)] (d + 1))) := HL.out.step hp
              clear hp NX
              obtain ⟨z1, hz1⟩ : ∃ z1, Hid (x1.alloc (.cells #[.string mm, .slice none 0 0] tG) = z1) := ⟨_, rfl⟩
              have U1 : Hid (Lw y z1 g (Oz m r t (F + 1) (jj + 1) 1 true 0 [(F : Int)] (d + 1))) := L1.out.next (hz1.out ▸ below_one _ _)
              have BX1 : Hid (z1.heap[x1.heap.size]? = some (.cells #[.string mm, .slice none 0 0] tG (0, 0))) := hz1.out ▸ h1_0 _ _
              go_wp2_with fail
              rw [hz1.out]
              refine (gone_any U1.out.sq).mono ?_
              rintro e x2 ⟨vg, rfl, hrg, hp⟩
              have HRG : Hid (x2.ownsRow g tI 1 vg 1 ([(F : Int)].map iv)) := hrg
              obtain ⟨og, cg, evg, -⟩ := own_form HRG.out
              have L2 : Hid (Lw y x2 g (Oz m r t (F + 1) (jj + 1) 1 true 0 [] (d + 1))) := U1.out.step hp
              have BX2 : Hid (x2.heap[x1.heap.size]? = some (.cells #[.string mm, .slice none 0 0] tG (0, 0))) := (hp.2.1.block _ _ _ _ BX1.out (by decide) (by decide) (by decide)).trans BX1.out
              clear BX1
              rcases HRG.out.2 with ⟨-, h0⟩ | ⟨rb, cap, cur, erb, -⟩
              · omega
              have hgc : x2.cell? ⟨rb, 0, none⟩ = some (.int .i64 (F : Int)) := HRG.out.cells (g := rb) (by rw [erb]; rfl) 0 (iv F) rfl
              subst erb
              clear hp hrg HRG U1 L1 hz1
              clear evg
              go_wp2_with fail
              refine wp_loop_rounds 2 ?_
              rw [rounds_succ]
              go_wp2_with fail
              rw [rounds_succ]
              go_wp2_with fail
              refine (TX.out _).mono ?_
              rintro e x3 ⟨rfl, hx3⟩
              have L3 : Hid (Lw y x3 g (Oz m r t (F + 1) (jj + 1) 1 true 0 [] (d + 1))) := L2.out.next hx3
              have bx3 := kept hx3 BX2.out
              have k3 : x3.cell? ⟨x1.heap.size, 0, none⟩ = some (.string mm) := by simp [World.cell?, bx3]
              clear bx3 BX2 L2 TX hx3
              have hfp : ¬ (P : Int) < ((F : Int) + 1) := by omega
              obtain rfl : mm = ks (F + 1) := HMM.out.symm
              have hst : ¬ t < 1 := by omega
              generalize ks (F + 1) = sF at *
              clear HMM
              go_wp2_with fail
              have HL1 := L3
              obtain ⟨PP, hPP⟩ : ∃ q, (P : Int) = q := ⟨_, rfl⟩
              obtain ⟨FF, hFF⟩ : ∃ q, (F : Int) + 1 = q := ⟨_, rfl⟩
              have HPF : Hid (PP = ((P : Nat) : Int) ∧ FF = ((F + 1 : Nat) : Int)) := ⟨hPP.symm.trans (by omega), hFF.symm.trans (by omega)⟩
              have ALL : Hid (Calls Try.prog 17 #[.pointer (some ⟨g, 0, none⟩)] x3 (PostL x3 (Oz m r t (F + 1) (jj + 1) (1) true (0) [] (d + 1)))) := all_any HL1.out.sq (HO1.out.ok (by decide))
              rw [hPP, hFF]
              refine ALL.out.mono ?_
              clear ALL
              rintro e xa ⟨vl, ps, rfl, hps, hrow, hba⟩
              have HRL : Hid (Rl xa vl FF (jj + 1)) := by rw [HPF.out.2]; exact rl_of hrow hps
              have HLA : Hid (Lw y xa g (Oz m r t (F + 1) (jj + 1) (1) true (0) [] (d + 1))) := HL1.out.next hba
              obtain ⟨ol, cl, hvl⟩ := HRL.out.form
              subst hvl
              have HLEN : Hid (Calls Try.prog 11 #[.pointer (some ⟨g, 0, none⟩)] xa fun e w' => e = .returned (.int .i64 ((jj + 1 : Nat) : Int)) ∧ w' = xa) := (len_any HLA.out.sq).mono fun e w' h => ⟨by rw [h.1, show (Oz m r t (F + 1) (jj + 1) (1) true (0) [] (d + 1)).L.length = jj + 1 from lof_len _ _], h.2⟩
              have HDEAD : Hid (Calls Try.prog 13 #[.pointer (some ⟨g, 0, none⟩)] xa fun e w' => e = .returned (.int .i64 (d + 1)) ∧ w' = xa) := dead_any HLA.out.sq
              have hpk := HO1.out.pk
              have hdd := HO1.out.dd
              have hpi := HO1.out.pi
              have hd0 := HO1.out.d0
              have hd1 := HO1.out.d1
              obtain ⟨KK, hKK⟩ : ∃ q : Nat, jj + 1 = q := ⟨_, rfl⟩
              have eP := HPF.out.1
              have eF := HPF.out.2
              have b1 : (((KK : Nat) : Int) != PP + 1 - FF) = false := by simp; omega
              have b3 : (D + (d + 1) + ((KK : Nat) : Int) != PP) = false := by simp; omega
              have o1 : (0 : Int) ≤ PP ∧ PP ≤ 400 := by omega
              have o2 : (1 : Int) ≤ FF ∧ FF ≤ 401 := by have := HO1.out.f0; omega
              have o3 : ((KK : Nat) : Int) ≤ 401 := by omega
              have o4 : D ≤ 401 ∧ (d + 1) ≤ 401 := by omega
              obtain ⟨o1a, o1b⟩ := o1
              obtain ⟨o2a, o2b⟩ := o2
              obtain ⟨o4a, o4b⟩ := o4
              rw [hKK] at HLEN HRL ⊢
              clear hpk hdd hpi hd0 hd1 hps hrow hba eP eF hPP hFF
              go_wp2_with (first | (go_at_call 11; refine HLEN.out.mono ?_; rintro e x ⟨rfl, rfl⟩) | (go_at_call 13; refine HDEAD.out.mono ?_; rintro e x ⟨rfl, rfl⟩))
              clear HLEN HDEAD b1 b3
              go_loopw [32] (fun kv wr => ∃ j : Nat, kv = .int .i64 (j : Int) ∧ j ≤ KK ∧ Hid (Rl wr (.slice ol KK cl) FF KK) ∧ Hid (Lw y wr g (Oz m r t (F + 1) (jj + 1) (1) true (0) [] (d + 1)))) (fun kv _ => KK + 1 - (intOf kv).toNat)
              case atStart => exact ⟨0, rfl, Nat.zero_le _, HRL, HLA⟩
              case round =>
                obtain ⟨j, rfl, hj, HR2, HL2⟩ := hrel
                clear HRL HLA
                by_cases hjk : j < KK
                · obtain ⟨av, hav, k1, nn, hnn, k2⟩ := HR2.out.at_ j hjk ol cl rfl
                  subst hav
                  have ptx : ∀ x, Calls Try.prog 21 #[.int .i64 (FF + (j : Int))] x fun e w' => e = .returned (.string (ks nn)) ∧ Below x.heap.size x w' := fun x => by rw [hnn]; exact text_any nn (by omega) _
                  have jq0 : (j : Int) < ((KK : Nat) : Int) := by omega
                  have jq1 : (0 : Int) ≤ (j : Int) := by omega
                  obtain ⟨s2, hs2⟩ : ∃ s2, ks nn = s2 := ⟨_, rfl⟩
                  rw [hs2] at ptx k2
                  have klt := World.block_lt_of_cell? _ _ k1
                  have HFIN : Hid (∀ x, Below wr.heap.size wr x → Hid (Rl x (.slice (some av) KK cl) FF KK) ∧ Hid (Lw y x g (Oz m r t (F + 1) (jj + 1) (1) true (0) [] (d + 1)))) := fun x hx => ⟨HR2.out.below hx, HL2.out.next hx⟩
                  clear hnn hs2
                  go_wp2_with fail
                  refine Ql.region_cl (by kernel_rfl) (by kernel_rfl) ?_
                  repeat (first | go_big_quiet_skip | (go_big_quiet_want; go_big_quiet_op; first | go_big_quiet_on | (refine ⟨_, fun _ _ => rfl, ?_⟩; go_big_quiet_on) | (refine ⟨_, fun _ _ => ⟨rfl, rfl⟩, ?_⟩; go_big_quiet_on)) | (refine wpQuiet_step (fun K hK => ?_); first
                    | (refine Ql.q_cell (by rfl) 3 _ rfl _ _ rfl _ k1 klt (fun y => Try.isAgg3 y) (hK _ ?_); clear hK K; simp only [Act.put, List.setIfInBounds_toArray, List.set_cons_succ, List.set_cons_zero])
                    | (refine Ql.q_cell (by rfl) 9 _ rfl _ _ rfl _ k2 klt (fun y => Try.isAgg9 y) (hK _ ?_); clear hK K; simp only [Act.put, List.setIfInBounds_toArray, List.set_cons_succ, List.set_cons_zero])
                    | (go_simp; apply Exists.intro; refine ⟨fun y hy => ?_, hK _ ?_⟩; (go_at_call 21; exact Ql.cl_of hy (ptx _)); clear hK K)
                    | fail))
                  refine wpQuiet_nil ?_
                  intro y5 hy5
                  have HF5 := HFIN.out y5 hy5
                  clear hy5 k1 k2 klt ptx
                  go_wp2_with fail
                  exact ⟨⟨j + 1, by simp, by omega, HF5.1, HF5.2⟩, by simp only [intOf]; omega⟩
                · obtain rfl : j = KK := by omega
                  go_wp2_with fail
                  refine ⟨⟨i + 1, P, F + 1, jj + 1, 1, true, 0, D, d + 1, by first | rfl | (push_cast; rfl), by rw [HPF.out.1], by rw [HPF.out.2], rfl, rfl, rfl, by omega, HO1, HL2⟩, by simp only [intOf]; omega⟩


      · as_aux_lemma =>
          subst hA
          rcases HO.out.next hi41 with ⟨hnx, ho1⟩ | ⟨hk0, hst0, hnx, ho1⟩ | ⟨hk1, hst0, hnx, ho1⟩ | ⟨jj, hk1, hst0, hnx, ho1⟩
          · as_aux_lemma =>
              have HO1 : Hid (Oi m r t (i + 1) P F k s way ticks D d) := ho1
              clear ho1
              have NX : Hid (Calls Try.prog 22 #[.pointer (some ⟨g, 0, none⟩), .bool true] wr fun e w' => e = .returned (.tuple #[.agg #[.string ⟨#[]⟩, .slice none 0 0], .bool false]) ∧ PQ wr g g (Oz m r t F k s way ticks [] d) w') := by
                have hn := next_yes HL.out.sq (HO.out.ok (by decide)) (by rw [show (Oz m r t F k s way ticks [] d).L.length = k from lof_len F k]; show 0 + k ≤ 1000000; omega)
                rw [hnx] at hn
                exact hn
              clear hnx
              go_wp2_with fail
              refine NX.out.mono ?_
              rintro e x1 ⟨rfl, hp⟩
              have L1 : Hid (Lw y x1 g (Oz m r t F k s way ticks [] d)) := HL.out.step hp
              clear hp NX
              obtain ⟨z1, hz1⟩ : ∃ z1, Hid (x1.alloc (.cells #[.string ⟨#[]⟩, .slice none 0 0] tG) = z1) := ⟨_, rfl⟩
              have U1 : Hid (Lw y z1 g (Oz m r t F k s way ticks [] d)) := L1.out.next (hz1.out ▸ below_one _ _)
              go_wp2_with fail
              rw [hz1.out]
              refine (gone_any U1.out.sq).mono ?_
              rintro e x2 ⟨vg, rfl, hrg, hp⟩
              have HRG : Hid (x2.ownsRow g tI 1 vg 0 (([] : List Int).map iv)) := hrg
              obtain ⟨og, cg, evg, -⟩ := own_form HRG.out
              have L2 : Hid (Lw y x2 g (Oz m r t F k s way ticks [] d)) := U1.out.step hp
              subst evg
              clear hp hrg HRG U1 L1 hz1
              go_wp2_with fail
              refine wp_loop_once ?_
              go_wp2_with fail
              have HL1 := L2
              obtain ⟨PP, hPP⟩ : ∃ q, (P : Int) = q := ⟨_, rfl⟩
              obtain ⟨FF, hFF⟩ : ∃ q, (F : Int) = q := ⟨_, rfl⟩
              have HPF : Hid (PP = ((P : Nat) : Int) ∧ FF = ((F : Nat) : Int)) := ⟨hPP.symm.trans (by omega), hFF.symm.trans (by omega)⟩
              have ALL : Hid (Calls Try.prog 17 #[.pointer (some ⟨g, 0, none⟩)] x2 (PostL x2 (Oz m r t (F) (k) (s) way (ticks) [] (d)))) := all_any HL1.out.sq (HO1.out.ok (by decide))
              rw [hPP, hFF]
              refine ALL.out.mono ?_
              clear ALL
              rintro e xa ⟨vl, ps, rfl, hps, hrow, hba⟩
              have HRL : Hid (Rl xa vl FF (k)) := by rw [HPF.out.2]; exact rl_of hrow hps
              have HLA : Hid (Lw y xa g (Oz m r t (F) (k) (s) way (ticks) [] (d))) := HL1.out.next hba
              obtain ⟨ol, cl, hvl⟩ := HRL.out.form
              subst hvl
              have HLEN : Hid (Calls Try.prog 11 #[.pointer (some ⟨g, 0, none⟩)] xa fun e w' => e = .returned (.int .i64 ((k : Nat) : Int)) ∧ w' = xa) := (len_any HLA.out.sq).mono fun e w' h => ⟨by rw [h.1, show (Oz m r t (F) (k) (s) way (ticks) [] (d)).L.length = k from lof_len _ _], h.2⟩
              have HDEAD : Hid (Calls Try.prog 13 #[.pointer (some ⟨g, 0, none⟩)] xa fun e w' => e = .returned (.int .i64 (d)) ∧ w' = xa) := dead_any HLA.out.sq
              have hpk := HO1.out.pk
              have hdd := HO1.out.dd
              have hpi := HO1.out.pi
              have hd0 := HO1.out.d0
              have hd1 := HO1.out.d1
              obtain ⟨KK, hKK⟩ : ∃ q : Nat, k = q := ⟨_, rfl⟩
              have eP := HPF.out.1
              have eF := HPF.out.2
              have b1 : (((KK : Nat) : Int) != PP + 1 - FF) = false := by simp; omega
              have b3 : (D + d + ((KK : Nat) : Int) != PP) = false := by simp; omega
              have o1 : (0 : Int) ≤ PP ∧ PP ≤ 400 := by omega
              have o2 : (1 : Int) ≤ FF ∧ FF ≤ 401 := by have := HO1.out.f0; omega
              have o3 : ((KK : Nat) : Int) ≤ 401 := by omega
              have o4 : D ≤ 401 ∧ d ≤ 401 := by omega
              obtain ⟨o1a, o1b⟩ := o1
              obtain ⟨o2a, o2b⟩ := o2
              obtain ⟨o4a, o4b⟩ := o4
              rw [hKK] at HLEN HRL ⊢
              clear hpk hdd hpi hd0 hd1 hps hrow hba eP eF hPP hFF
              go_wp2_with (first | (go_at_call 11; refine HLEN.out.mono ?_; rintro e x ⟨rfl, rfl⟩) | (go_at_call 13; refine HDEAD.out.mono ?_; rintro e x ⟨rfl, rfl⟩))
              clear HLEN HDEAD b1 b3
              go_loopw [32] (fun kv wr => ∃ j : Nat, kv = .int .i64 (j : Int) ∧ j ≤ KK ∧ Hid (Rl wr (.slice ol KK cl) FF KK) ∧ Hid (Lw y wr g (Oz m r t (F) (k) (s) way (ticks) [] (d)))) (fun kv _ => KK + 1 - (intOf kv).toNat)
              case atStart => exact ⟨0, rfl, Nat.zero_le _, HRL, HLA⟩
              case round =>
                obtain ⟨j, rfl, hj, HR2, HL2⟩ := hrel
                clear HRL HLA
                by_cases hjk : j < KK
                · obtain ⟨av, hav, k1, nn, hnn, k2⟩ := HR2.out.at_ j hjk ol cl rfl
                  subst hav
                  have ptx : ∀ x, Calls Try.prog 21 #[.int .i64 (FF + (j : Int))] x fun e w' => e = .returned (.string (ks nn)) ∧ Below x.heap.size x w' := fun x => by rw [hnn]; exact text_any nn (by omega) _
                  have jq0 : (j : Int) < ((KK : Nat) : Int) := by omega
                  have jq1 : (0 : Int) ≤ (j : Int) := by omega
                  obtain ⟨s2, hs2⟩ : ∃ s2, ks nn = s2 := ⟨_, rfl⟩
                  rw [hs2] at ptx k2
                  have klt := World.block_lt_of_cell? _ _ k1
                  have HFIN : Hid (∀ x, Below wr.heap.size wr x → Hid (Rl x (.slice (some av) KK cl) FF KK) ∧ Hid (Lw y x g (Oz m r t (F) (k) (s) way (ticks) [] (d)))) := fun x hx => ⟨HR2.out.below hx, HL2.out.next hx⟩
                  clear hnn hs2
                  go_wp2_with fail
                  refine Ql.region_cl (by kernel_rfl) (by kernel_rfl) ?_
                  repeat (first | go_big_quiet_skip | (go_big_quiet_want; go_big_quiet_op; first | go_big_quiet_on | (refine ⟨_, fun _ _ => rfl, ?_⟩; go_big_quiet_on) | (refine ⟨_, fun _ _ => ⟨rfl, rfl⟩, ?_⟩; go_big_quiet_on)) | (refine wpQuiet_step (fun K hK => ?_); first
                    | (refine Ql.q_cell (by rfl) 3 _ rfl _ _ rfl _ k1 klt (fun y => Try.isAgg3 y) (hK _ ?_); clear hK K; simp only [Act.put, List.setIfInBounds_toArray, List.set_cons_succ, List.set_cons_zero])
                    | (refine Ql.q_cell (by rfl) 9 _ rfl _ _ rfl _ k2 klt (fun y => Try.isAgg9 y) (hK _ ?_); clear hK K; simp only [Act.put, List.setIfInBounds_toArray, List.set_cons_succ, List.set_cons_zero])
                    | (go_simp; apply Exists.intro; refine ⟨fun y hy => ?_, hK _ ?_⟩; (go_at_call 21; exact Ql.cl_of hy (ptx _)); clear hK K)
                    | fail))
                  refine wpQuiet_nil ?_
                  intro y5 hy5
                  have HF5 := HFIN.out y5 hy5
                  clear hy5 k1 k2 klt ptx
                  go_wp2_with fail
                  exact ⟨⟨j + 1, by simp, by omega, HF5.1, HF5.2⟩, by simp only [intOf]; omega⟩
                · obtain rfl : j = KK := by omega
                  go_wp2_with fail
                  refine ⟨⟨i + 1, P, F, k, s, way, ticks, D, d, by first | rfl | (push_cast; rfl), by rw [HPF.out.1], by rw [HPF.out.2], rfl, rfl, rfl, by omega, HO1, HL2⟩, by simp only [intOf]; omega⟩

          · have HO1 : Hid (Oi m r t (i + 1) P F k (s + 1) true 0 D d) := ho1
            clear ho1
            by_cases hs : s = 0
            · as_aux_lemma =>
                have HS0 : Hid (s = 0) := hs
                clear hs
                have TX : Hid (∀ x, Calls Try.prog 21 #[.int .i64 (F : Int)] x fun e w' => e = .returned (.string (ks F)) ∧ Below x.heap.size x w') := fun x => by
                  have := text_any F (by omega) x
                  rw [show (((F : Nat) : Int)) = (F : Int) from by omega] at this
                  exact this
                have NX : Hid (Calls Try.prog 22 #[.pointer (some ⟨g, 0, none⟩), .bool true] wr fun e w' => ∃ v, e = .returned (.tuple #[.agg #[.string (mO F s), v], .bool true]) ∧ PostS wr g g (Oz m r t F k (s + 1) true 0 [] d) (mO F s) [] v w') := by
                  have hn := next_yes HL.out.sq (HO.out.ok (by decide)) (by rw [show (Oz m r t F k s way ticks [] d).L.length = k from lof_len F k]; show 0 + k ≤ 1000000; omega)
                  rw [hnx] at hn
                  exact hn
                obtain ⟨mm, hmm⟩ : ∃ mm, mO F s = mm := ⟨_, rfl⟩
                rw [hmm] at NX
                have HMM : Hid (mO F s = mm) := hmm
                clear hnx hmm
                go_wp2_with fail
                refine NX.out.mono ?_
                rintro e x1 ⟨v1, rfl, -, hnl, hp⟩
                obtain rfl := hnl rfl
                have L1 : Hid (Lw y x1 g (Oz m r t F k (s + 1) true 0 [] d)) := HL.out.step hp
                clear hp NX
                obtain ⟨z1, hz1⟩ : ∃ z1, Hid (x1.alloc (.cells #[.string mm, .slice none 0 0] tG) = z1) := ⟨_, rfl⟩
                have U1 : Hid (Lw y z1 g (Oz m r t F k (s + 1) true 0 [] d)) := L1.out.next (hz1.out ▸ below_one _ _)
                have BX1 : Hid (z1.heap[x1.heap.size]? = some (.cells #[.string mm, .slice none 0 0] tG (0, 0))) := hz1.out ▸ h1_0 _ _
                go_wp2_with fail
                rw [hz1.out]
                refine (gone_any U1.out.sq).mono ?_
                rintro e x2 ⟨vg, rfl, hrg, hp⟩
                have HRG : Hid (x2.ownsRow g tI 1 vg 0 (([] : List Int).map iv)) := hrg
                obtain ⟨og, cg, evg, -⟩ := own_form HRG.out
                have L2 : Hid (Lw y x2 g (Oz m r t F k (s + 1) true 0 [] d)) := U1.out.step hp
                have BX2 : Hid (x2.heap[x1.heap.size]? = some (.cells #[.string mm, .slice none 0 0] tG (0, 0))) := (hp.2.1.block _ _ _ _ BX1.out (by decide) (by decide) (by decide)).trans BX1.out
                clear BX1
                subst evg
                clear hp hrg HRG U1 L1 hz1
                go_wp2_with fail
                refine wp_loop_once ?_
                go_wp2_with fail
                refine (TX.out _).mono ?_
                rintro e x3 ⟨rfl, hx3⟩
                have L3 : Hid (Lw y x3 g (Oz m r t F k (s + 1) true 0 [] d)) := L2.out.next hx3
                have bx3 := kept hx3 BX2.out
                have k3 : x3.cell? ⟨x1.heap.size, 0, none⟩ = some (.string mm) := by simp [World.cell?, bx3]
                clear bx3 BX2 L2 TX hx3
                have hfp : ¬ (P : Int) < (F : Int) := by omega
                obtain rfl : mm = ks F := by rw [← HMM.out]; exact if_pos HS0.out
                have hs1 : ¬ (1 : Int) < s + 1 := by have := HS0.out; omega
                have hst : ¬ t < s + 1 := by omega
                generalize ks F = sF at *
                clear HMM
                go_wp2_with fail
                have HL1 := L3
                obtain ⟨PP, hPP⟩ : ∃ q, (P : Int) = q := ⟨_, rfl⟩
                obtain ⟨FF, hFF⟩ : ∃ q, (F : Int) = q := ⟨_, rfl⟩
                have HPF : Hid (PP = ((P : Nat) : Int) ∧ FF = ((F : Nat) : Int)) := ⟨hPP.symm.trans (by omega), hFF.symm.trans (by omega)⟩
                have ALL : Hid (Calls Try.prog 17 #[.pointer (some ⟨g, 0, none⟩)] x3 (PostL x3 (Oz m r t (F) (k) (s + 1) true (0) [] (d)))) := all_any HL1.out.sq (HO1.out.ok (by decide))
                rw [hPP, hFF]
                refine ALL.out.mono ?_
                clear ALL
                rintro e xa ⟨vl, ps, rfl, hps, hrow, hba⟩
                have HRL : Hid (Rl xa vl FF (k)) := by rw [HPF.out.2]; exact rl_of hrow hps
                have HLA : Hid (Lw y xa g (Oz m r t (F) (k) (s + 1) true (0) [] (d))) := HL1.out.next hba
                obtain ⟨ol, cl, hvl⟩ := HRL.out.form
                subst hvl
                have HLEN : Hid (Calls Try.prog 11 #[.pointer (some ⟨g, 0, none⟩)] xa fun e w' => e = .returned (.int .i64 ((k : Nat) : Int)) ∧ w' = xa) := (len_any HLA.out.sq).mono fun e w' h => ⟨by rw [h.1, show (Oz m r t (F) (k) (s + 1) true (0) [] (d)).L.length = k from lof_len _ _], h.2⟩
                have HDEAD : Hid (Calls Try.prog 13 #[.pointer (some ⟨g, 0, none⟩)] xa fun e w' => e = .returned (.int .i64 (d)) ∧ w' = xa) := dead_any HLA.out.sq
                have hpk := HO1.out.pk
                have hdd := HO1.out.dd
                have hpi := HO1.out.pi
                have hd0 := HO1.out.d0
                have hd1 := HO1.out.d1
                obtain ⟨KK, hKK⟩ : ∃ q : Nat, k = q := ⟨_, rfl⟩
                have eP := HPF.out.1
                have eF := HPF.out.2
                have b1 : (((KK : Nat) : Int) != PP + 1 - FF) = false := by simp; omega
                have b3 : (D + d + ((KK : Nat) : Int) != PP) = false := by simp; omega
                have o1 : (0 : Int) ≤ PP ∧ PP ≤ 400 := by omega
                have o2 : (1 : Int) ≤ FF ∧ FF ≤ 401 := by have := HO1.out.f0; omega
                have o3 : ((KK : Nat) : Int) ≤ 401 := by omega
                have o4 : D ≤ 401 ∧ d ≤ 401 := by omega
                obtain ⟨o1a, o1b⟩ := o1
                obtain ⟨o2a, o2b⟩ := o2
                obtain ⟨o4a, o4b⟩ := o4
                rw [hKK] at HLEN HRL ⊢
                clear hpk hdd hpi hd0 hd1 hps hrow hba eP eF hPP hFF
                go_wp2_with (first | (go_at_call 11; refine HLEN.out.mono ?_; rintro e x ⟨rfl, rfl⟩) | (go_at_call 13; refine HDEAD.out.mono ?_; rintro e x ⟨rfl, rfl⟩))
                clear HLEN HDEAD b1 b3
                go_loopw [32] (fun kv wr => ∃ j : Nat, kv = .int .i64 (j : Int) ∧ j ≤ KK ∧ Hid (Rl wr (.slice ol KK cl) FF KK) ∧ Hid (Lw y wr g (Oz m r t (F) (k) (s + 1) true (0) [] (d)))) (fun kv _ => KK + 1 - (intOf kv).toNat)
                case atStart => exact ⟨0, rfl, Nat.zero_le _, HRL, HLA⟩
                case round =>
                  obtain ⟨j, rfl, hj, HR2, HL2⟩ := hrel
                  clear HRL HLA
                  by_cases hjk : j < KK
                  · obtain ⟨av, hav, k1, nn, hnn, k2⟩ := HR2.out.at_ j hjk ol cl rfl
                    subst hav
                    have ptx : ∀ x, Calls Try.prog 21 #[.int .i64 (FF + (j : Int))] x fun e w' => e = .returned (.string (ks nn)) ∧ Below x.heap.size x w' := fun x => by rw [hnn]; exact text_any nn (by omega) _
                    have jq0 : (j : Int) < ((KK : Nat) : Int) := by omega
                    have jq1 : (0 : Int) ≤ (j : Int) := by omega
                    obtain ⟨s2, hs2⟩ : ∃ s2, ks nn = s2 := ⟨_, rfl⟩
                    rw [hs2] at ptx k2
                    have klt := World.block_lt_of_cell? _ _ k1
                    have HFIN : Hid (∀ x, Below wr.heap.size wr x → Hid (Rl x (.slice (some av) KK cl) FF KK) ∧ Hid (Lw y x g (Oz m r t (F) (k) (s + 1) true (0) [] (d)))) := fun x hx => ⟨HR2.out.below hx, HL2.out.next hx⟩
                    clear hnn hs2
                    go_wp2_with fail
                    refine Ql.region_cl (by kernel_rfl) (by kernel_rfl) ?_
                    repeat (first | go_big_quiet_skip | (go_big_quiet_want; go_big_quiet_op; first | go_big_quiet_on | (refine ⟨_, fun _ _ => rfl, ?_⟩; go_big_quiet_on) | (refine ⟨_, fun _ _ => ⟨rfl, rfl⟩, ?_⟩; go_big_quiet_on)) | (refine wpQuiet_step (fun K hK => ?_); first
                      | (refine Ql.q_cell (by rfl) 3 _ rfl _ _ rfl _ k1 klt (fun y => Try.isAgg3 y) (hK _ ?_); clear hK K; simp only [Act.put, List.setIfInBounds_toArray, List.set_cons_succ, List.set_cons_zero])
                      | (refine Ql.q_cell (by rfl) 9 _ rfl _ _ rfl _ k2 klt (fun y => Try.isAgg9 y) (hK _ ?_); clear hK K; simp only [Act.put, List.setIfInBounds_toArray, List.set_cons_succ, List.set_cons_zero])
                      | (go_simp; apply Exists.intro; refine ⟨fun y hy => ?_, hK _ ?_⟩; (go_at_call 21; exact Ql.cl_of hy (ptx _)); clear hK K)
                      | fail))
                    refine wpQuiet_nil ?_
                    intro y5 hy5
                    have HF5 := HFIN.out y5 hy5
                    clear hy5 k1 k2 klt ptx
                    go_wp2_with fail
                    exact ⟨⟨j + 1, by simp, by omega, HF5.1, HF5.2⟩, by simp only [intOf]; omega⟩
                  · obtain rfl : j = KK := by omega
                    go_wp2_with fail
                    refine ⟨⟨i + 1, P, F, k, s + 1, true, 0, D, d, by first | rfl | (push_cast; rfl), by rw [HPF.out.1], by rw [HPF.out.2], rfl, rfl, rfl, by omega, HO1, HL2⟩, by simp only [intOf]; omega⟩

            · as_aux_lemma =>
                have TX : Hid (∀ x, Calls Try.prog 21 #[.int .i64 (F : Int)] x fun e w' => e = .returned (.string (ks F)) ∧ Below x.heap.size x w') := fun x => by
                  have := text_any F (by omega) x
                  rw [show (((F : Nat) : Int)) = (F : Int) from by omega] at this
                  exact this
                have NX : Hid (Calls Try.prog 22 #[.pointer (some ⟨g, 0, none⟩), .bool true] wr fun e w' => ∃ v, e = .returned (.tuple #[.agg #[.string (mO F s), v], .bool true]) ∧ PostS wr g g (Oz m r t F k (s + 1) true 0 [] d) (mO F s) [] v w') := by
                  have hn := next_yes HL.out.sq (HO.out.ok (by decide)) (by rw [show (Oz m r t F k s way ticks [] d).L.length = k from lof_len F k]; show 0 + k ≤ 1000000; omega)
                  rw [hnx] at hn
                  exact hn
                obtain ⟨mm, hmm⟩ : ∃ mm, mO F s = mm := ⟨_, rfl⟩
                rw [hmm] at NX
                have HMM : Hid (mO F s = mm) := hmm
                clear hnx hmm
                go_wp2_with fail
                refine NX.out.mono ?_
                rintro e x1 ⟨v1, rfl, -, hnl, hp⟩
                obtain rfl := hnl rfl
                have L1 : Hid (Lw y x1 g (Oz m r t F k (s + 1) true 0 [] d)) := HL.out.step hp
                clear hp NX
                obtain ⟨z1, hz1⟩ : ∃ z1, Hid (x1.alloc (.cells #[.string mm, .slice none 0 0] tG) = z1) := ⟨_, rfl⟩
                have U1 : Hid (Lw y z1 g (Oz m r t F k (s + 1) true 0 [] d)) := L1.out.next (hz1.out ▸ below_one _ _)
                have BX1 : Hid (z1.heap[x1.heap.size]? = some (.cells #[.string mm, .slice none 0 0] tG (0, 0))) := hz1.out ▸ h1_0 _ _
                go_wp2_with fail
                rw [hz1.out]
                refine (gone_any U1.out.sq).mono ?_
                rintro e x2 ⟨vg, rfl, hrg, hp⟩
                have HRG : Hid (x2.ownsRow g tI 1 vg 0 (([] : List Int).map iv)) := hrg
                obtain ⟨og, cg, evg, -⟩ := own_form HRG.out
                have L2 : Hid (Lw y x2 g (Oz m r t F k (s + 1) true 0 [] d)) := U1.out.step hp
                have BX2 : Hid (x2.heap[x1.heap.size]? = some (.cells #[.string mm, .slice none 0 0] tG (0, 0))) := (hp.2.1.block _ _ _ _ BX1.out (by decide) (by decide) (by decide)).trans BX1.out
                clear BX1
                subst evg
                clear hp hrg HRG U1 L1 hz1
                go_wp2_with fail
                refine wp_loop_once ?_
                go_wp2_with fail
                refine (TX.out _).mono ?_
                rintro e x3 ⟨rfl, hx3⟩
                have L3 : Hid (Lw y x3 g (Oz m r t F k (s + 1) true 0 [] d)) := L2.out.next hx3
                have bx3 := kept hx3 BX2.out
                have k3 : x3.cell? ⟨x1.heap.size, 0, none⟩ = some (.string mm) := by simp [World.cell?, bx3]
                clear bx3 BX2 L2 TX hx3
                have hfp : ¬ (P : Int) < (F : Int) := by omega
                obtain rfl : mm = ks F ++ ⟨#[114]⟩ := by rw [← HMM.out]; exact if_neg hs
                have hs1 : (1 : Int) < s + 1 := by omega
                have hst : ¬ t < s + 1 := by omega
                have hsz : (ks F).size ≤ 1000000 := by have := ks_size F; omega
                generalize ks F = sF at *
                clear HMM
                go_wp2_with fail
                have HL1 := L3
                obtain ⟨PP, hPP⟩ : ∃ q, (P : Int) = q := ⟨_, rfl⟩
                obtain ⟨FF, hFF⟩ : ∃ q, (F : Int) = q := ⟨_, rfl⟩
                have HPF : Hid (PP = ((P : Nat) : Int) ∧ FF = ((F : Nat) : Int)) := ⟨hPP.symm.trans (by omega), hFF.symm.trans (by omega)⟩
                have ALL : Hid (Calls Try.prog 17 #[.pointer (some ⟨g, 0, none⟩)] x3 (PostL x3 (Oz m r t (F) (k) (s + 1) true (0) [] (d)))) := all_any HL1.out.sq (HO1.out.ok (by decide))
                rw [hPP, hFF]
                refine ALL.out.mono ?_
                clear ALL
                rintro e xa ⟨vl, ps, rfl, hps, hrow, hba⟩
                have HRL : Hid (Rl xa vl FF (k)) := by rw [HPF.out.2]; exact rl_of hrow hps
                have HLA : Hid (Lw y xa g (Oz m r t (F) (k) (s + 1) true (0) [] (d))) := HL1.out.next hba
                obtain ⟨ol, cl, hvl⟩ := HRL.out.form
                subst hvl
                have HLEN : Hid (Calls Try.prog 11 #[.pointer (some ⟨g, 0, none⟩)] xa fun e w' => e = .returned (.int .i64 ((k : Nat) : Int)) ∧ w' = xa) := (len_any HLA.out.sq).mono fun e w' h => ⟨by rw [h.1, show (Oz m r t (F) (k) (s + 1) true (0) [] (d)).L.length = k from lof_len _ _], h.2⟩
                have HDEAD : Hid (Calls Try.prog 13 #[.pointer (some ⟨g, 0, none⟩)] xa fun e w' => e = .returned (.int .i64 (d)) ∧ w' = xa) := dead_any HLA.out.sq
                have hpk := HO1.out.pk
                have hdd := HO1.out.dd
                have hpi := HO1.out.pi
                have hd0 := HO1.out.d0
                have hd1 := HO1.out.d1
                obtain ⟨KK, hKK⟩ : ∃ q : Nat, k = q := ⟨_, rfl⟩
                have eP := HPF.out.1
                have eF := HPF.out.2
                have b1 : (((KK : Nat) : Int) != PP + 1 - FF) = false := by simp; omega
                have b3 : (D + d + ((KK : Nat) : Int) != PP) = false := by simp; omega
                have o1 : (0 : Int) ≤ PP ∧ PP ≤ 400 := by omega
                have o2 : (1 : Int) ≤ FF ∧ FF ≤ 401 := by have := HO1.out.f0; omega
                have o3 : ((KK : Nat) : Int) ≤ 401 := by omega
                have o4 : D ≤ 401 ∧ d ≤ 401 := by omega
                obtain ⟨o1a, o1b⟩ := o1
                obtain ⟨o2a, o2b⟩ := o2
                obtain ⟨o4a, o4b⟩ := o4
                rw [hKK] at HLEN HRL ⊢
                clear hpk hdd hpi hd0 hd1 hps hrow hba eP eF hPP hFF
                go_wp2_with (first | (go_at_call 11; refine HLEN.out.mono ?_; rintro e x ⟨rfl, rfl⟩) | (go_at_call 13; refine HDEAD.out.mono ?_; rintro e x ⟨rfl, rfl⟩))
                clear HLEN HDEAD b1 b3
                go_loopw [32] (fun kv wr => ∃ j : Nat, kv = .int .i64 (j : Int) ∧ j ≤ KK ∧ Hid (Rl wr (.slice ol KK cl) FF KK) ∧ Hid (Lw y wr g (Oz m r t (F) (k) (s + 1) true (0) [] (d)))) (fun kv _ => KK + 1 - (intOf kv).toNat)
                case atStart => exact ⟨0, rfl, Nat.zero_le _, HRL, HLA⟩
                case round =>
                  obtain ⟨j, rfl, hj, HR2, HL2⟩ := hrel
                  clear HRL HLA
                  by_cases hjk : j < KK
                  · obtain ⟨av, hav, k1, nn, hnn, k2⟩ := HR2.out.at_ j hjk ol cl rfl
                    subst hav
                    have ptx : ∀ x, Calls Try.prog 21 #[.int .i64 (FF + (j : Int))] x fun e w' => e = .returned (.string (ks nn)) ∧ Below x.heap.size x w' := fun x => by rw [hnn]; exact text_any nn (by omega) _
                    have jq0 : (j : Int) < ((KK : Nat) : Int) := by omega
                    have jq1 : (0 : Int) ≤ (j : Int) := by omega
                    obtain ⟨s2, hs2⟩ : ∃ s2, ks nn = s2 := ⟨_, rfl⟩
                    rw [hs2] at ptx k2
                    have klt := World.block_lt_of_cell? _ _ k1
                    have HFIN : Hid (∀ x, Below wr.heap.size wr x → Hid (Rl x (.slice (some av) KK cl) FF KK) ∧ Hid (Lw y x g (Oz m r t (F) (k) (s + 1) true (0) [] (d)))) := fun x hx => ⟨HR2.out.below hx, HL2.out.next hx⟩
                    clear hnn hs2
                    go_wp2_with fail
                    refine Ql.region_cl (by kernel_rfl) (by kernel_rfl) ?_
                    repeat (first | go_big_quiet_skip | (go_big_quiet_want; go_big_quiet_op; first | go_big_quiet_on | (refine ⟨_, fun _ _ => rfl, ?_⟩; go_big_quiet_on) | (refine ⟨_, fun _ _ => ⟨rfl, rfl⟩, ?_⟩; go_big_quiet_on)) | (refine wpQuiet_step (fun K hK => ?_); first
                      | (refine Ql.q_cell (by rfl) 3 _ rfl _ _ rfl _ k1 klt (fun y => Try.isAgg3 y) (hK _ ?_); clear hK K; simp only [Act.put, List.setIfInBounds_toArray, List.set_cons_succ, List.set_cons_zero])
                      | (refine Ql.q_cell (by rfl) 9 _ rfl _ _ rfl _ k2 klt (fun y => Try.isAgg9 y) (hK _ ?_); clear hK K; simp only [Act.put, List.setIfInBounds_toArray, List.set_cons_succ, List.set_cons_zero])
                      | (go_simp; apply Exists.intro; refine ⟨fun y hy => ?_, hK _ ?_⟩; (go_at_call 21; exact Ql.cl_of hy (ptx _)); clear hK K)
                      | fail))
                    refine wpQuiet_nil ?_
                    intro y5 hy5
                    have HF5 := HFIN.out y5 hy5
                    clear hy5 k1 k2 klt ptx
                    go_wp2_with fail
                    exact ⟨⟨j + 1, by simp, by omega, HF5.1, HF5.2⟩, by simp only [intOf]; omega⟩
                  · obtain rfl : j = KK := by omega
                    go_wp2_with fail
                    refine ⟨⟨i + 1, P, F, k, s + 1, true, 0, D, d, by first | rfl | (push_cast; rfl), by rw [HPF.out.1], by rw [HPF.out.2], rfl, rfl, rfl, by omega, HO1, HL2⟩, by simp only [intOf]; omega⟩

          · as_aux_lemma =>
              obtain ⟨kz, hkz⟩ : ∃ kz : Nat, Hid (0 = kz) := ⟨_, rfl⟩
              have HO1 : Hid (Oi m r t (i + 1) P (F + 1) kz 0 false 0 D (d + 1)) := by rw [← hkz.out]; exact ho1
              clear ho1
              have hts : (s != t) = false := by simp [hst0]
              clear hst0 hk1
              have NX : Hid (Calls Try.prog 22 #[.pointer (some ⟨g, 0, none⟩), .bool true] wr fun e w' => e = .returned (.tuple #[.agg #[.string ⟨#[]⟩, .slice none 0 0], .bool false]) ∧ PQ wr g g (Oz m r t (F + 1) 0 0 false 0 [(F : Int)] (d + 1)) w') := by
                have hn := next_yes HL.out.sq (HO.out.ok (by decide)) (by rw [show (Oz m r t F k s way ticks [] d).L.length = k from lof_len F k]; show 0 + k ≤ 1000000; omega)
                rw [hnx] at hn
                exact hn
              clear hnx
              go_wp2_with fail
              refine NX.out.mono ?_
              rintro e x1 ⟨rfl, hp⟩
              have L1 : Hid (Lw y x1 g (Oz m r t (F + 1) 0 0 false 0 [(F : Int)] (d + 1))) := HL.out.step hp
              clear hp NX
              obtain ⟨z1, hz1⟩ : ∃ z1, Hid (x1.alloc (.cells #[.string ⟨#[]⟩, .slice none 0 0] tG) = z1) := ⟨_, rfl⟩
              have U1 : Hid (Lw y z1 g (Oz m r t (F + 1) 0 0 false 0 [(F : Int)] (d + 1))) := L1.out.next (hz1.out ▸ below_one _ _)
              go_wp2_with fail
              rw [hz1.out]
              refine (gone_any U1.out.sq).mono ?_
              rintro e x2 ⟨vg, rfl, hrg, hp⟩
              have HRG : Hid (x2.ownsRow g tI 1 vg 1 ([(F : Int)].map iv)) := hrg
              obtain ⟨og, cg, evg, -⟩ := own_form HRG.out
              have L2 : Hid (Lw y x2 g (Oz m r t (F + 1) 0 0 false 0 [] (d + 1))) := U1.out.step hp
              rcases HRG.out.2 with ⟨-, h0⟩ | ⟨rb, cap, cur, erb, -⟩
              · omega
              have hgc : x2.cell? ⟨rb, 0, none⟩ = some (.int .i64 (F : Int)) := HRG.out.cells (g := rb) (by rw [erb]; rfl) 0 (iv F) rfl
              subst erb
              clear hp hrg HRG U1 L1 hz1
              clear evg
              go_wp2_with fail
              refine wp_loop_rounds 2 ?_
              rw [rounds_succ]
              go_wp2_with fail
              rw [rounds_succ]
              go_wp2_with fail
              have HL1 : Hid (Lw y x2 g (Oz m r t (F + 1) kz 0 false 0 [] (d + 1))) := by rw [← hkz.out]; exact L2
              obtain ⟨PP, hPP⟩ : ∃ q, (P : Int) = q := ⟨_, rfl⟩
              obtain ⟨FF, hFF⟩ : ∃ q, (F : Int) + 1 = q := ⟨_, rfl⟩
              have HPF : Hid (PP = ((P : Nat) : Int) ∧ FF = ((F + 1 : Nat) : Int)) := ⟨hPP.symm.trans (by omega), hFF.symm.trans (by omega)⟩
              have ALL : Hid (Calls Try.prog 17 #[.pointer (some ⟨g, 0, none⟩)] x2 (PostL x2 (Oz m r t (F + 1) (kz) (0) false (0) [] (d + 1)))) := all_any HL1.out.sq (HO1.out.ok (by decide))
              rw [hPP, hFF]
              refine ALL.out.mono ?_
              clear ALL
              rintro e xa ⟨vl, ps, rfl, hps, hrow, hba⟩
              have HRL : Hid (Rl xa vl FF (kz)) := by rw [HPF.out.2]; exact rl_of hrow hps
              have HLA : Hid (Lw y xa g (Oz m r t (F + 1) (kz) (0) false (0) [] (d + 1))) := HL1.out.next hba
              obtain ⟨ol, cl, hvl⟩ := HRL.out.form
              subst hvl
              have HLEN : Hid (Calls Try.prog 11 #[.pointer (some ⟨g, 0, none⟩)] xa fun e w' => e = .returned (.int .i64 ((kz : Nat) : Int)) ∧ w' = xa) := (len_any HLA.out.sq).mono fun e w' h => ⟨by rw [h.1, show (Oz m r t (F + 1) (kz) (0) false (0) [] (d + 1)).L.length = kz from lof_len _ _], h.2⟩
              have HDEAD : Hid (Calls Try.prog 13 #[.pointer (some ⟨g, 0, none⟩)] xa fun e w' => e = .returned (.int .i64 (d + 1)) ∧ w' = xa) := dead_any HLA.out.sq
              have hpk := HO1.out.pk
              have hdd := HO1.out.dd
              have hpi := HO1.out.pi
              have hd0 := HO1.out.d0
              have hd1 := HO1.out.d1
              obtain ⟨KK, hKK⟩ : ∃ q : Nat, kz = q := ⟨_, rfl⟩
              have eP := HPF.out.1
              have eF := HPF.out.2
              have b1 : (((KK : Nat) : Int) != PP + 1 - FF) = false := by simp; omega
              have b3 : (D + (d + 1) + ((KK : Nat) : Int) != PP) = false := by simp; omega
              have o1 : (0 : Int) ≤ PP ∧ PP ≤ 400 := by omega
              have o2 : (1 : Int) ≤ FF ∧ FF ≤ 401 := by have := HO1.out.f0; omega
              have o3 : ((KK : Nat) : Int) ≤ 401 := by omega
              have o4 : D ≤ 401 ∧ (d + 1) ≤ 401 := by omega
              obtain ⟨o1a, o1b⟩ := o1
              obtain ⟨o2a, o2b⟩ := o2
              obtain ⟨o4a, o4b⟩ := o4
              rw [hKK] at HLEN HRL ⊢
              clear hpk hdd hpi hd0 hd1 hps hrow hba eP eF hPP hFF
              go_wp2_with (first | (go_at_call 11; refine HLEN.out.mono ?_; rintro e x ⟨rfl, rfl⟩) | (go_at_call 13; refine HDEAD.out.mono ?_; rintro e x ⟨rfl, rfl⟩))
              clear HLEN HDEAD b1 b3
              go_loopw [32] (fun kv wr => ∃ j : Nat, kv = .int .i64 (j : Int) ∧ j ≤ KK ∧ Hid (Rl wr (.slice ol KK cl) FF KK) ∧ Hid (Lw y wr g (Oz m r t (F + 1) (kz) (0) false (0) [] (d + 1)))) (fun kv _ => KK + 1 - (intOf kv).toNat)
              case atStart => exact ⟨0, rfl, Nat.zero_le _, HRL, HLA⟩
              case round =>
                obtain ⟨j, rfl, hj, HR2, HL2⟩ := hrel
                clear HRL HLA
                by_cases hjk : j < KK
                · obtain ⟨av, hav, k1, nn, hnn, k2⟩ := HR2.out.at_ j hjk ol cl rfl
                  subst hav
                  have ptx : ∀ x, Calls Try.prog 21 #[.int .i64 (FF + (j : Int))] x fun e w' => e = .returned (.string (ks nn)) ∧ Below x.heap.size x w' := fun x => by rw [hnn]; exact text_any nn (by omega) _
                  have jq0 : (j : Int) < ((KK : Nat) : Int) := by omega
                  have jq1 : (0 : Int) ≤ (j : Int) := by omega
                  obtain ⟨s2, hs2⟩ : ∃ s2, ks nn = s2 := ⟨_, rfl⟩
                  rw [hs2] at ptx k2
                  have klt := World.block_lt_of_cell? _ _ k1
                  have HFIN : Hid (∀ x, Below wr.heap.size wr x → Hid (Rl x (.slice (some av) KK cl) FF KK) ∧ Hid (Lw y x g (Oz m r t (F + 1) (kz) (0) false (0) [] (d + 1)))) := fun x hx => ⟨HR2.out.below hx, HL2.out.next hx⟩
                  clear hnn hs2
                  go_wp2_with fail
                  refine Ql.region_cl (by kernel_rfl) (by kernel_rfl) ?_
                  repeat (first | go_big_quiet_skip | (go_big_quiet_want; go_big_quiet_op; first | go_big_quiet_on | (refine ⟨_, fun _ _ => rfl, ?_⟩; go_big_quiet_on) | (refine ⟨_, fun _ _ => ⟨rfl, rfl⟩, ?_⟩; go_big_quiet_on)) | (refine wpQuiet_step (fun K hK => ?_); first
                    | (refine Ql.q_cell (by rfl) 3 _ rfl _ _ rfl _ k1 klt (fun y => Try.isAgg3 y) (hK _ ?_); clear hK K; simp only [Act.put, List.setIfInBounds_toArray, List.set_cons_succ, List.set_cons_zero])
                    | (refine Ql.q_cell (by rfl) 9 _ rfl _ _ rfl _ k2 klt (fun y => Try.isAgg9 y) (hK _ ?_); clear hK K; simp only [Act.put, List.setIfInBounds_toArray, List.set_cons_succ, List.set_cons_zero])
                    | (go_simp; apply Exists.intro; refine ⟨fun y hy => ?_, hK _ ?_⟩; (go_at_call 21; exact Ql.cl_of hy (ptx _)); clear hK K)
                    | fail))
                  refine wpQuiet_nil ?_
                  intro y5 hy5
                  have HF5 := HFIN.out y5 hy5
                  clear hy5 k1 k2 klt ptx
                  go_wp2_with fail
                  exact ⟨⟨j + 1, by simp, by omega, HF5.1, HF5.2⟩, by simp only [intOf]; omega⟩
                · obtain rfl : j = KK := by omega
                  go_wp2_with fail
                  refine ⟨⟨i + 1, P, F + 1, kz, 0, false, 0, D, d + 1, by first | rfl | (push_cast; rfl), by rw [HPF.out.1], by rw [HPF.out.2], rfl, rfl, rfl, by omega, HO1, HL2⟩, by simp only [intOf]; omega⟩

          · as_aux_lemma =>
              have HO1 : Hid (Oi m r t (i + 1) P (F + 1) (jj + 1) 1 true 0 D (d + 1)) := ho1
              clear ho1
              have hts : (s != t) = false := by simp [hst0]
              have TX : Hid (∀ x, Calls Try.prog 21 #[.int .i64 ((F : Int) + 1)] x fun e w' => e = .returned (.string (ks (F + 1))) ∧ Below x.heap.size x w') := fun x => by
                have := text_any (F + 1) (by omega) x
                rw [show ((((F + 1) : Nat) : Int)) = ((F : Int) + 1) from by omega] at this
                exact this
              have NX : Hid (Calls Try.prog 22 #[.pointer (some ⟨g, 0, none⟩), .bool true] wr fun e w' => ∃ v, e = .returned (.tuple #[.agg #[.string (ks (F + 1)), v], .bool true]) ∧ PostS wr g g (Oz m r t (F + 1) (jj + 1) 1 true 0 [(F : Int)] (d + 1)) (ks (F + 1)) [] v w') := by
                have hn := next_yes HL.out.sq (HO.out.ok (by decide)) (by rw [show (Oz m r t F k s way ticks [] d).L.length = k from lof_len F k]; show 0 + k ≤ 1000000; omega)
                rw [hnx] at hn
                exact hn
              obtain ⟨mm, hmm⟩ : ∃ mm, ks (F + 1) = mm := ⟨_, rfl⟩
              rw [hmm] at NX
              have HMM : Hid (ks (F + 1) = mm) := hmm
              clear hnx hmm
              go_wp2_with fail
              refine NX.out.mono ?_
              rintro e x1 ⟨v1, rfl, -, hnl, hp⟩
              obtain rfl := hnl rfl
              have L1 : Hid (Lw y x1 g (Oz m r t (F + 1) (jj + 1) 1 true 0 [(F : Int)] (d + 1))) := HL.out.step hp
              clear hp NX
              obtain ⟨z1, hz1⟩ : ∃ z1, Hid (x1.alloc (.cells #[.string mm, .slice none 0 0] tG) = z1) := ⟨_, rfl⟩
              have U1 : Hid (Lw y z1 g (Oz m r t (F + 1) (jj + 1) 1 true 0 [(F : Int)] (d + 1))) := L1.out.next (hz1.out ▸ below_one _ _)
              have BX1 : Hid (z1.heap[x1.heap.size]? = some (.cells #[.string mm, .slice none 0 0] tG (0, 0))) := hz1.out ▸ h1_0 _ _
              go_wp2_with fail
              rw [hz1.out]
              refine (gone_any U1.out.sq).mono ?_
              rintro e x2 ⟨vg, rfl, hrg, hp⟩
              have HRG : Hid (x2.ownsRow g tI 1 vg 1 ([(F : Int)].map iv)) := hrg
              obtain ⟨og, cg, evg, -⟩ := own_form HRG.out
              have L2 : Hid (Lw y x2 g (Oz m r t (F + 1) (jj + 1) 1 true 0 [] (d + 1))) := U1.out.step hp
              have BX2 : Hid (x2.heap[x1.heap.size]? = some (.cells #[.string mm, .slice none 0 0] tG (0, 0))) := (hp.2.1.block _ _ _ _ BX1.out (by decide) (by decide) (by decide)).trans BX1.out
              clear BX1
              rcases HRG.out.2 with ⟨-, h0⟩ | ⟨rb, cap, cur, erb, -⟩
              · omega
              have hgc : x2.cell? ⟨rb, 0, none⟩ = some (.int .i64 (F : Int)) := HRG.out.cells (g := rb) (by rw [erb]; rfl) 0 (iv F) rfl
              subst erb
              clear hp hrg HRG U1 L1 hz1
              clear evg
              go_wp2_with fail
              refine wp_loop_rounds 2 ?_
              rw [rounds_succ]
              go_wp2_with fail
              rw [rounds_succ]
              go_wp2_with fail
              refine (TX.out _).mono ?_
              rintro e x3 ⟨rfl, hx3⟩
              have L3 : Hid (Lw y x3 g (Oz m r t (F + 1) (jj + 1) 1 true 0 [] (d + 1))) := L2.out.next hx3
              have bx3 := kept hx3 BX2.out
              have k3 : x3.cell? ⟨x1.heap.size, 0, none⟩ = some (.string mm) := by simp [World.cell?, bx3]
              clear bx3 BX2 L2 TX hx3
              have hfp : ¬ (P : Int) < ((F : Int) + 1) := by omega
              obtain rfl : mm = ks (F + 1) := HMM.out.symm
              have hst : ¬ t < 1 := by omega
              generalize ks (F + 1) = sF at *
              clear HMM
              go_wp2_with fail
              have HL1 := L3
              obtain ⟨PP, hPP⟩ : ∃ q, (P : Int) = q := ⟨_, rfl⟩
              obtain ⟨FF, hFF⟩ : ∃ q, (F : Int) + 1 = q := ⟨_, rfl⟩
              have HPF : Hid (PP = ((P : Nat) : Int) ∧ FF = ((F + 1 : Nat) : Int)) := ⟨hPP.symm.trans (by omega), hFF.symm.trans (by omega)⟩
              have ALL : Hid (Calls Try.prog 17 #[.pointer (some ⟨g, 0, none⟩)] x3 (PostL x3 (Oz m r t (F + 1) (jj + 1) (1) true (0) [] (d + 1)))) := all_any HL1.out.sq (HO1.out.ok (by decide))
              rw [hPP, hFF]
              refine ALL.out.mono ?_
              clear ALL
              rintro e xa ⟨vl, ps, rfl, hps, hrow, hba⟩
              have HRL : Hid (Rl xa vl FF (jj + 1)) := by rw [HPF.out.2]; exact rl_of hrow hps
              have HLA : Hid (Lw y xa g (Oz m r t (F + 1) (jj + 1) (1) true (0) [] (d + 1))) := HL1.out.next hba
              obtain ⟨ol, cl, hvl⟩ := HRL.out.form
              subst hvl
              have HLEN : Hid (Calls Try.prog 11 #[.pointer (some ⟨g, 0, none⟩)] xa fun e w' => e = .returned (.int .i64 ((jj + 1 : Nat) : Int)) ∧ w' = xa) := (len_any HLA.out.sq).mono fun e w' h => ⟨by rw [h.1, show (Oz m r t (F + 1) (jj + 1) (1) true (0) [] (d + 1)).L.length = jj + 1 from lof_len _ _], h.2⟩
              have HDEAD : Hid (Calls Try.prog 13 #[.pointer (some ⟨g, 0, none⟩)] xa fun e w' => e = .returned (.int .i64 (d + 1)) ∧ w' = xa) := dead_any HLA.out.sq
              have hpk := HO1.out.pk
              have hdd := HO1.out.dd
              have hpi := HO1.out.pi
              have hd0 := HO1.out.d0
              have hd1 := HO1.out.d1
              obtain ⟨KK, hKK⟩ : ∃ q : Nat, jj + 1 = q := ⟨_, rfl⟩
              have eP := HPF.out.1
              have eF := HPF.out.2
              have b1 : (((KK : Nat) : Int) != PP + 1 - FF) = false := by simp; omega
              have b3 : (D + (d + 1) + ((KK : Nat) : Int) != PP) = false := by simp; omega
              have o1 : (0 : Int) ≤ PP ∧ PP ≤ 400 := by omega
              have o2 : (1 : Int) ≤ FF ∧ FF ≤ 401 := by have := HO1.out.f0; omega
              have o3 : ((KK : Nat) : Int) ≤ 401 := by omega
              have o4 : D ≤ 401 ∧ (d + 1) ≤ 401 := by omega
              obtain ⟨o1a, o1b⟩ := o1
              obtain ⟨o2a, o2b⟩ := o2
              obtain ⟨o4a, o4b⟩ := o4
              rw [hKK] at HLEN HRL ⊢
              clear hpk hdd hpi hd0 hd1 hps hrow hba eP eF hPP hFF
              go_wp2_with (first | (go_at_call 11; refine HLEN.out.mono ?_; rintro e x ⟨rfl, rfl⟩) | (go_at_call 13; refine HDEAD.out.mono ?_; rintro e x ⟨rfl, rfl⟩))
              clear HLEN HDEAD b1 b3
              go_loopw [32] (fun kv wr => ∃ j : Nat, kv = .int .i64 (j : Int) ∧ j ≤ KK ∧ Hid (Rl wr (.slice ol KK cl) FF KK) ∧ Hid (Lw y wr g (Oz m r t (F + 1) (jj + 1) (1) true (0) [] (d + 1)))) (fun kv _ => KK + 1 - (intOf kv).toNat)
              case atStart => exact ⟨0, rfl, Nat.zero_le _, HRL, HLA⟩
              case round =>
                obtain ⟨j, rfl, hj, HR2, HL2⟩ := hrel
                clear HRL HLA
                by_cases hjk : j < KK
                · obtain ⟨av, hav, k1, nn, hnn, k2⟩ := HR2.out.at_ j hjk ol cl rfl
                  subst hav
                  have ptx : ∀ x, Calls Try.prog 21 #[.int .i64 (FF + (j : Int))] x fun e w' => e = .returned (.string (ks nn)) ∧ Below x.heap.size x w' := fun x => by rw [hnn]; exact text_any nn (by omega) _
                  have jq0 : (j : Int) < ((KK : Nat) : Int) := by omega
                  have jq1 : (0 : Int) ≤ (j : Int) := by omega
                  obtain ⟨s2, hs2⟩ : ∃ s2, ks nn = s2 := ⟨_, rfl⟩
                  rw [hs2] at ptx k2
                  have klt := World.block_lt_of_cell? _ _ k1
                  have HFIN : Hid (∀ x, Below wr.heap.size wr x → Hid (Rl x (.slice (some av) KK cl) FF KK) ∧ Hid (Lw y x g (Oz m r t (F + 1) (jj + 1) (1) true (0) [] (d + 1)))) := fun x hx => ⟨HR2.out.below hx, HL2.out.next hx⟩
                  clear hnn hs2
                  go_wp2_with fail
                  refine Ql.region_cl (by kernel_rfl) (by kernel_rfl) ?_
                  repeat (first | go_big_quiet_skip | (go_big_quiet_want; go_big_quiet_op; first | go_big_quiet_on | (refine ⟨_, fun _ _ => rfl, ?_⟩; go_big_quiet_on) | (refine ⟨_, fun _ _ => ⟨rfl, rfl⟩, ?_⟩; go_big_quiet_on)) | (refine wpQuiet_step (fun K hK => ?_); first
                    | (refine Ql.q_cell (by rfl) 3 _ rfl _ _ rfl _ k1 klt (fun y => Try.isAgg3 y) (hK _ ?_); clear hK K; simp only [Act.put, List.setIfInBounds_toArray, List.set_cons_succ, List.set_cons_zero])
                    | (refine Ql.q_cell (by rfl) 9 _ rfl _ _ rfl _ k2 klt (fun y => Try.isAgg9 y) (hK _ ?_); clear hK K; simp only [Act.put, List.setIfInBounds_toArray, List.set_cons_succ, List.set_cons_zero])
                    | (go_simp; apply Exists.intro; refine ⟨fun y hy => ?_, hK _ ?_⟩; (go_at_call 21; exact Ql.cl_of hy (ptx _)); clear hK K)
                    | fail))
                  refine wpQuiet_nil ?_
                  intro y5 hy5
                  have HF5 := HFIN.out y5 hy5
                  clear hy5 k1 k2 klt ptx
                  go_wp2_with fail
                  exact ⟨⟨j + 1, by simp, by omega, HF5.1, HF5.2⟩, by simp only [intOf]; omega⟩
                · obtain rfl : j = KK := by omega
                  go_wp2_with fail
                  refine ⟨⟨i + 1, P, F + 1, jj + 1, 1, true, 0, D, d + 1, by first | rfl | (push_cast; rfl), by rw [HPF.out.1], by rw [HPF.out.2], rfl, rfl, rfl, by omega, HO1, HL2⟩, by simp only [intOf]; omega⟩


      · as_aux_lemma =>
          subst hA
          go_wp2_with fail
          go_loopw [28] (fun kv wr => ∃ (q : Int) (tq : Int), kv = .int .i64 q ∧ 0 ≤ q ∧ q ≤ r ∧ Hid (Oi m r t i P F k s way tq D d) ∧ Hid (Lw y wr g (Oz m r t F k s way tq [] d))) (fun kv _ => (r + 1 - intOf kv).toNat)
          case atStart => exact ⟨0, ticks, rfl, by omega, by omega, HO, HL⟩
          case round =>
            obtain ⟨q, tq, rfl, hq0, hq1, HOq, HLq⟩ := hrel
            by_cases hqr : q < r
            · go_wp2_with fail
              refine (tick_any HLq.out.sq (HOq.out.ok (by decide))).mono ?_
              rintro e x1 ⟨rfl, hp⟩
              rw [tick_os] at hp
              have T5 : Hid (Lw y x1 g (Oz m r t F k s way (if tq < r then tq + 1 else tq) [] d)) := HLq.out.step hp
              have HO5 : Hid (Oi m r t i P F k s way (if tq < r then tq + 1 else tq) D d) := HOq.out.tick
              clear hp
              go_wp2_with fail
              exact ⟨⟨q + 1, _, rfl, by omega, by omega, HO5, T5⟩, by simp only [intOf]; omega⟩
            · have HO1 : Hid (Oi m r t (i + 1) P F k s way tq D d) := HOq.out.same hi41
              have HL1 := HLq
              go_wp2_with fail
              obtain ⟨PP, hPP⟩ : ∃ q, (P : Int) = q := ⟨_, rfl⟩
              obtain ⟨FF, hFF⟩ : ∃ q, (F : Int) = q := ⟨_, rfl⟩
              have HPF : Hid (PP = ((P : Nat) : Int) ∧ FF = ((F : Nat) : Int)) := ⟨hPP.symm.trans (by omega), hFF.symm.trans (by omega)⟩
              have ALL : Hid (Calls Try.prog 17 #[.pointer (some ⟨g, 0, none⟩)] wr (PostL wr (Oz m r t (F) (k) (s) way (tq) [] (d)))) := all_any HL1.out.sq (HO1.out.ok (by decide))
              rw [hPP, hFF]
              refine ALL.out.mono ?_
              clear ALL
              rintro e xa ⟨vl, ps, rfl, hps, hrow, hba⟩
              have HRL : Hid (Rl xa vl FF (k)) := by rw [HPF.out.2]; exact rl_of hrow hps
              have HLA : Hid (Lw y xa g (Oz m r t (F) (k) (s) way (tq) [] (d))) := HL1.out.next hba
              obtain ⟨ol, cl, hvl⟩ := HRL.out.form
              subst hvl
              have HLEN : Hid (Calls Try.prog 11 #[.pointer (some ⟨g, 0, none⟩)] xa fun e w' => e = .returned (.int .i64 ((k : Nat) : Int)) ∧ w' = xa) := (len_any HLA.out.sq).mono fun e w' h => ⟨by rw [h.1, show (Oz m r t (F) (k) (s) way (tq) [] (d)).L.length = k from lof_len _ _], h.2⟩
              have HDEAD : Hid (Calls Try.prog 13 #[.pointer (some ⟨g, 0, none⟩)] xa fun e w' => e = .returned (.int .i64 (d)) ∧ w' = xa) := dead_any HLA.out.sq
              have hpk := HO1.out.pk
              have hdd := HO1.out.dd
              have hpi := HO1.out.pi
              have hd0 := HO1.out.d0
              have hd1 := HO1.out.d1
              obtain ⟨KK, hKK⟩ : ∃ q : Nat, k = q := ⟨_, rfl⟩
              have eP := HPF.out.1
              have eF := HPF.out.2
              have b1 : (((KK : Nat) : Int) != PP + 1 - FF) = false := by simp; omega
              have b3 : (D + d + ((KK : Nat) : Int) != PP) = false := by simp; omega
              have o1 : (0 : Int) ≤ PP ∧ PP ≤ 400 := by omega
              have o2 : (1 : Int) ≤ FF ∧ FF ≤ 401 := by have := HO1.out.f0; omega
              have o3 : ((KK : Nat) : Int) ≤ 401 := by omega
              have o4 : D ≤ 401 ∧ d ≤ 401 := by omega
              obtain ⟨o1a, o1b⟩ := o1
              obtain ⟨o2a, o2b⟩ := o2
              obtain ⟨o4a, o4b⟩ := o4
              rw [hKK] at HLEN HRL ⊢
              clear hpk hdd hpi hd0 hd1 hps hrow hba eP eF hPP hFF
              go_wp2_with (first | (go_at_call 11; refine HLEN.out.mono ?_; rintro e x ⟨rfl, rfl⟩) | (go_at_call 13; refine HDEAD.out.mono ?_; rintro e x ⟨rfl, rfl⟩))
              clear HLEN HDEAD b1 b3
              go_loopw [32] (fun kv wr => ∃ j : Nat, kv = .int .i64 (j : Int) ∧ j ≤ KK ∧ Hid (Rl wr (.slice ol KK cl) FF KK) ∧ Hid (Lw y wr g (Oz m r t (F) (k) (s) way (tq) [] (d)))) (fun kv _ => KK + 1 - (intOf kv).toNat)
              case atStart => exact ⟨0, rfl, Nat.zero_le _, HRL, HLA⟩
              case round =>
                obtain ⟨j, rfl, hj, HR2, HL2⟩ := hrel
                clear HRL HLA
                by_cases hjk : j < KK
                · obtain ⟨av, hav, k1, nn, hnn, k2⟩ := HR2.out.at_ j hjk ol cl rfl
                  subst hav
                  have ptx : ∀ x, Calls Try.prog 21 #[.int .i64 (FF + (j : Int))] x fun e w' => e = .returned (.string (ks nn)) ∧ Below x.heap.size x w' := fun x => by rw [hnn]; exact text_any nn (by omega) _
                  have jq0 : (j : Int) < ((KK : Nat) : Int) := by omega
                  have jq1 : (0 : Int) ≤ (j : Int) := by omega
                  obtain ⟨s2, hs2⟩ : ∃ s2, ks nn = s2 := ⟨_, rfl⟩
                  rw [hs2] at ptx k2
                  have klt := World.block_lt_of_cell? _ _ k1
                  have HFIN : Hid (∀ x, Below wr.heap.size wr x → Hid (Rl x (.slice (some av) KK cl) FF KK) ∧ Hid (Lw y x g (Oz m r t (F) (k) (s) way (tq) [] (d)))) := fun x hx => ⟨HR2.out.below hx, HL2.out.next hx⟩
                  clear hnn hs2
                  go_wp2_with fail
                  refine Ql.region_cl (by kernel_rfl) (by kernel_rfl) ?_
                  repeat (first | go_big_quiet_skip | (go_big_quiet_want; go_big_quiet_op; first | go_big_quiet_on | (refine ⟨_, fun _ _ => rfl, ?_⟩; go_big_quiet_on) | (refine ⟨_, fun _ _ => ⟨rfl, rfl⟩, ?_⟩; go_big_quiet_on)) | (refine wpQuiet_step (fun K hK => ?_); first
                    | (refine Ql.q_cell (by rfl) 3 _ rfl _ _ rfl _ k1 klt (fun y => Try.isAgg3 y) (hK _ ?_); clear hK K; simp only [Act.put, List.setIfInBounds_toArray, List.set_cons_succ, List.set_cons_zero])
                    | (refine Ql.q_cell (by rfl) 9 _ rfl _ _ rfl _ k2 klt (fun y => Try.isAgg9 y) (hK _ ?_); clear hK K; simp only [Act.put, List.setIfInBounds_toArray, List.set_cons_succ, List.set_cons_zero])
                    | (go_simp; apply Exists.intro; refine ⟨fun y hy => ?_, hK _ ?_⟩; (go_at_call 21; exact Ql.cl_of hy (ptx _)); clear hK K)
                    | fail))
                  refine wpQuiet_nil ?_
                  intro y5 hy5
                  have HF5 := HFIN.out y5 hy5
                  clear hy5 k1 k2 klt ptx
                  go_wp2_with fail
                  exact ⟨⟨j + 1, by simp, by omega, HF5.1, HF5.2⟩, by simp only [intOf]; omega⟩
                · obtain rfl : j = KK := by omega
                  go_wp2_with fail
                  refine ⟨⟨i + 1, P, F, k, s, way, tq, D, d, by first | rfl | (push_cast; rfl), by rw [HPF.out.1], by rw [HPF.out.2], rfl, rfl, rfl, by omega, HO1, HL2⟩, by simp only [intOf]; omega⟩

      · as_aux_lemma =>
          subst hA
          go_wp2_with fail
          refine (tick_any HL.out.sq (HO.out.ok (by decide))).mono ?_
          rintro e x1 ⟨rfl, hp⟩
          rw [tick_os] at hp
          have HL1 : Hid (Lw y x1 g (Oz m r t F k s way (if ticks < r then ticks + 1 else ticks) [] d)) := HL.out.step hp
          have HO1 : Hid (Oi m r t (i + 1) P F k s way (if ticks < r then ticks + 1 else ticks) D d) := (HO.out.same hi41).tick
          clear hp
          go_wp2_with fail
          obtain ⟨PP, hPP⟩ : ∃ q, (P : Int) = q := ⟨_, rfl⟩
          obtain ⟨FF, hFF⟩ : ∃ q, (F : Int) = q := ⟨_, rfl⟩
          have HPF : Hid (PP = ((P : Nat) : Int) ∧ FF = ((F : Nat) : Int)) := ⟨hPP.symm.trans (by omega), hFF.symm.trans (by omega)⟩
          have ALL : Hid (Calls Try.prog 17 #[.pointer (some ⟨g, 0, none⟩)] x1 (PostL x1 (Oz m r t (F) (k) (s) way (if ticks < r then ticks + 1 else ticks) [] (d)))) := all_any HL1.out.sq (HO1.out.ok (by decide))
          rw [hPP, hFF]
          refine ALL.out.mono ?_
          clear ALL
          rintro e xa ⟨vl, ps, rfl, hps, hrow, hba⟩
          have HRL : Hid (Rl xa vl FF (k)) := by rw [HPF.out.2]; exact rl_of hrow hps
          have HLA : Hid (Lw y xa g (Oz m r t (F) (k) (s) way (if ticks < r then ticks + 1 else ticks) [] (d))) := HL1.out.next hba
          obtain ⟨ol, cl, hvl⟩ := HRL.out.form
          subst hvl
          have HLEN : Hid (Calls Try.prog 11 #[.pointer (some ⟨g, 0, none⟩)] xa fun e w' => e = .returned (.int .i64 ((k : Nat) : Int)) ∧ w' = xa) := (len_any HLA.out.sq).mono fun e w' h => ⟨by rw [h.1, show (Oz m r t (F) (k) (s) way (if ticks < r then ticks + 1 else ticks) [] (d)).L.length = k from lof_len _ _], h.2⟩
          have HDEAD : Hid (Calls Try.prog 13 #[.pointer (some ⟨g, 0, none⟩)] xa fun e w' => e = .returned (.int .i64 (d)) ∧ w' = xa) := dead_any HLA.out.sq
          have hpk := HO1.out.pk
          have hdd := HO1.out.dd
          have hpi := HO1.out.pi
          have hd0 := HO1.out.d0
          have hd1 := HO1.out.d1
          obtain ⟨KK, hKK⟩ : ∃ q : Nat, k = q := ⟨_, rfl⟩
          have eP := HPF.out.1
          have eF := HPF.out.2
          have b1 : (((KK : Nat) : Int) != PP + 1 - FF) = false := by simp; omega
          have b3 : (D + d + ((KK : Nat) : Int) != PP) = false := by simp; omega
          have o1 : (0 : Int) ≤ PP ∧ PP ≤ 400 := by omega
          have o2 : (1 : Int) ≤ FF ∧ FF ≤ 401 := by have := HO1.out.f0; omega
          have o3 : ((KK : Nat) : Int) ≤ 401 := by omega
          have o4 : D ≤ 401 ∧ d ≤ 401 := by omega
          obtain ⟨o1a, o1b⟩ := o1
          obtain ⟨o2a, o2b⟩ := o2
          obtain ⟨o4a, o4b⟩ := o4
          rw [hKK] at HLEN HRL ⊢
          clear hpk hdd hpi hd0 hd1 hps hrow hba eP eF hPP hFF
          go_wp2_with (first | (go_at_call 11; refine HLEN.out.mono ?_; rintro e x ⟨rfl, rfl⟩) | (go_at_call 13; refine HDEAD.out.mono ?_; rintro e x ⟨rfl, rfl⟩))
          clear HLEN HDEAD b1 b3
          go_loopw [32] (fun kv wr => ∃ j : Nat, kv = .int .i64 (j : Int) ∧ j ≤ KK ∧ Hid (Rl wr (.slice ol KK cl) FF KK) ∧ Hid (Lw y wr g (Oz m r t (F) (k) (s) way (if ticks < r then ticks + 1 else ticks) [] (d)))) (fun kv _ => KK + 1 - (intOf kv).toNat)
          case atStart => exact ⟨0, rfl, Nat.zero_le _, HRL, HLA⟩
          case round =>
            obtain ⟨j, rfl, hj, HR2, HL2⟩ := hrel
            clear HRL HLA
            by_cases hjk : j < KK
            · obtain ⟨av, hav, k1, nn, hnn, k2⟩ := HR2.out.at_ j hjk ol cl rfl
              subst hav
              have ptx : ∀ x, Calls Try.prog 21 #[.int .i64 (FF + (j : Int))] x fun e w' => e = .returned (.string (ks nn)) ∧ Below x.heap.size x w' := fun x => by rw [hnn]; exact text_any nn (by omega) _
              have jq0 : (j : Int) < ((KK : Nat) : Int) := by omega
              have jq1 : (0 : Int) ≤ (j : Int) := by omega
              obtain ⟨s2, hs2⟩ : ∃ s2, ks nn = s2 := ⟨_, rfl⟩
              rw [hs2] at ptx k2
              have klt := World.block_lt_of_cell? _ _ k1
              have HFIN : Hid (∀ x, Below wr.heap.size wr x → Hid (Rl x (.slice (some av) KK cl) FF KK) ∧ Hid (Lw y x g (Oz m r t (F) (k) (s) way (if ticks < r then ticks + 1 else ticks) [] (d)))) := fun x hx => ⟨HR2.out.below hx, HL2.out.next hx⟩
              clear hnn hs2
              go_wp2_with fail
              refine Ql.region_cl (by kernel_rfl) (by kernel_rfl) ?_
              repeat (first | go_big_quiet_skip | (go_big_quiet_want; go_big_quiet_op; first | go_big_quiet_on | (refine ⟨_, fun _ _ => rfl, ?_⟩; go_big_quiet_on) | (refine ⟨_, fun _ _ => ⟨rfl, rfl⟩, ?_⟩; go_big_quiet_on)) | (refine wpQuiet_step (fun K hK => ?_); first
                | (refine Ql.q_cell (by rfl) 3 _ rfl _ _ rfl _ k1 klt (fun y => Try.isAgg3 y) (hK _ ?_); clear hK K; simp only [Act.put, List.setIfInBounds_toArray, List.set_cons_succ, List.set_cons_zero])
                | (refine Ql.q_cell (by rfl) 9 _ rfl _ _ rfl _ k2 klt (fun y => Try.isAgg9 y) (hK _ ?_); clear hK K; simp only [Act.put, List.setIfInBounds_toArray, List.set_cons_succ, List.set_cons_zero])
                | (go_simp; apply Exists.intro; refine ⟨fun y hy => ?_, hK _ ?_⟩; (go_at_call 21; exact Ql.cl_of hy (ptx _)); clear hK K)
                | fail))
              refine wpQuiet_nil ?_
              intro y5 hy5
              have HF5 := HFIN.out y5 hy5
              clear hy5 k1 k2 klt ptx
              go_wp2_with fail
              exact ⟨⟨j + 1, by simp, by omega, HF5.1, HF5.2⟩, by simp only [intOf]; omega⟩
            · obtain rfl : j = KK := by omega
              go_wp2_with fail
              refine ⟨⟨i + 1, P, F, k, s, way, if ticks < r then ticks + 1 else ticks, D, d, by first | rfl | (push_cast; rfl), by rw [HPF.out.1], by rw [HPF.out.2], rfl, rfl, rfl, by omega, HO1, HL2⟩, by simp only [intOf]; omega⟩

      · as_aux_lemma =>
          subst hA
          cases hwy : way with
          | false =>
            have HO1 : Hid (Oi m r t (i + 1) P F k s false ticks D d) := by have := HO.out.same hi41; rw [hwy] at this; exact this
            have HLf : Hid (Lw y wr g (Oz m r t F k s false ticks [] d)) := by have := HL.out; rw [hwy] at this; exact this
            clear HL HO hwy
            go_wp2_with fail
            refine (answer_idle HLf.out.sq rfl (F : Int)).mono ?_
            rintro e x1 ⟨rfl, hp⟩
            have HL1 : Hid (Lw y x1 g (Oz m r t F k s false ticks [] d)) := HLf.out.step hp
            clear hp HLf
            go_wp2_with fail
            obtain ⟨PP, hPP⟩ : ∃ q, (P : Int) = q := ⟨_, rfl⟩
            obtain ⟨FF, hFF⟩ : ∃ q, (F : Int) = q := ⟨_, rfl⟩
            have HPF : Hid (PP = ((P : Nat) : Int) ∧ FF = ((F : Nat) : Int)) := ⟨hPP.symm.trans (by omega), hFF.symm.trans (by omega)⟩
            have ALL : Hid (Calls Try.prog 17 #[.pointer (some ⟨g, 0, none⟩)] x1 (PostL x1 (Oz m r t (F) (k) (s) false (ticks) [] (d)))) := all_any HL1.out.sq (HO1.out.ok (by decide))
            rw [hPP, hFF]
            refine ALL.out.mono ?_
            clear ALL
            rintro e xa ⟨vl, ps, rfl, hps, hrow, hba⟩
            have HRL : Hid (Rl xa vl FF (k)) := by rw [HPF.out.2]; exact rl_of hrow hps
            have HLA : Hid (Lw y xa g (Oz m r t (F) (k) (s) false (ticks) [] (d))) := HL1.out.next hba
            obtain ⟨ol, cl, hvl⟩ := HRL.out.form
            subst hvl
            have HLEN : Hid (Calls Try.prog 11 #[.pointer (some ⟨g, 0, none⟩)] xa fun e w' => e = .returned (.int .i64 ((k : Nat) : Int)) ∧ w' = xa) := (len_any HLA.out.sq).mono fun e w' h => ⟨by rw [h.1, show (Oz m r t (F) (k) (s) false (ticks) [] (d)).L.length = k from lof_len _ _], h.2⟩
            have HDEAD : Hid (Calls Try.prog 13 #[.pointer (some ⟨g, 0, none⟩)] xa fun e w' => e = .returned (.int .i64 (d)) ∧ w' = xa) := dead_any HLA.out.sq
            have hpk := HO1.out.pk
            have hdd := HO1.out.dd
            have hpi := HO1.out.pi
            have hd0 := HO1.out.d0
            have hd1 := HO1.out.d1
            obtain ⟨KK, hKK⟩ : ∃ q : Nat, k = q := ⟨_, rfl⟩
            have eP := HPF.out.1
            have eF := HPF.out.2
            have b1 : (((KK : Nat) : Int) != PP + 1 - FF) = false := by simp; omega
            have b3 : (D + d + ((KK : Nat) : Int) != PP) = false := by simp; omega
            have o1 : (0 : Int) ≤ PP ∧ PP ≤ 400 := by omega
            have o2 : (1 : Int) ≤ FF ∧ FF ≤ 401 := by have := HO1.out.f0; omega
            have o3 : ((KK : Nat) : Int) ≤ 401 := by omega
            have o4 : D ≤ 401 ∧ d ≤ 401 := by omega
            obtain ⟨o1a, o1b⟩ := o1
            obtain ⟨o2a, o2b⟩ := o2
            obtain ⟨o4a, o4b⟩ := o4
            rw [hKK] at HLEN HRL ⊢
            clear hpk hdd hpi hd0 hd1 hps hrow hba eP eF hPP hFF
            go_wp2_with (first | (go_at_call 11; refine HLEN.out.mono ?_; rintro e x ⟨rfl, rfl⟩) | (go_at_call 13; refine HDEAD.out.mono ?_; rintro e x ⟨rfl, rfl⟩))
            clear HLEN HDEAD b1 b3
            go_loopw [32] (fun kv wr => ∃ j : Nat, kv = .int .i64 (j : Int) ∧ j ≤ KK ∧ Hid (Rl wr (.slice ol KK cl) FF KK) ∧ Hid (Lw y wr g (Oz m r t (F) (k) (s) false (ticks) [] (d)))) (fun kv _ => KK + 1 - (intOf kv).toNat)
            case atStart => exact ⟨0, rfl, Nat.zero_le _, HRL, HLA⟩
            case round =>
              obtain ⟨j, rfl, hj, HR2, HL2⟩ := hrel
              clear HRL HLA
              by_cases hjk : j < KK
              · obtain ⟨av, hav, k1, nn, hnn, k2⟩ := HR2.out.at_ j hjk ol cl rfl
                subst hav
                have ptx : ∀ x, Calls Try.prog 21 #[.int .i64 (FF + (j : Int))] x fun e w' => e = .returned (.string (ks nn)) ∧ Below x.heap.size x w' := fun x => by rw [hnn]; exact text_any nn (by omega) _
                have jq0 : (j : Int) < ((KK : Nat) : Int) := by omega
                have jq1 : (0 : Int) ≤ (j : Int) := by omega
                obtain ⟨s2, hs2⟩ : ∃ s2, ks nn = s2 := ⟨_, rfl⟩
                rw [hs2] at ptx k2
                have klt := World.block_lt_of_cell? _ _ k1
                have HFIN : Hid (∀ x, Below wr.heap.size wr x → Hid (Rl x (.slice (some av) KK cl) FF KK) ∧ Hid (Lw y x g (Oz m r t (F) (k) (s) false (ticks) [] (d)))) := fun x hx => ⟨HR2.out.below hx, HL2.out.next hx⟩
                clear hnn hs2
                go_wp2_with fail
                refine Ql.region_cl (by kernel_rfl) (by kernel_rfl) ?_
                repeat (first | go_big_quiet_skip | (go_big_quiet_want; go_big_quiet_op; first | go_big_quiet_on | (refine ⟨_, fun _ _ => rfl, ?_⟩; go_big_quiet_on) | (refine ⟨_, fun _ _ => ⟨rfl, rfl⟩, ?_⟩; go_big_quiet_on)) | (refine wpQuiet_step (fun K hK => ?_); first
                  | (refine Ql.q_cell (by rfl) 3 _ rfl _ _ rfl _ k1 klt (fun y => Try.isAgg3 y) (hK _ ?_); clear hK K; simp only [Act.put, List.setIfInBounds_toArray, List.set_cons_succ, List.set_cons_zero])
                  | (refine Ql.q_cell (by rfl) 9 _ rfl _ _ rfl _ k2 klt (fun y => Try.isAgg9 y) (hK _ ?_); clear hK K; simp only [Act.put, List.setIfInBounds_toArray, List.set_cons_succ, List.set_cons_zero])
                  | (go_simp; apply Exists.intro; refine ⟨fun y hy => ?_, hK _ ?_⟩; (go_at_call 21; exact Ql.cl_of hy (ptx _)); clear hK K)
                  | fail))
                refine wpQuiet_nil ?_
                intro y5 hy5
                have HF5 := HFIN.out y5 hy5
                clear hy5 k1 k2 klt ptx
                go_wp2_with fail
                exact ⟨⟨j + 1, by simp, by omega, HF5.1, HF5.2⟩, by simp only [intOf]; omega⟩
              · obtain rfl : j = KK := by omega
                go_wp2_with fail
                refine ⟨⟨i + 1, P, F, k, s, false, ticks, D, d, by first | rfl | (push_cast; rfl), by rw [HPF.out.1], by rw [HPF.out.2], rfl, rfl, rfl, by omega, HO1, HL2⟩, by simp only [intOf]; omega⟩

          | true =>
            have hwk := HO.out.wk hwy
            obtain ⟨jj, hj⟩ : ∃ jj, k = jj + 1 := ⟨k - 1, by omega⟩
            subst hj
            have HO1 : Hid (Oi m r t (i + 1) P (F + 1) jj 0 false 0 (D + 1) d) := HO.out.ans hi41
            have AN : Hid (Calls Try.prog 25 #[.pointer (some ⟨g, 0, none⟩), .int .i64 (F : Int)] wr fun e w' => e = .returned (.bool true) ∧ PQ wr g g (Oz m r t (F + 1) jj 0 false 0 [] d) w') := by
              have h1 := answer_way HL.out.sq (HO.out.ok (by decide)) hwy (adv F) (lof (F + 1) jj) rfl (F : Int)
              have e1 : ((adv F).no == (F : Int)) = true := by simp [adv]
              rw [e1] at h1
              exact h1
            have hsz : (s == 0) = false := by simp; omega
            have hfp : ¬ (P : Int) < (F : Int) := by omega
            clear hwk hwy
            go_wp2_with fail
            refine AN.out.mono ?_
            rintro e x1 ⟨rfl, hp⟩
            have HL1 : Hid (Lw y x1 g (Oz m r t (F + 1) jj 0 false 0 [] d)) := HL.out.step hp
            clear hp AN
            go_wp2_with fail
            obtain ⟨PP, hPP⟩ : ∃ q, (P : Int) = q := ⟨_, rfl⟩
            obtain ⟨FF, hFF⟩ : ∃ q, (F : Int) + 1 = q := ⟨_, rfl⟩
            have HPF : Hid (PP = ((P : Nat) : Int) ∧ FF = ((F + 1 : Nat) : Int)) := ⟨hPP.symm.trans (by omega), hFF.symm.trans (by omega)⟩
            have ALL : Hid (Calls Try.prog 17 #[.pointer (some ⟨g, 0, none⟩)] x1 (PostL x1 (Oz m r t (F + 1) (jj) (0) false (0) [] (d)))) := all_any HL1.out.sq (HO1.out.ok (by decide))
            rw [hPP, hFF]
            refine ALL.out.mono ?_
            clear ALL
            rintro e xa ⟨vl, ps, rfl, hps, hrow, hba⟩
            have HRL : Hid (Rl xa vl FF (jj)) := by rw [HPF.out.2]; exact rl_of hrow hps
            have HLA : Hid (Lw y xa g (Oz m r t (F + 1) (jj) (0) false (0) [] (d))) := HL1.out.next hba
            obtain ⟨ol, cl, hvl⟩ := HRL.out.form
            subst hvl
            have HLEN : Hid (Calls Try.prog 11 #[.pointer (some ⟨g, 0, none⟩)] xa fun e w' => e = .returned (.int .i64 ((jj : Nat) : Int)) ∧ w' = xa) := (len_any HLA.out.sq).mono fun e w' h => ⟨by rw [h.1, show (Oz m r t (F + 1) (jj) (0) false (0) [] (d)).L.length = jj from lof_len _ _], h.2⟩
            have HDEAD : Hid (Calls Try.prog 13 #[.pointer (some ⟨g, 0, none⟩)] xa fun e w' => e = .returned (.int .i64 (d)) ∧ w' = xa) := dead_any HLA.out.sq
            have hpk := HO1.out.pk
            have hdd := HO1.out.dd
            have hpi := HO1.out.pi
            have hd0 := HO1.out.d0
            have hd1 := HO1.out.d1
            obtain ⟨KK, hKK⟩ : ∃ q : Nat, jj = q := ⟨_, rfl⟩
            have eP := HPF.out.1
            have eF := HPF.out.2
            have b1 : (((KK : Nat) : Int) != PP + 1 - FF) = false := by simp; omega
            have b3 : ((D + 1) + d + ((KK : Nat) : Int) != PP) = false := by simp; omega
            have o1 : (0 : Int) ≤ PP ∧ PP ≤ 400 := by omega
            have o2 : (1 : Int) ≤ FF ∧ FF ≤ 401 := by have := HO1.out.f0; omega
            have o3 : ((KK : Nat) : Int) ≤ 401 := by omega
            have o4 : (D + 1) ≤ 401 ∧ d ≤ 401 := by omega
            obtain ⟨o1a, o1b⟩ := o1
            obtain ⟨o2a, o2b⟩ := o2
            obtain ⟨o4a, o4b⟩ := o4
            rw [hKK] at HLEN HRL ⊢
            clear hpk hdd hpi hd0 hd1 hps hrow hba eP eF hPP hFF
            go_wp2_with (first | (go_at_call 11; refine HLEN.out.mono ?_; rintro e x ⟨rfl, rfl⟩) | (go_at_call 13; refine HDEAD.out.mono ?_; rintro e x ⟨rfl, rfl⟩))
            clear HLEN HDEAD b1 b3
            go_loopw [32] (fun kv wr => ∃ j : Nat, kv = .int .i64 (j : Int) ∧ j ≤ KK ∧ Hid (Rl wr (.slice ol KK cl) FF KK) ∧ Hid (Lw y wr g (Oz m r t (F + 1) (jj) (0) false (0) [] (d)))) (fun kv _ => KK + 1 - (intOf kv).toNat)
            case atStart => exact ⟨0, rfl, Nat.zero_le _, HRL, HLA⟩
            case round =>
              obtain ⟨j, rfl, hj, HR2, HL2⟩ := hrel
              clear HRL HLA
              by_cases hjk : j < KK
              · obtain ⟨av, hav, k1, nn, hnn, k2⟩ := HR2.out.at_ j hjk ol cl rfl
                subst hav
                have ptx : ∀ x, Calls Try.prog 21 #[.int .i64 (FF + (j : Int))] x fun e w' => e = .returned (.string (ks nn)) ∧ Below x.heap.size x w' := fun x => by rw [hnn]; exact text_any nn (by omega) _
                have jq0 : (j : Int) < ((KK : Nat) : Int) := by omega
                have jq1 : (0 : Int) ≤ (j : Int) := by omega
                obtain ⟨s2, hs2⟩ : ∃ s2, ks nn = s2 := ⟨_, rfl⟩
                rw [hs2] at ptx k2
                have klt := World.block_lt_of_cell? _ _ k1
                have HFIN : Hid (∀ x, Below wr.heap.size wr x → Hid (Rl x (.slice (some av) KK cl) FF KK) ∧ Hid (Lw y x g (Oz m r t (F + 1) (jj) (0) false (0) [] (d)))) := fun x hx => ⟨HR2.out.below hx, HL2.out.next hx⟩
                clear hnn hs2
                go_wp2_with fail
                refine Ql.region_cl (by kernel_rfl) (by kernel_rfl) ?_
                repeat (first | go_big_quiet_skip | (go_big_quiet_want; go_big_quiet_op; first | go_big_quiet_on | (refine ⟨_, fun _ _ => rfl, ?_⟩; go_big_quiet_on) | (refine ⟨_, fun _ _ => ⟨rfl, rfl⟩, ?_⟩; go_big_quiet_on)) | (refine wpQuiet_step (fun K hK => ?_); first
                  | (refine Ql.q_cell (by rfl) 3 _ rfl _ _ rfl _ k1 klt (fun y => Try.isAgg3 y) (hK _ ?_); clear hK K; simp only [Act.put, List.setIfInBounds_toArray, List.set_cons_succ, List.set_cons_zero])
                  | (refine Ql.q_cell (by rfl) 9 _ rfl _ _ rfl _ k2 klt (fun y => Try.isAgg9 y) (hK _ ?_); clear hK K; simp only [Act.put, List.setIfInBounds_toArray, List.set_cons_succ, List.set_cons_zero])
                  | (go_simp; apply Exists.intro; refine ⟨fun y hy => ?_, hK _ ?_⟩; (go_at_call 21; exact Ql.cl_of hy (ptx _)); clear hK K)
                  | fail))
                refine wpQuiet_nil ?_
                intro y5 hy5
                have HF5 := HFIN.out y5 hy5
                clear hy5 k1 k2 klt ptx
                go_wp2_with fail
                exact ⟨⟨j + 1, by simp, by omega, HF5.1, HF5.2⟩, by simp only [intOf]; omega⟩
              · obtain rfl : j = KK := by omega
                go_wp2_with fail
                refine ⟨⟨i + 1, P, F + 1, jj, 0, false, 0, D + 1, d, by first | rfl | (push_cast; rfl), by rw [HPF.out.1], by rw [HPF.out.2], rfl, rfl, rfl, by omega, HO1, HL2⟩, by simp only [intOf]; omega⟩

      · as_aux_lemma =>
          subst hA
          go_wp2_with fail
          refine (break_any HL.out.sq).mono ?_
          rintro e x1 ⟨rfl, hp⟩
          have L1 : Hid (Lw y x1 g (Oz m r t F k s false ticks [] d)) := HL.out.step hp
          clear hp
          go_wp2_with fail
          refine (answer_idle L1.out.sq rfl (F : Int)).mono ?_
          rintro e x2 ⟨rfl, hp⟩
          have HL1 : Hid (Lw y x2 g (Oz m r t F k s false ticks [] d)) := L1.out.step hp
          have HO1 : Hid (Oi m r t (i + 1) P F k s false ticks D d) := (HO.out.same hi41).brk
          clear hp L1
          go_wp2_with fail
          obtain ⟨PP, hPP⟩ : ∃ q, (P : Int) = q := ⟨_, rfl⟩
          obtain ⟨FF, hFF⟩ : ∃ q, (F : Int) = q := ⟨_, rfl⟩
          have HPF : Hid (PP = ((P : Nat) : Int) ∧ FF = ((F : Nat) : Int)) := ⟨hPP.symm.trans (by omega), hFF.symm.trans (by omega)⟩
          have ALL : Hid (Calls Try.prog 17 #[.pointer (some ⟨g, 0, none⟩)] x2 (PostL x2 (Oz m r t (F) (k) (s) false (ticks) [] (d)))) := all_any HL1.out.sq (HO1.out.ok (by decide))
          rw [hPP, hFF]
          refine ALL.out.mono ?_
          clear ALL
          rintro e xa ⟨vl, ps, rfl, hps, hrow, hba⟩
          have HRL : Hid (Rl xa vl FF (k)) := by rw [HPF.out.2]; exact rl_of hrow hps
          have HLA : Hid (Lw y xa g (Oz m r t (F) (k) (s) false (ticks) [] (d))) := HL1.out.next hba
          obtain ⟨ol, cl, hvl⟩ := HRL.out.form
          subst hvl
          have HLEN : Hid (Calls Try.prog 11 #[.pointer (some ⟨g, 0, none⟩)] xa fun e w' => e = .returned (.int .i64 ((k : Nat) : Int)) ∧ w' = xa) := (len_any HLA.out.sq).mono fun e w' h => ⟨by rw [h.1, show (Oz m r t (F) (k) (s) false (ticks) [] (d)).L.length = k from lof_len _ _], h.2⟩
          have HDEAD : Hid (Calls Try.prog 13 #[.pointer (some ⟨g, 0, none⟩)] xa fun e w' => e = .returned (.int .i64 (d)) ∧ w' = xa) := dead_any HLA.out.sq
          have hpk := HO1.out.pk
          have hdd := HO1.out.dd
          have hpi := HO1.out.pi
          have hd0 := HO1.out.d0
          have hd1 := HO1.out.d1
          obtain ⟨KK, hKK⟩ : ∃ q : Nat, k = q := ⟨_, rfl⟩
          have eP := HPF.out.1
          have eF := HPF.out.2
          have b1 : (((KK : Nat) : Int) != PP + 1 - FF) = false := by simp; omega
          have b3 : (D + d + ((KK : Nat) : Int) != PP) = false := by simp; omega
          have o1 : (0 : Int) ≤ PP ∧ PP ≤ 400 := by omega
          have o2 : (1 : Int) ≤ FF ∧ FF ≤ 401 := by have := HO1.out.f0; omega
          have o3 : ((KK : Nat) : Int) ≤ 401 := by omega
          have o4 : D ≤ 401 ∧ d ≤ 401 := by omega
          obtain ⟨o1a, o1b⟩ := o1
          obtain ⟨o2a, o2b⟩ := o2
          obtain ⟨o4a, o4b⟩ := o4
          rw [hKK] at HLEN HRL ⊢
          clear hpk hdd hpi hd0 hd1 hps hrow hba eP eF hPP hFF
          go_wp2_with (first | (go_at_call 11; refine HLEN.out.mono ?_; rintro e x ⟨rfl, rfl⟩) | (go_at_call 13; refine HDEAD.out.mono ?_; rintro e x ⟨rfl, rfl⟩))
          clear HLEN HDEAD b1 b3
          go_loopw [32] (fun kv wr => ∃ j : Nat, kv = .int .i64 (j : Int) ∧ j ≤ KK ∧ Hid (Rl wr (.slice ol KK cl) FF KK) ∧ Hid (Lw y wr g (Oz m r t (F) (k) (s) false (ticks) [] (d)))) (fun kv _ => KK + 1 - (intOf kv).toNat)
          case atStart => exact ⟨0, rfl, Nat.zero_le _, HRL, HLA⟩
          case round =>
            obtain ⟨j, rfl, hj, HR2, HL2⟩ := hrel
            clear HRL HLA
            by_cases hjk : j < KK
            · obtain ⟨av, hav, k1, nn, hnn, k2⟩ := HR2.out.at_ j hjk ol cl rfl
              subst hav
              have ptx : ∀ x, Calls Try.prog 21 #[.int .i64 (FF + (j : Int))] x fun e w' => e = .returned (.string (ks nn)) ∧ Below x.heap.size x w' := fun x => by rw [hnn]; exact text_any nn (by omega) _
              have jq0 : (j : Int) < ((KK : Nat) : Int) := by omega
              have jq1 : (0 : Int) ≤ (j : Int) := by omega
              obtain ⟨s2, hs2⟩ : ∃ s2, ks nn = s2 := ⟨_, rfl⟩
              rw [hs2] at ptx k2
              have klt := World.block_lt_of_cell? _ _ k1
              have HFIN : Hid (∀ x, Below wr.heap.size wr x → Hid (Rl x (.slice (some av) KK cl) FF KK) ∧ Hid (Lw y x g (Oz m r t (F) (k) (s) false (ticks) [] (d)))) := fun x hx => ⟨HR2.out.below hx, HL2.out.next hx⟩
              clear hnn hs2
              go_wp2_with fail
              refine Ql.region_cl (by kernel_rfl) (by kernel_rfl) ?_
              repeat (first | go_big_quiet_skip | (go_big_quiet_want; go_big_quiet_op; first | go_big_quiet_on | (refine ⟨_, fun _ _ => rfl, ?_⟩; go_big_quiet_on) | (refine ⟨_, fun _ _ => ⟨rfl, rfl⟩, ?_⟩; go_big_quiet_on)) | (refine wpQuiet_step (fun K hK => ?_); first
                | (refine Ql.q_cell (by rfl) 3 _ rfl _ _ rfl _ k1 klt (fun y => Try.isAgg3 y) (hK _ ?_); clear hK K; simp only [Act.put, List.setIfInBounds_toArray, List.set_cons_succ, List.set_cons_zero])
                | (refine Ql.q_cell (by rfl) 9 _ rfl _ _ rfl _ k2 klt (fun y => Try.isAgg9 y) (hK _ ?_); clear hK K; simp only [Act.put, List.setIfInBounds_toArray, List.set_cons_succ, List.set_cons_zero])
                | (go_simp; apply Exists.intro; refine ⟨fun y hy => ?_, hK _ ?_⟩; (go_at_call 21; exact Ql.cl_of hy (ptx _)); clear hK K)
                | fail))
              refine wpQuiet_nil ?_
              intro y5 hy5
              have HF5 := HFIN.out y5 hy5
              clear hy5 k1 k2 klt ptx
              go_wp2_with fail
              exact ⟨⟨j + 1, by simp, by omega, HF5.1, HF5.2⟩, by simp only [intOf]; omega⟩
            · obtain rfl : j = KK := by omega
              go_wp2_with fail
              refine ⟨⟨i + 1, P, F, k, s, false, ticks, D, d, by first | rfl | (push_cast; rfl), by rw [HPF.out.1], by rw [HPF.out.2], rfl, rfl, rfl, by omega, HO1, HL2⟩, by simp only [intOf]; omega⟩

    · have hex : decide ((i : Int) < (N : Int)) = false ∨ ((i : Int) < (N : Int) ∧ decide ((i : Int) < 400) = false) := by
        by_cases h : i < N
        · exact .inr ⟨by omega, decide_eq_false (by omega)⟩
        · exact .inl (decide_eq_false (by omega))
      rcases hex with h1 | ⟨h1, h2⟩
      · go_wp2_with fail
        all_goals go_ret
        all_goals refine ⟨rfl, keepB HB.out ?_⟩
        all_goals rw [HG.out]
        all_goals exact HL.out.bel
      · go_wp2_with fail
        all_goals go_ret
        all_goals refine ⟨rfl, keepB HB.out ?_⟩
        all_goals rw [HG.out]
        all_goals exact HL.out.bel
end Go.Proofs.Ytmpcgmpobmnmmaa.Ow
