import Derived.Test.YtgchdjjafgkcbaaQf33
import Derived.BigQuiet
/- PendingFull: the walk. -/
namespace Go.Proofs.Ytgchdjjafgkcbaa.Fc
set_option linter.unusedVariables false
set_option linter.unusedSimpArgs false
set_option linter.ambiguousOpen false
open Go.RowKit Go.Maps Go.Shelf Lib0 Kb Xp Za Ze Ih Fh Hh Pa Pb Pc Pe Pf Pg Px Pl Pw Py Ra Sa Vh Fa Fb Fd
attribute [local go_sem] Oper.semAt_some
attribute [local irreducible] Pb.nl Pb.kl
theorem infoPd : (Try.prog.info? 48).map (·.size) = some 12 := by kernel_rfl
theorem wf64 {a : Int} (h : (Lit.int .i64 a).wf = true) : I64 a := by
  simp [Lit.wf, IntKind.min, IntKind.max, IntKind.signed, IntKind.bits] at h
  exact ⟨by omega, by omega⟩
set_option maxRecDepth 100000 in
set_option maxHeartbeats 6400000 in
theorem walk (a0 : Int) (v1 : Value) (z1 : List Int) (w : World) (w0 : (Lit.int .i64 a0).wf = true) (wz : Sg.LiesI w v1 z1) :
    Calls Try.prog 4 #[.int .i64 a0, v1] w fun e w' => e = .returned (.bool true) ∧ Below w.heap.size w w' := by
  obtain ⟨o1, c1, rfl, hzl, hz⟩ := wz
  have HZ : Hid (∀ i (h : i < z1.length), ∃ a : Addr, o1 = some a ∧ w.cell? (a.add i) = some (.int .i64 z1[i]) ∧ (Lit.int .i64 z1[i]).wf = true) := hz
  obtain ⟨N1, HN1⟩ : ∃ N, Hid (z1.length = N) := ⟨_, rfl⟩
  rw [HN1.out]
  replace w0 := wf64 w0
  clear hz hzl
  have HP0 : Hid (∀ y, Calls Try.prog 6 #[.int .i64 a0, .int .i64 300] y fun e w' => e = .returned (.int .i64 (Pick.pickOf a0 300)) ∧ w' = y) := fun y => Pick.pick_any a0 300 y w0.1 w0.2 (by decide) (by decide)
  have m0 := Pick.pick_lo a0 300 (by decide)
  have m1 := Pick.pick_hi a0 300 (by decide)
  obtain ⟨m, hm⟩ : ∃ m, Pick.pickOf a0 300 = m := ⟨_, rfl⟩
  rw [hm] at m0 m1 HP0
  clear hm w0
  obtain ⟨M, HM⟩ : ∃ M : Nat, Hid (1 + m = (M : Int)) := ⟨(1 + m).toNat, by show 1 + m = _; omega⟩
  have HM1 : Hid (1 ≤ M ∧ M ≤ 300) := ⟨by have := HM.out; omega, by have := HM.out; omega⟩
  have HCO : Hid (Co ⟨(M : Int), 5, 5⟩) := ⟨by show (1 : Int) ≤ M; have := HM1.out; omega, by show (M : Int) ≤ (10000 : Int); have := HM1.out; omega, by show (1 : Int) ≤ 5; omega, by show (5 : Int) ≤ 100000; omega, by show (1 : Int) ≤ 5; omega, by show (5 : Int) ≤ 100000; omega⟩
  have HNEW : Hid (∀ y, Calls Try.prog 7 #[.int .i64 (M : Int), .int .i64 5, .int .i64 5] y fun e w' => ∃ b, e = .returned (.tuple #[.pointer (some ⟨b, 0, none⟩), .int .i64 0]) ∧ Tb w' y.heap.size b ⟨(M : Int), 5, 5⟩ S0 ∧ Below y.heap.size y w') := fun y => new_yes ⟨(M : Int), 5, 5⟩ HCO.out y
  go_enter Try.func4, Try.ntmps4
  go_wp2_with fail
  refine (HP0.out _).mono ?_
  rintro e y ⟨rfl, hy⟩
  rw [hy]
  clear hy y
  go_wp2_with fail
  rw [HM.out]
  refine (HNEW.out _).mono ?_
  rintro e y ⟨b, rfl, HT0, HB0⟩
  have HF : Hid (Fu w y b ⟨(M : Int), 5, 5⟩ (List.range 0) (.slice none 0 0) 0) := ⟨⟨S0, HT0, ⟨rfl, rfl, rfl, fun x hx => (by cases hx), fun x hx => (by cases hx)⟩, rfl⟩, World.ownsRow_nil _ _ _ _, HB0, fun x hx => (by cases hx)⟩
  clear HT0 HB0
  go_wp2_with fail
  obtain ⟨i0, hi0, hz0, hz1, hz2⟩ : ∃ i, Try.prog.info? tI = some i ∧ i.zero = some (.int .i64 0) ∧ i.size = 1 ∧ i.bytes = 8 := by
    have h : (Try.prog.info? tI).map (fun i => (i.zero, i.size, i.bytes)) = some (some (.int .i64 0), 1, 8) := by kernel_rfl
    cases e : Try.prog.info? tI with
    | none => rw [e] at h; cases h
    | some i => rw [e] at h; simp at h; exact ⟨i, rfl, h.1, h.2.1, h.2.2⟩
  go_loopw [8, 9] (fun lv nv wr => ∃ i : Nat, nv = .int .i64 (i : Int) ∧ i ≤ M ∧ ∃ ol cl, lv = .slice ol i cl ∧ Hid (Fu w wr b ⟨(M : Int), 5, 5⟩ (List.range i) (.slice ol i cl) i)) (fun _ nv _ => M + 1 - (intOf nv).toNat)
  case atStart => exact ⟨0, rfl, Nat.zero_le _, none, 0, rfl, HF.out⟩
  case round =>
    obtain ⟨i, rfl, hi, ol, cl, rfl, HJ⟩ := hrel
    have q1 : (0 : Int) ≤ (i : Int) := by omega
    by_cases hlt : i < M
    · have HI : Hid (i < M) := hlt
      have q0 : (i : Int) < (M : Int) := by omega
      have q3 : (i : Int) + 1 ≤ 9223372036854775807 := by have := HM1.out; omega
      have HRQ : Hid (Calls Try.prog 14 #[.int .i64 (i : Int)] wr fun e w' => ∃ v1, e = .returned (pv (req i) v1 (.slice none 0 0)) ∧ w'.ownsRow wr.heap.size tF 3 v1 1 (fc [(11, ks i)]) ∧ Below wr.heap.size wr w') := request_any i (by have := HM1.out; omega) wr
      clear hlt hi
      go_wp2_with fail
      refine HRQ.out.mono ?_
      rintro e y2 ⟨v1, rfl, ho1, hb1⟩
      have HJ2 : Hid (Fu w y2 b ⟨(M : Int), 5, 5⟩ (List.range i) (.slice ol i cl) i) := HJ.out.below hb1
      have HAD : Hid (Calls Try.prog 13 #[.pointer (some ⟨b, 0, none⟩), pv (req i) v1 (.slice none 0 0)] y2 fun e y => e = .returned (.int .i64 0) ∧ (∃ S, Tb y w.heap.size b ⟨(M : Int), 5, 5⟩ S ∧ Fs (List.range i ++ [i]) S ∧ S.lw = ((i + 1 : Nat) : Int)) ∧ y.ownsRow w.heap.size tI 1 (.slice ol i cl) (List.range i).length (il (List.range i)) ∧ Below w.heap.size w y) := HJ2.out.add HCO.out rfl (by have := HM1.out; have := HI.out; omega) (by rw [List.length_range]; show (i : Int) ≠ (M : Int); have := HI.out; omega) ho1
      clear ho1 hb1
      go_wp2_with fail
      refine HAD.out.mono ?_
      rintro e y3 ⟨rfl, HT3, HR3, HB3⟩
      rw [List.length_range] at HR3
      have HX3 : Hid ((∃ S, Tb y3 w.heap.size b ⟨(M : Int), 5, 5⟩ S ∧ Fs (List.range i ++ [i]) S ∧ S.lw = ((i + 1 : Nat) : Int)) ∧ y3.ownsRow w.heap.size tI 1 (.slice ol i cl) i (il (List.range i)) ∧ Below w.heap.size w y3) := ⟨HT3, HR3, HB3⟩
      clear HT3 HR3 HB3
      have hni := HI.out
      have hnm := HM1.out
      have HRA : Hid ((y3.alloc (.cells #[.int .i64 (i : Int)] tI)).ownsRow w.heap.size tI 1 (.slice ol i cl) i (il (List.range i)) ∧ w.heap.size ≤ (y3.alloc (.cells #[.int .i64 (i : Int)] tI)).heap.size) := ⟨HX3.out.2.1.alloc _, by have := HX3.out.2.2.size; simp; omega⟩
      go_wp2_with (first | (at_builtin; refine wpList_append_lies _ rfl _ _ _ rfl w.heap.size tI i0 _ 1 8 Try.underlying40 hi0 hz0 hz1 hz2 rfl (by omega) _ i (il (List.range i)) rfl HRA.out.1 ⟨y3.heap.size, 0, none⟩ 1 1 _ rfl (by rfl) (World.news_of_block (h1_0 y3 _)) (by simp [Value.oneCell']) (by omega) (by have := HM1.out; have := HI.out; unfold maxLen; omega) (by have := HM1.out; have := HI.out; omega) HRA.out.2 _ rfl ?_; intro gg cap2 z1 hown hgrow hat hlt1; have HPU : Hid (Fu w z1 b ⟨(M : Int), 5, 5⟩ (List.range (i + 1)) (.slice (some ⟨gg, 0, none⟩) (i + 1) cap2) (i + 1)) := fu_push HX3.out.1 HX3.out.2.1 HX3.out.2.2 hown hgrow; clear hown hgrow hat hlt1) | fail)
      refine ⟨⟨i + 1, by simp, by have := HI.out; omega, _, _, rfl, HPU⟩, ?_⟩
      simp only [intOf]
      have := HI.out
      omega
    · have hiM : i = M := by omega
      subst hiM
      have q0 : decide ((i : Int) < (i : Int)) = false := decide_eq_false (by omega)
      clear hlt hi
      go_wp2_with fail
      have HJ0 : Hid (Fu w wr b ⟨(i : Int), 5, 5⟩ (List.range i) (.slice ol i cl) i) := HJ
      clear q0 HJ HNEW HF
      go_loopw [8, 11, 12, 13, 14, 15, 16, 17, 18, 19] (fun lv nv iv _ _ _ _ _ _ _ wr => ∃ (j : Nat) (l : List Nat) (ol : Option Addr) (cl : Nat), lv = .slice ol i cl ∧ nv = .int .i64 ((i + j : Nat) : Int) ∧ iv = .int .i64 (j : Int) ∧ Hid (j ≤ N1 ∧ j ≤ 40) ∧ Hid (l.length = i) ∧ Hid (Fu w wr b ⟨(i : Int), 5, 5⟩ l (.slice ol i cl) (i + j))) (fun _ _ iv _ _ _ _ _ _ _ _ => 41 - (intOf iv).toNat)
      case atStart => exact ⟨0, List.range i, ol, cl, rfl, rfl, rfl, ⟨Nat.zero_le _, Nat.zero_le _⟩, List.length_range, HJ0.out⟩
      case round =>
        obtain ⟨j, l, ol, cl, rfl, rfl, rfl, HJB, HLL, HFU⟩ := hrel
        have q0 : (j : Int) ≤ (N1 : Int) := by have := HJB.out; omega
        have q00 : (j : Int) ≤ 40 := by have := HJB.out; omega
        obtain ⟨nx, HNX⟩ : ∃ nx, Hid (i + j = nx) := ⟨_, rfl⟩
        rw [HNX.out] at HFU
        rw [HNX.out]
        have HNB : Hid (nx ≤ 341) := by have := HNX.out; have := HM1.out; have := HJB.out; show nx ≤ 341; omega
        have HRQ : Hid (∀ y, Calls Try.prog 14 #[.int .i64 (nx : Int)] y fun e w' => ∃ v1, e = .returned (pv (req nx) v1 (.slice none 0 0)) ∧ w'.ownsRow y.heap.size tF 3 v1 1 (fc [(11, ks nx)]) ∧ Below y.heap.size y w') := fun y => request_any nx (by have := HNB.out; omega) y
        go_wp2_with fail
        refine (HRQ.out _).mono ?_
        rintro e y2 ⟨v1, rfl, ho1, hb1⟩
        have HF2 : Hid (Fu w y2 b ⟨(i : Int), 5, 5⟩ l (.slice ol i cl) nx) := HFU.out.below hb1
        have HAF : Hid (Calls Try.prog 13 #[.pointer (some ⟨b, 0, none⟩), pv (req nx) v1 (.slice none 0 0)] y2 fun e y => e = .returned (.int .i64 190) ∧ Fu w y b ⟨(i : Int), 5, 5⟩ l (.slice ol i cl) nx) := HF2.out.full (by have := HNB.out; omega) (by rw [HLL.out]) ho1
        clear ho1 hb1
        go_wp2_with fail
        refine HAF.out.mono ?_
        rintro e y3 ⟨rfl, h3⟩
        have HF3 : Hid (Fu w y3 b ⟨(i : Int), 5, 5⟩ l (.slice ol i cl) nx) := h3
        have HLEN : Hid (Calls Try.prog 11 #[.pointer (some ⟨b, 0, none⟩)] y3 fun e y => e = .returned (.int .i64 (i : Int)) ∧ y = y3) := by have h4 := h3.len; rw [HLL.out] at h4; exact h4
        clear h3
        go_wp2_with fail
        refine HLEN.out.mono ?_
        rintro e y3' ⟨rfl, rfl⟩
        clear HFU HF2 HAF HLEN
        clear y2 wr
        by_cases hend : j = N1 ∨ j = 40
        · have HFA : Hid (Calls Try.prog 17 #[.pointer (some ⟨b, 0, none⟩)] y3' fun e y => ∃ av, e = .returned av ∧ Lst y y3'.heap.size y3'.heap.size av (l.map req) ∧ Below y3'.heap.size y3' y) := HF3.out.all (by rw [HLL.out]; have := HM1.out; omega)
          have HGO : Hid (j = N1 ∨ j = 40) := hend
          by_cases hj1 : j = N1
          · have b1 : ((j : Int) == (N1 : Int)) = true := by simp; omega
            clear hend hj1
            go_wp2_with fail
            refine HFA.out.mono ?_
            rintro e y4 ⟨av, rfl, hls, hb4⟩
            obtain ⟨ps, hps, hrow, hpr⟩ := hls.row
            have HPL : Hid (ps.length = i) := by have h9 := congrArg List.length hps; rw [List.length_map, List.length_map, HLL.out] at h9; exact h9
            have HF4 : Hid (Fu w y4 b ⟨(i : Int), 5, 5⟩ l (.slice ol i cl) nx) := HF3.out.below hb4
            obtain ⟨ga, ca, rfl⟩ : ∃ ga ca, av = .slice (some ⟨ga, 0, none⟩) i ca := by
              rcases hrow.2 with ⟨-, h0⟩ | ⟨g2, c2, cur, e, -⟩
              · have := HPL.out; have := HM1.out; omega
              · rw [HPL.out] at e; exact ⟨g2, c2, e⟩
            obtain ⟨gl, el⟩ : ∃ gl, ol = some ⟨gl, 0, none⟩ := by
              rcases HF4.out.row.2 with ⟨e, h0⟩ | ⟨g2, c2, cur, e, -⟩
              · have := HLL.out; have := HM1.out; omega
              · injection e with e; exact ⟨g2, e⟩
            subst el
            have HEL : Hid (∀ t, (ht : t < i) → ∃ n u1 u2, n ≤ 1000000 ∧ y4.cell? ⟨gl, t, none⟩ = some (.int .i64 ((n : Nat) : Int)) ∧ RowF y4 u1 (req n).L1 ∧ RowF y4 u2 (req n).L2 ∧ y4.rangeAt ga (t * 12) (pcs (req n) u1 u2).toList) := fun t ht => by
              have htp : t < ps.length := by rw [HPL.out]; exact ht
              have htl : t < l.length := by rw [HLL.out]; exact ht
              have e1 : ps[t].1 = req l[t] := by
                have h9 := congrArg (fun L => L[t]?) hps
                simp only [List.getElem?_map, List.getElem?_eq_getElem htp, List.getElem?_eq_getElem htl, Option.map_some] at h9
                exact Option.some.inj h9
              have hr := hpr ps[t] (List.getElem_mem htp)
              rw [e1] at hr
              refine ⟨l[t], ps[t].2.1, ps[t].2.2, ?_, ?_, rowf_own hr.1, rowf_own hr.2, fun q v hq => ?_⟩
              · have h9 := HF4.out.lt l[t] (List.getElem_mem htl); have := HNB.out; omega
              · have h9 := HF4.out.row.cells (g := gl) rfl t (.int .i64 ((l[t] : Nat) : Int)) (by simp [il, htl])
                rw [add_zero] at h9
                exact h9
              · rw [← e1] at hq
                have h9 := hrow.cells (g := ga) rfl (t * 12 + q) _ (pl_at ps t htp q v hq)
                rw [add_zero] at h9
                exact h9
            have q49 : ((i : Int) != (i : Int)) = false := by simp
            clear hls hps hrow hpr hb4
            go_wp2_with fail
            go_loopw [21, 22] (fun tv _ wr => ∃ t : Nat, tv = .int .i64 (t : Int) ∧ Hid (t ≤ i) ∧ Hid (Below y4.heap.size y4 wr)) (fun tv _ _ => i + 1 - (intOf tv).toNat)
            case atStart => exact ⟨0, rfl, Nat.zero_le _, Below.refl _ _⟩
            case round =>
              obtain ⟨t, rfl, HT, HBW⟩ := hrel
              by_cases htt : t < i
              · obtain ⟨n, u1, u2, hn, hc0, hr1, hr2, hcs⟩ := HEL.out t htt
                have kk : ∀ q v, y4.cell? q = some v → wr.cell? q = some v := fun q v hq => (HBW.out.cell (World.block_lt_of_cell? y4 _ hq)).trans hq
                have d0 := kk _ _ hc0
                have dd : wr.rangeAt ga (t * 12) (pcs (req n) u1 u2).toList := fun q v hq => kk _ _ (hcs q v hq)
                have klt1 : ga < wr.heap.size := World.block_lt_of_cell? _ _ (dd 0 _ rfl)
                have HIT : ∀ y, Below wr.heap.size wr y → Calls Try.prog 16 #[pv (req n) u1 u2, .int .i64 (n : Int)] y fun e w' => e = .returned (.bool true) ∧ Below y.heap.size y w' := fun y hy => its_yes n hn _ _ y (rowf_below hr1 (keepB HBW.out hy)) (rowf_below hr2 (keepB HBW.out hy))
                have klt0 := World.block_lt_of_cell? _ _ d0
                have qt0 : (t : Int) < (i : Int) := by omega
                have qt1 : (0 : Int) ≤ (t : Int) := by omega
                have qt2 : (t : Int) + 1 ≤ 9223372036854775807 := by have := HM1.out; omega
                have HTT : Hid (t < i) := htt
                clear hc0 hr1 hr2 hcs kk htt hn
                go_wp2_with fail
                refine Ql.region_cl (by kernel_rfl) (by kernel_rfl) ?_
                repeat (first | go_big_quiet_skip | (go_big_quiet_want; go_big_quiet_op; first | go_big_quiet_on | (refine ⟨_, fun _ _ => rfl, ?_⟩; go_big_quiet_on) | (refine ⟨_, fun _ _ => ⟨rfl, rfl⟩, ?_⟩; go_big_quiet_on)) | (refine wpQuiet_step (fun K hK => ?_); first
                  | (refine Ql.q_cell (by rfl) 3 _ rfl _ _ rfl _ d0 klt0 (fun y => Try.isAgg3 y) (hK _ ?_); clear hK K; simp only [Act.put, List.setIfInBounds_toArray, List.set_cons_succ, List.set_cons_zero])
                  | (refine q_mid (by rfl) 48 _ rfl _ _ rfl (pcs (req n) u1 u2).toList dd klt1 _ Try.underlying48 rfl infoPd (hK _ ?_); clear hK K; simp only [Act.put, List.setIfInBounds_toArray, List.set_cons_succ, List.set_cons_zero])
                  | (go_simp; apply Exists.intro; refine ⟨fun y hy => ?_, hK _ ?_⟩; (go_at_call 16; exact Ql.cl_of hy (HIT _ hy)); clear hK K)
                  | fail))
                refine wpQuiet_nil ?_
                intro y8 hy8
                have HB8 : Hid (Below y4.heap.size y4 y8) := keepB HBW.out hy8
                clear dd d0 klt0 klt1 HIT hy8
                go_wp2_with fail
                refine ⟨⟨t + 1, by simp, (by have := HTT.out; show t + 1 ≤ i; omega), HB8.out⟩, ?_⟩
                have := HTT.out
                simp only [intOf]; omega
              · obtain rfl : t = i := by have := HT.out; omega
                have qz : decide ((t : Int) < (t : Int)) = false := decide_eq_false (by omega)
                clear htt
                go_wp2_with fail
                go_ret
                exact ⟨rfl, (HF4.out.below HBW.out).bel⟩
          · have b1 : ((j : Int) == (N1 : Int)) = false := by simp; omega
            have b2 : ((j : Int) == 40) = true := by have := HGO.out; simp; omega
            clear hend hj1
            go_wp2_with fail
            refine HFA.out.mono ?_
            rintro e y4 ⟨av, rfl, hls, hb4⟩
            obtain ⟨ps, hps, hrow, hpr⟩ := hls.row
            have HPL : Hid (ps.length = i) := by have h9 := congrArg List.length hps; rw [List.length_map, List.length_map, HLL.out] at h9; exact h9
            have HF4 : Hid (Fu w y4 b ⟨(i : Int), 5, 5⟩ l (.slice ol i cl) nx) := HF3.out.below hb4
            obtain ⟨ga, ca, rfl⟩ : ∃ ga ca, av = .slice (some ⟨ga, 0, none⟩) i ca := by
              rcases hrow.2 with ⟨-, h0⟩ | ⟨g2, c2, cur, e, -⟩
              · have := HPL.out; have := HM1.out; omega
              · rw [HPL.out] at e; exact ⟨g2, c2, e⟩
            obtain ⟨gl, el⟩ : ∃ gl, ol = some ⟨gl, 0, none⟩ := by
              rcases HF4.out.row.2 with ⟨e, h0⟩ | ⟨g2, c2, cur, e, -⟩
              · have := HLL.out; have := HM1.out; omega
              · injection e with e; exact ⟨g2, e⟩
            subst el
            have HEL : Hid (∀ t, (ht : t < i) → ∃ n u1 u2, n ≤ 1000000 ∧ y4.cell? ⟨gl, t, none⟩ = some (.int .i64 ((n : Nat) : Int)) ∧ RowF y4 u1 (req n).L1 ∧ RowF y4 u2 (req n).L2 ∧ y4.rangeAt ga (t * 12) (pcs (req n) u1 u2).toList) := fun t ht => by
              have htp : t < ps.length := by rw [HPL.out]; exact ht
              have htl : t < l.length := by rw [HLL.out]; exact ht
              have e1 : ps[t].1 = req l[t] := by
                have h9 := congrArg (fun L => L[t]?) hps
                simp only [List.getElem?_map, List.getElem?_eq_getElem htp, List.getElem?_eq_getElem htl, Option.map_some] at h9
                exact Option.some.inj h9
              have hr := hpr ps[t] (List.getElem_mem htp)
              rw [e1] at hr
              refine ⟨l[t], ps[t].2.1, ps[t].2.2, ?_, ?_, rowf_own hr.1, rowf_own hr.2, fun q v hq => ?_⟩
              · have h9 := HF4.out.lt l[t] (List.getElem_mem htl); have := HNB.out; omega
              · have h9 := HF4.out.row.cells (g := gl) rfl t (.int .i64 ((l[t] : Nat) : Int)) (by simp [il, htl])
                rw [add_zero] at h9
                exact h9
              · rw [← e1] at hq
                have h9 := hrow.cells (g := ga) rfl (t * 12 + q) _ (pl_at ps t htp q v hq)
                rw [add_zero] at h9
                exact h9
            have q49 : ((i : Int) != (i : Int)) = false := by simp
            clear hls hps hrow hpr hb4
            go_wp2_with fail
            go_loopw [21, 22] (fun tv _ wr => ∃ t : Nat, tv = .int .i64 (t : Int) ∧ Hid (t ≤ i) ∧ Hid (Below y4.heap.size y4 wr)) (fun tv _ _ => i + 1 - (intOf tv).toNat)
            case atStart => exact ⟨0, rfl, Nat.zero_le _, Below.refl _ _⟩
            case round =>
              obtain ⟨t, rfl, HT, HBW⟩ := hrel
              by_cases htt : t < i
              · obtain ⟨n, u1, u2, hn, hc0, hr1, hr2, hcs⟩ := HEL.out t htt
                have kk : ∀ q v, y4.cell? q = some v → wr.cell? q = some v := fun q v hq => (HBW.out.cell (World.block_lt_of_cell? y4 _ hq)).trans hq
                have d0 := kk _ _ hc0
                have dd : wr.rangeAt ga (t * 12) (pcs (req n) u1 u2).toList := fun q v hq => kk _ _ (hcs q v hq)
                have klt1 : ga < wr.heap.size := World.block_lt_of_cell? _ _ (dd 0 _ rfl)
                have HIT : ∀ y, Below wr.heap.size wr y → Calls Try.prog 16 #[pv (req n) u1 u2, .int .i64 (n : Int)] y fun e w' => e = .returned (.bool true) ∧ Below y.heap.size y w' := fun y hy => its_yes n hn _ _ y (rowf_below hr1 (keepB HBW.out hy)) (rowf_below hr2 (keepB HBW.out hy))
                have klt0 := World.block_lt_of_cell? _ _ d0
                have qt0 : (t : Int) < (i : Int) := by omega
                have qt1 : (0 : Int) ≤ (t : Int) := by omega
                have qt2 : (t : Int) + 1 ≤ 9223372036854775807 := by have := HM1.out; omega
                have HTT : Hid (t < i) := htt
                clear hc0 hr1 hr2 hcs kk htt hn
                go_wp2_with fail
                refine Ql.region_cl (by kernel_rfl) (by kernel_rfl) ?_
                repeat (first | go_big_quiet_skip | (go_big_quiet_want; go_big_quiet_op; first | go_big_quiet_on | (refine ⟨_, fun _ _ => rfl, ?_⟩; go_big_quiet_on) | (refine ⟨_, fun _ _ => ⟨rfl, rfl⟩, ?_⟩; go_big_quiet_on)) | (refine wpQuiet_step (fun K hK => ?_); first
                  | (refine Ql.q_cell (by rfl) 3 _ rfl _ _ rfl _ d0 klt0 (fun y => Try.isAgg3 y) (hK _ ?_); clear hK K; simp only [Act.put, List.setIfInBounds_toArray, List.set_cons_succ, List.set_cons_zero])
                  | (refine q_mid (by rfl) 48 _ rfl _ _ rfl (pcs (req n) u1 u2).toList dd klt1 _ Try.underlying48 rfl infoPd (hK _ ?_); clear hK K; simp only [Act.put, List.setIfInBounds_toArray, List.set_cons_succ, List.set_cons_zero])
                  | (go_simp; apply Exists.intro; refine ⟨fun y hy => ?_, hK _ ?_⟩; (go_at_call 16; exact Ql.cl_of hy (HIT _ hy)); clear hK K)
                  | fail))
                refine wpQuiet_nil ?_
                intro y8 hy8
                have HB8 : Hid (Below y4.heap.size y4 y8) := keepB HBW.out hy8
                clear dd d0 klt0 klt1 HIT hy8
                go_wp2_with fail
                refine ⟨⟨t + 1, by simp, (by have := HTT.out; show t + 1 ≤ i; omega), HB8.out⟩, ?_⟩
                have := HTT.out
                simp only [intOf]; omega
              · obtain rfl : t = i := by have := HT.out; omega
                have qz : decide ((t : Int) < (t : Int)) = false := decide_eq_false (by omega)
                clear htt
                go_wp2_with fail
                go_ret
                exact ⟨rfl, (HF4.out.below HBW.out).bel⟩
        · have HJE : Hid (j < N1 ∧ j < 40) := ⟨by have := HJB.out; omega, by have := HJB.out; omega⟩
          have hjz : j < z1.length := by rw [HN1.out]; exact HJE.out.1
          obtain ⟨ad, rfl, hat, hfine⟩ := HZ.out j hjz
          have t0 : y3'.cell? (ad.add j) = some (.int .i64 z1[j]) := (HF3.out.bel.cell (World.block_lt_of_cell? w _ hat)).trans hat
          have hc1 := wf64 hfine
          obtain ⟨xo, hx⟩ : ∃ x, z1[j] = x := ⟨_, rfl⟩
          rw [hx] at t0 hc1
          have p0 := Pick.pick_lo xo (i : Int) (by have := HM1.out; omega)
          have p1 := Pick.pick_hi xo (i : Int) (by have := HM1.out; omega)
          have HPK : Hid (∀ y, Calls Try.prog 6 #[.int .i64 xo, .int .i64 (i : Int)] y fun e w' => e = .returned (.int .i64 (Pick.pickOf xo (i : Int))) ∧ w' = y) := fun y => Pick.pick_any xo (i : Int) y hc1.1 hc1.2 (by have := HM1.out; omega) (by have := HM1.out; omega)
          obtain ⟨k, hk⟩ : ∃ k : Nat, Pick.pickOf xo (i : Int) = (k : Int) := ⟨(Pick.pickOf xo (i : Int)).toNat, by omega⟩
          rw [hk] at p0 p1 HPK
          have HK : Hid (k < i) := by show k < i; omega
          have hkl : k < l.length := by rw [HLL.out]; exact HK.out
          have b1 : ((j : Int) == (N1 : Int)) = false := by simp; omega
          have b2 : ((j : Int) == 40) = false := by simp; omega
          have qj : (0 : Int) ≤ (j : Int) := by omega
          have qj2 : (j : Int) < (N1 : Int) := by have := HJE.out; omega
          have qk0 : (k : Int) < (i : Int) := p1
          obtain ⟨gl, el, cr⟩ : ∃ gl, ol = some ⟨gl, 0, none⟩ ∧ ∀ n, n < l.length → True := by
            rcases HF3.out.row.2 with ⟨e, h0⟩ | ⟨g2, c2, cur, e, -⟩
            · omega
            · injection e with e; exact ⟨g2, e, fun _ _ => trivial⟩
          subst el
          have ck0 : y3'.cell? ⟨gl, k, none⟩ = some (.int .i64 ((l[k] : Nat) : Int)) := by
            have := HF3.out.row.cells (g := gl) rfl k (.int .i64 ((l[k] : Nat) : Int)) (by simp [il, hkl])
            rw [add_zero] at this
            exact this
          obtain ⟨n, hn⟩ : ∃ n, l[k] = n := ⟨_, rfl⟩
          have HLK : Hid (l[k] = n) := hn
          rw [hn] at ck0
          have HNN : Hid (n ≤ 1000000) := by have h9 := HF3.out.lt n (by rw [← hn]; exact List.getElem_mem hkl); have := HNB.out; show n ≤ 1000000; omega
          have HRN : Hid (∀ y, Calls Try.prog 14 #[.int .i64 (n : Int)] y fun e w' => ∃ v1, e = .returned (pv (req n) v1 (.slice none 0 0)) ∧ w'.ownsRow y.heap.size tF 3 v1 1 (fc [(11, ks n)]) ∧ Below y.heap.size y w') := fun y => request_any n HNN.out y
          clear hat hfine hx hc1 p0 p1 hk hend cr hn
          go_wp2_with fail
          refine (HPK.out _).mono ?_
          rintro e y4 ⟨rfl, rfl⟩
          go_wp2_with fail
          refine (HRN.out _).mono ?_
          rintro e y5 ⟨v2, rfl, ho5, hb5⟩
          obtain ⟨g5, c5, rfl⟩ : ∃ g5 c5, v2 = .slice (some ⟨g5, 0, none⟩) 1 c5 := by
            rcases ho5.2 with ⟨-, h0⟩ | ⟨g2, c2, cur, e, -⟩
            · omega
            · exact ⟨g2, c2, e⟩
          have HF5 : Hid (Fu w (y5.alloc (.cells (pcs (req n) (.slice (some ⟨g5, 0, none⟩) 1 c5) (.slice none 0 0)) tP)) b ⟨(i : Int), 5, 5⟩ l (.slice (some ⟨gl, 0, none⟩) i cl) nx) := (HF3.out.below hb5).below (below_one _ _)
          unfold pv pcs
          clear hb5 t0 ck0 ho5
          go_wp2_with fail
          have HANS : Hid (Calls Try.prog 15 #[.pointer (some ⟨b, 0, none⟩), .int .i64 (req n).to_, .int .i64 (req n).no] (y5.alloc (.cells (pcs (req n) (.slice (some ⟨g5, 0, none⟩) 1 c5) (.slice none 0 0)) tP)) fun e y => ∃ v1 v2, e = .returned (.tuple #[pv (req n) v1 v2, .int .i64 0]) ∧ RowF y v1 (req n).L1 ∧ RowF y v2 (req n).L2 ∧ Fv w y b ⟨(i : Int), 5, 5⟩ (l.eraseIdx k) l (.slice (some ⟨gl, 0, none⟩) i cl) nx) := by
            have h9 := Fu.ansv HF5.out k hkl
            rw [HLK.out] at h9
            exact h9
          unfold pcs at HANS
          refine HANS.out.mono ?_
          rintro e y6 ⟨v3, v4, rfl, hr3, hr4, hv6⟩
          obtain ⟨o3, c3, rfl⟩ : ∃ o c, v3 = .slice o 1 c := by
            obtain ⟨o, c, e, -⟩ := hr3
            exact ⟨o, c, e⟩
          obtain ⟨o4, c4, rfl⟩ : ∃ o c, v4 = .slice o 0 c := by
            obtain ⟨o, c, e, -⟩ := hr4
            exact ⟨o, c, e⟩
          have HV6 : Hid (Fv w (y6.alloc (.cells (pcs (req n) (.slice o3 1 c3) (.slice o4 0 c4)) tP)) b ⟨(i : Int), 5, 5⟩ (l.eraseIdx k) l (.slice (some ⟨gl, 0, none⟩) i cl) nx) := hv6.below (below_one _ _)
          have HITS : Hid (∀ y, Below y6.heap.size y6 y → Calls Try.prog 16 #[pv (req n) (.slice o3 1 c3) (.slice o4 0 c4), .int .i64 (n : Int)] y fun e w' => e = .returned (.bool true) ∧ Below y.heap.size y w') := fun y hy => its_yes n HNN.out _ _ y (rowf_below hr3 hy) (rowf_below hr4 hy)
          unfold pv pcs
          unfold pv pcs at HITS
          clear hr3 hr4 hv6 HANS HF5
          go_wp2_with fail
          have hpb : (y6.alloc (.cells (pcs (req n) (.slice o3 1 c3) (.slice o4 0 c4)) tP)).heap[y6.heap.size]? = some (.cells (pcs (req n) (.slice o3 1 c3) (.slice o4 0 c4)) tP (0, 0)) := h1_0 _ _
          have hb67 : Below y6.heap.size y6 (y6.alloc (.cells (pcs (req n) (.slice o3 1 c3) (.slice o4 0 c4)) tP)) := below_one _ _
          unfold pcs at hpb hb67 HV6
          obtain ⟨Y, hY⟩ : ∃ Y, y6.alloc (.cells #[.int .i64 (req n).link, .int .i64 (req n).cls, .string (req n).num, .string (req n).stp, .string (req n).trm, .int .i64 (req n).frm, .int .i64 (req n).to_, .int .i64 (req n).no, .string (req n).m1, .slice o3 1 c3, .string (req n).m2, .slice o4 0 c4] tP) = Y := ⟨_, rfl⟩
          rw [hY] at hpb hb67 HV6
          rw [hY]
          clear hY
          have ck1 : Y.cell? ⟨gl, k, none⟩ = some (.int .i64 (n : Int)) := by
            have h9 := HV6.out.row.cells (g := gl) rfl k (.int .i64 ((l[k] : Nat) : Int)) (by simp [il, hkl])
            rw [add_zero, HLK.out] at h9
            exact h9
          have klt := World.block_lt_of_cell? _ _ ck1
          have HIT : ∀ y, Below Y.heap.size Y y → Calls Try.prog 16 #[.agg #[.int .i64 (req n).link, .int .i64 (req n).cls, .string (req n).num, .string (req n).stp, .string (req n).trm, .int .i64 (req n).frm, .int .i64 (req n).to_, .int .i64 (req n).no, .string (req n).m1, .slice o3 1 c3, .string (req n).m2, .slice o4 0 c4], .int .i64 (n : Int)] y fun e w' => e = .returned (.bool true) ∧ Below y.heap.size y w' := fun y hy => HITS.out y (keepB hb67 hy)
          refine Ql.region_cl (by kernel_rfl) (by kernel_rfl) ?_
          repeat (first | go_big_quiet_skip | (go_big_quiet_want; go_big_quiet_op; first | go_big_quiet_on | (refine ⟨_, fun _ _ => rfl, ?_⟩; go_big_quiet_on) | (refine ⟨_, fun _ _ => ⟨rfl, rfl⟩, ?_⟩; go_big_quiet_on)) | (refine wpQuiet_step (fun K hK => ?_); first
            | (refine Ql.q_cell (by rfl) 3 _ rfl _ _ rfl _ ck1 klt (fun y => Try.isAgg3 y) (hK _ ?_); clear hK K; simp only [Act.put, List.setIfInBounds_toArray, List.set_cons_succ, List.set_cons_zero])
            | (refine Ql.q_row (by rfl) 48 _ rfl y6.heap.size rfl _ _ _ _ hpb Try.underlying48 rfl infoPd (hK _ ?_); clear hK K; simp only [Act.put, List.setIfInBounds_toArray, List.set_cons_succ, List.set_cons_zero])
            | (go_simp; apply Exists.intro; refine ⟨fun y hy => ?_, hK _ ?_⟩; (go_at_call 16; exact Ql.cl_of hy (HIT _ hy)); clear hK K)
            | fail))
          refine wpQuiet_nil ?_
          intro y8 hy8
          have HV8 : Hid (Fv w y8 b ⟨(i : Int), 5, 5⟩ (l.eraseIdx k) l (.slice (some ⟨gl, 0, none⟩) i cl) nx) := HV6.out.below hy8
          clear hpb hb67 ck1 klt HIT hy8 HITS HV6
          go_wp2_with fail
          refine (HRQ.out _).mono ?_
          rintro e y9 ⟨v5, rfl, ho9, hb9⟩
          have HLE : Hid ((l.eraseIdx k).length + 1 = i) := by show (l.eraseIdx k).length + 1 = i; rw [List.length_eraseIdx, if_pos hkl, HLL.out]; have := HK.out; omega
          have HAD : Hid (Calls Try.prog 13 #[.pointer (some ⟨b, 0, none⟩), pv (req nx) v5 (.slice none 0 0)] y9 fun e y => e = .returned (.int .i64 0) ∧ Fv w y b ⟨(i : Int), 5, 5⟩ (l.eraseIdx k ++ [nx]) l (.slice (some ⟨gl, 0, none⟩) i cl) (nx + 1)) := (HV8.out.below hb9).add HCO.out rfl (by have := HNB.out; omega) (by show ((l.eraseIdx k).length : Int) ≠ (i : Int); have := HLE.out; omega) ho9
          clear ho9 hb9
          go_wp2_with fail
          refine HAD.out.mono ?_
          rintro e y10 ⟨rfl, hv10⟩
          have HV10 : Hid (Fv w y10 b ⟨(i : Int), 5, 5⟩ (l.eraseIdx k ++ [nx]) l (.slice (some ⟨gl, 0, none⟩) i cl) (nx + 1)) := hv10
          clear hv10 HAD
          obtain ⟨KK, HKK⟩ : ∃ KK, Hid (k + 1 = KK) := ⟨_, rfl⟩
          have HVW : Hid (Fv w y10.drew b ⟨(i : Int), 5, 5⟩ (l.eraseIdx k ++ [nx]) l (.slice (some ⟨gl, 0, none⟩) i cl) (nx + 1)) := HV10.out.below ((Below.refl _ _).drew)
          have HNT : Hid (∀ x, Below y10.drew.heap.size y10.drew x → (∀ j u, (il (l.take k))[j]? = some u → x.cell? ((⟨gl, 0, none⟩ : Addr).add j) = some u) ∧ (∀ j u, (il (l.drop KK))[j]? = some u → x.cell? ((⟨gl, KK, none⟩ : Addr).add j) = some u)) := fun x hx => ⟨news_take HVW.out.row hx, news_drop HVW.out.row hx⟩
          have HCAP : Hid (i ≤ cl) := by
            rcases HVW.out.row.2 with ⟨e, h0⟩ | ⟨g2, c2, cur, e, -, -, h3, -⟩
            · injection e with e; cases e
            · injection e with _ e1 e2; show i ≤ cl; omega
          have HTL : Hid ((il (l.take k)).length = k ∧ (il (l.drop KK)).length = i - KK) := by
            unfold il
            rw [List.length_map, List.length_map, List.length_take, List.length_drop, HLL.out]
            have := HK.out
            exact ⟨by omega, rfl⟩
          have RA : Hid (R2 y10.drew ((y10.drew.alloc (.cells #[.int .i64 (nx : Int)] tI)).alloc (.cells #[] tI)) (.slice (some ⟨y10.heap.size + 1, 0, none⟩) 0 0) 0 [] (some y10.heap.size) (nx : Int)) := r2_a _ _
          have RB : Hid (R2 y10.drew ((y10.drew.alloc (.cells #[] tI)).alloc (.cells #[.int .i64 (nx : Int)] tI)) (.slice (some ⟨y10.heap.size, 0, none⟩) 0 0) 0 [] (some (y10.heap.size + 1)) (nx : Int)) := r2_b _ _
          have RC : Hid (R2 y10.drew (y10.drew.alloc (.cells #[] tI)) (.slice (some ⟨y10.heap.size, 0, none⟩) 0 0) 0 [] none (nx : Int)) := r2_c _ _
          have hwr : IntKind.i64.wrap ((k : Int) + 1) = ((KK : Nat) : Int) := by rw [Lib0.wrap_i64 _ (by omega) (by have := HK.out; have := HM1.out; omega)]; have := HKK.out; omega
          have q41 : (0 : Int) ≤ (k : Int) := by omega
          have q42 : k ≤ i := by have := HK.out; omega
          have q43 : i ≤ cl := HCAP.out
          have q44 : k ≤ cl := by have := HCAP.out; omega
          have q45 : KK ≤ i := by have := HKK.out; have := HK.out; omega
          have HB300 : Hid (i ≤ 300) := HM1.out.2
          have HCONV : Hid (∀ x v nb, R2 y10.drew x v (0 + k + (i - KK) + 1) ([] ++ il (l.take k) ++ il (l.drop KK) ++ [.int .i64 (nx : Int)]) nb (nx : Int) → ∃ g cap, v = .slice (some ⟨g, 0, none⟩) i cap ∧ Fu w x b ⟨(i : Int), 5, 5⟩ (l.eraseIdx k ++ [nx]) (.slice (some ⟨g, 0, none⟩) i cap) (nx + 1)) := fun x v nb hr => by
            have en : 0 + k + (i - KK) + 1 = i := by have := HKK.out; have := HK.out; omega
            have ex : [] ++ il (l.take k) ++ il (l.drop KK) ++ [Value.int .i64 (nx : Int)] = il (l.eraseIdx k ++ [nx]) := by
              rw [List.nil_append, ← HKK.out, il_erase]
              simp [il]
            have ho := hr.own
            rw [en, ex] at ho
            obtain ⟨g, cap, rfl⟩ : ∃ g cap, v = .slice (some ⟨g, 0, none⟩) i cap := by
              rcases ho.2 with ⟨-, h0⟩ | ⟨g2, c2, cur, e, -⟩
              · have := HM1.out; omega
              · exact ⟨g2, c2, e⟩
            refine ⟨g, cap, rfl, ?_⟩
            have hv := HVW.out.below hr.bel
            refine ⟨hv.tb, ?_, hv.bel, hv.lt⟩
            rw [show (l.eraseIdx k ++ [nx]).length = i by rw [List.length_append, List.length_singleton]; exact HLE.out]
            exact own_base ho HVW.out.bel.size
          have q47 : (nx : Int) + 1 ≤ 9223372036854775807 := by have := HNB.out; omega
          have q48 : (j : Int) + 1 ≤ 9223372036854775807 := by have := HJE.out; omega
          by_cases hcc : cl = KK
          · have HND : Hid (∀ (x : World) j u, (il (l.drop KK))[j]? = some u → x.cell? ((⟨gl, 0, none⟩ : Addr).add j) = some u) := fun x j u hu => by
              have h0 : il (l.drop KK) = [] := List.eq_nil_of_length_eq_zero (by rw [HTL.out.2]; have := HCAP.out; omega)
              rw [h0] at hu
              cases hu
            have hcc2 := hcc.symm
            subst hcc2
            clear hcc q43
            go_wp2_with fail
            go_region_law (first
              | (refine step_rg (by rfl) _ _ (by rfl) y10.drew (some y10.heap.size) (nx : Int) _ 0 [] (by rfl) RA.out ⟨gl, 0, none⟩ k _ (il (l.take k)) (by rfl) HTL.out.1 (HNT.out _ RA.out.bel).1 (il_one l k) (by have := HB300.out; omega) ?_; intro v1 x1 hr1; have HR1 : Hid (R2 y10.drew x1 v1 (0 + k) ([] ++ il (l.take k)) (some y10.heap.size) (nx : Int)) := hr1; clear hr1)
              | (refine step_rg (by rfl) _ _ (by rfl) y10.drew (some (y10.heap.size + 1)) (nx : Int) _ 0 [] (by rfl) RB.out ⟨gl, 0, none⟩ k _ (il (l.take k)) (by rfl) HTL.out.1 (HNT.out _ RB.out.bel).1 (il_one l k) (by have := HB300.out; omega) ?_; intro v1 x1 hr1; have HR1 : Hid (R2 y10.drew x1 v1 (0 + k) ([] ++ il (l.take k)) (some (y10.heap.size + 1)) (nx : Int)) := hr1; clear hr1)
              | (refine step_rg (by rfl) _ _ (by rfl) y10.drew none (nx : Int) _ 0 [] (by rfl) RC.out ⟨gl, 0, none⟩ k _ (il (l.take k)) (by rfl) HTL.out.1 (HNT.out _ RC.out.bel).1 (il_one l k) (by have := HB300.out; omega) ?_; intro v1 x1 hr1; have HR1 : Hid (R2 y10.drew x1 v1 (0 + k) ([] ++ il (l.take k)) none (nx : Int)) := hr1; have HR1N : Hid (R2 y10.drew (x1.alloc (.cells #[.int .i64 (nx : Int)] tI)) v1 (0 + k) ([] ++ il (l.take k)) (some x1.heap.size) (nx : Int)) := hr1.note; clear hr1)
              | (refine step_rg (by rfl) _ _ (by rfl) y10.drew _ (nx : Int) _ (0 + k) _ (by rfl) HR1.out ⟨gl, 0, none⟩ (i - KK) _ (il (l.drop KK)) (by rfl) HTL.out.2 (HND.out _) (il_two l KK) (by have := HB300.out; omega) ?_; intro v2 x2 hr2; have HR2 : Hid (R2 y10.drew x2 v2 (0 + k + (i - KK)) ([] ++ il (l.take k) ++ il (l.drop KK)) _ (nx : Int)) := hr2; try (have HR2N : Hid (R2 y10.drew (x2.alloc (.cells #[.int .i64 (nx : Int)] tI)) v2 (0 + k + (i - KK)) ([] ++ il (l.take k) ++ il (l.drop KK)) (some x2.heap.size) (nx : Int)) := hr2.note); clear hr2)
              | (refine step_rg (by rfl) _ _ (by rfl) y10.drew _ (nx : Int) _ (0 + k) _ (by rfl) HR1N.out ⟨gl, 0, none⟩ (i - KK) _ (il (l.drop KK)) (by rfl) HTL.out.2 (HND.out _) (il_two l KK) (by have := HB300.out; omega) ?_; intro v2 x2 hr2; have HR2 : Hid (R2 y10.drew x2 v2 (0 + k + (i - KK)) ([] ++ il (l.take k) ++ il (l.drop KK)) (some x1.heap.size) (nx : Int)) := hr2; clear hr2)
              | (refine step_rg (by rfl) _ _ (by rfl) y10.drew _ (nx : Int) _ (0 + k + (i - KK)) _ (by rfl) HR2.out ⟨_, 0, none⟩ 1 _ [.int .i64 (nx : Int)] (by rfl) rfl HR2.out.news (by simp [Value.oneCell']) (by have := HB300.out; omega) ?_; intro v3 x3 hr3; have HR3 : Hid (R2 y10.drew x3 v3 (0 + k + (i - KK) + 1) ([] ++ il (l.take k) ++ il (l.drop KK) ++ [.int .i64 (nx : Int)]) _ (nx : Int)) := hr3; clear hr3)
              | (refine step_rg (by rfl) _ _ (by rfl) y10.drew _ (nx : Int) _ (0 + k + (i - KK)) _ (by rfl) HR2N.out ⟨_, 0, none⟩ 1 _ [.int .i64 (nx : Int)] (by rfl) rfl HR2N.out.news (by simp [Value.oneCell']) (by have := HB300.out; omega) ?_; intro v3 x3 hr3; have HR3 : Hid (R2 y10.drew x3 v3 (0 + k + (i - KK) + 1) ([] ++ il (l.take k) ++ il (l.drop KK) ++ [.int .i64 (nx : Int)]) (some x2.heap.size) (nx : Int)) := hr3; clear hr3))
            all_goals (obtain ⟨g9, cap9, rfl, hfu9⟩ := HCONV.out _ _ _ HR3.out)
            all_goals (have HFU9 : Hid _ := hfu9)
            all_goals (clear hfu9 HR3)
            all_goals (go_wp2_with fail)
            all_goals (refine ⟨⟨j + 1, l.eraseIdx k ++ [nx], some ⟨g9, 0, none⟩, cap9, rfl, (by have := HNX.out; first | (congr 1; omega) | (simp; omega)), (by simp), ⟨(by have := HJE.out; omega), (by have := HJE.out; omega)⟩, (by show (l.eraseIdx k ++ [nx]).length = i; rw [List.length_append, List.length_singleton]; exact HLE.out), (by rw [show i + (j + 1) = nx + 1 by have := HNX.out; omega]; exact HFU9.out)⟩, (by have := HJE.out; simp only [intOf]; omega)⟩)
          · have q46 : ¬ cl = KK := hcc
            clear hcc
            go_wp2_with fail
            go_region_law (first
              | (refine step_rg (by rfl) _ _ (by rfl) y10.drew (some y10.heap.size) (nx : Int) _ 0 [] (by rfl) RA.out ⟨gl, 0, none⟩ k _ (il (l.take k)) (by rfl) HTL.out.1 (HNT.out _ RA.out.bel).1 (il_one l k) (by have := HB300.out; omega) ?_; intro v1 x1 hr1; have HR1 : Hid (R2 y10.drew x1 v1 (0 + k) ([] ++ il (l.take k)) (some y10.heap.size) (nx : Int)) := hr1; clear hr1)
              | (refine step_rg (by rfl) _ _ (by rfl) y10.drew (some (y10.heap.size + 1)) (nx : Int) _ 0 [] (by rfl) RB.out ⟨gl, 0, none⟩ k _ (il (l.take k)) (by rfl) HTL.out.1 (HNT.out _ RB.out.bel).1 (il_one l k) (by have := HB300.out; omega) ?_; intro v1 x1 hr1; have HR1 : Hid (R2 y10.drew x1 v1 (0 + k) ([] ++ il (l.take k)) (some (y10.heap.size + 1)) (nx : Int)) := hr1; clear hr1)
              | (refine step_rg (by rfl) _ _ (by rfl) y10.drew none (nx : Int) _ 0 [] (by rfl) RC.out ⟨gl, 0, none⟩ k _ (il (l.take k)) (by rfl) HTL.out.1 (HNT.out _ RC.out.bel).1 (il_one l k) (by have := HB300.out; omega) ?_; intro v1 x1 hr1; have HR1 : Hid (R2 y10.drew x1 v1 (0 + k) ([] ++ il (l.take k)) none (nx : Int)) := hr1; have HR1N : Hid (R2 y10.drew (x1.alloc (.cells #[.int .i64 (nx : Int)] tI)) v1 (0 + k) ([] ++ il (l.take k)) (some x1.heap.size) (nx : Int)) := hr1.note; clear hr1)
              | (refine step_rg (by rfl) _ _ (by rfl) y10.drew _ (nx : Int) _ (0 + k) _ (by rfl) HR1.out ⟨gl, KK, none⟩ (i - KK) _ (il (l.drop KK)) (by rfl) HTL.out.2 (HNT.out _ HR1.out.bel).2 (il_two l KK) (by have := HB300.out; omega) ?_; intro v2 x2 hr2; have HR2 : Hid (R2 y10.drew x2 v2 (0 + k + (i - KK)) ([] ++ il (l.take k) ++ il (l.drop KK)) _ (nx : Int)) := hr2; try (have HR2N : Hid (R2 y10.drew (x2.alloc (.cells #[.int .i64 (nx : Int)] tI)) v2 (0 + k + (i - KK)) ([] ++ il (l.take k) ++ il (l.drop KK)) (some x2.heap.size) (nx : Int)) := hr2.note); clear hr2)
              | (refine step_rg (by rfl) _ _ (by rfl) y10.drew _ (nx : Int) _ (0 + k) _ (by rfl) HR1N.out ⟨gl, KK, none⟩ (i - KK) _ (il (l.drop KK)) (by rfl) HTL.out.2 (HNT.out _ HR1N.out.bel).2 (il_two l KK) (by have := HB300.out; omega) ?_; intro v2 x2 hr2; have HR2 : Hid (R2 y10.drew x2 v2 (0 + k + (i - KK)) ([] ++ il (l.take k) ++ il (l.drop KK)) (some x1.heap.size) (nx : Int)) := hr2; clear hr2)
              | (refine step_rg (by rfl) _ _ (by rfl) y10.drew _ (nx : Int) _ (0 + k + (i - KK)) _ (by rfl) HR2.out ⟨_, 0, none⟩ 1 _ [.int .i64 (nx : Int)] (by rfl) rfl HR2.out.news (by simp [Value.oneCell']) (by have := HB300.out; omega) ?_; intro v3 x3 hr3; have HR3 : Hid (R2 y10.drew x3 v3 (0 + k + (i - KK) + 1) ([] ++ il (l.take k) ++ il (l.drop KK) ++ [.int .i64 (nx : Int)]) _ (nx : Int)) := hr3; clear hr3)
              | (refine step_rg (by rfl) _ _ (by rfl) y10.drew _ (nx : Int) _ (0 + k + (i - KK)) _ (by rfl) HR2N.out ⟨_, 0, none⟩ 1 _ [.int .i64 (nx : Int)] (by rfl) rfl HR2N.out.news (by simp [Value.oneCell']) (by have := HB300.out; omega) ?_; intro v3 x3 hr3; have HR3 : Hid (R2 y10.drew x3 v3 (0 + k + (i - KK) + 1) ([] ++ il (l.take k) ++ il (l.drop KK) ++ [.int .i64 (nx : Int)]) (some x2.heap.size) (nx : Int)) := hr3; clear hr3))
            all_goals (obtain ⟨g9, cap9, rfl, hfu9⟩ := HCONV.out _ _ _ HR3.out)
            all_goals (have HFU9 : Hid _ := hfu9)
            all_goals (clear hfu9 HR3)
            all_goals (go_wp2_with fail)
            all_goals (refine ⟨⟨j + 1, l.eraseIdx k ++ [nx], some ⟨g9, 0, none⟩, cap9, rfl, (by have := HNX.out; first | (congr 1; omega) | (simp; omega)), (by simp), ⟨(by have := HJE.out; omega), (by have := HJE.out; omega)⟩, (by show (l.eraseIdx k ++ [nx]).length = i; rw [List.length_append, List.length_singleton]; exact HLE.out), (by rw [show i + (j + 1) = nx + 1 by have := HNX.out; omega]; exact HFU9.out)⟩, (by have := HJE.out; simp only [intOf]; omega)⟩)
end Go.Proofs.Ytgchdjjafgkcbaa.Fc
