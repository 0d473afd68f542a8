/- WheelSlots: its walk (more than 400 calls). -/
import Derived.Test.YtdhljogcoooomaaSc
import Derived.Test.YtdhljogcoooomaaSo
namespace Go.Proofs.Ytdhljogcoooomaa.Wz
set_option linter.unusedVariables false
set_option linter.unusedSimpArgs false
open Go.RowKit Go.Maps Go.Shelf Lib0 Kb Xp Ii Di Ei Fi Gi Hi Ki Ji Mi Ti Ci Va Vb Vc Vd Ve Sr Sa Sb Sc
attribute [local go_sem] Oper.semAt_some
set_option maxHeartbeats 12800000 in
set_option maxRecDepth 100000 in
theorem walk (a0 a1 : Int) (v2 : Value) (z2 : List So.Opv) (w : World) (w0 : (Lit.int .i64 a0).wf = true) (w1 : (Lit.int .i64 a1).wf = true) (w2 : So.Lies w v2 z2 140737488351232) (hcase : 400 < z2.length) :
    Calls Try.prog 6 #[.int .i64 a0, .int .i64 a1, v2] w fun e w' => e = .returned (.bool true) ∧ Below w.heap.size w w' := by
  have b0 := bnd w0
  have b1 := bnd w1
  have pk0 := fun x => Pick.pick_any a0 4096 x b0.1 b0.2 (by decide) (by decide)
  have pk1 := fun x => Pick.pick_any a1 4096 x b1.1 b1.2 (by decide) (by decide)
  have l0 := Pick.pick_lo a0 4096 (by decide)
  have h0 := Pick.pick_hi a0 4096 (by decide)
  have l1 := Pick.pick_lo a1 4096 (by decide)
  have h1 := Pick.pick_hi a1 4096 (by decide)
  generalize Pick.pickOf a0 4096 = n0 at *
  generalize Pick.pickOf a1 4096 = n1 at *
  obtain ⟨na, hna⟩ : ∃ n : Nat, 1 + n0 = (n : Int) := ⟨(1 + n0).toNat, by omega⟩
  obtain ⟨nb, hnb⟩ : ∃ n : Nat, 1 + n1 = (n : Int) := ⟨(1 + n1).toNat, by omega⟩
  have HA : Hid (1 ≤ na ∧ na ≤ 4096) := ⟨by omega, by omega⟩
  have HB : Hid (1 ≤ nb ∧ nb ≤ 4096) := ⟨by omega, by omega⟩
  have HS2 : Hid (So.Lies w v2 z2 140737488351232) := w2
  obtain ⟨⟨o2, cap2, hv2, -⟩, hbd⟩ := w2
  subst hv2
  obtain ⟨N, HN⟩ : ∃ N, Hid (z2.length = N) := ⟨_, rfl⟩
  rw [HN.out] at hbd hcase ⊢
  have hN1 : N ≤ 9223372036854775807 := by omega
  clear b0 b1 w0 w1 hbd
  refine (callsIn_wide (n := 8)).1 ?_
  refine callsIn_of_wp_marks Try.func6 rfl trivial ?_ rfl
  simp only [Try.ntmps6, List.size_toArray, List.length_cons, List.length_nil, Nat.reduceAdd, Nat.reduceSub, Array.replicate_succ, Array.replicate_zero, List.push_toArray, List.append_toArray, List.nil_append, List.cons_append]
  refine wpIn_wide.2 ?_
  go_wp2_with fail
  have hr := h1_0 w (.cells #[.bool false] 4)
  have hb := below_one w (.cells #[.bool false] 4)
  generalize w.alloc (.cells #[.bool false] 4) = y0 at *
  refine (Xe.examples_any y0).mono ?_
  rintro e y1 ⟨rfl, k⟩
  replace hr := kept k hr
  replace hb := keepB hb k
  clear k y0
  go_wp2_with fail
  refine (pk0 _).mono ?_
  rintro e x0 ⟨rfl, hx0⟩
  rw [hx0]
  clear hx0 x0 pk0
  go_wp2_with fail
  try rw [hna]
  have HNA : Hid (1 + n0 = (na : Int)) := hna
  clear hna l0 h0
  refine (new_yes na y1 HA.out.1 HA.out.2).mono ?_
  rintro e y2 ⟨a, rfl, A, hW, k, hA⟩
  replace hr := kept k hr
  have HA1 : Hid (Wl y2 a A na [] 0 0 ∧ ∀ g, A g → w.heap.size ≤ g) := ⟨hW, fun g hg => Nat.le_trans hb.size (hA g hg)⟩
  replace hb := keepB hb k
  clear k hW hA y1
  go_wp2_with fail
  refine (pk1 _).mono ?_
  rintro e x0 ⟨rfl, hx0⟩
  rw [hx0]
  clear hx0 x0 pk1
  go_wp2_with fail
  try rw [hnb]
  have HNB : Hid (1 + n1 = (nb : Int)) := hnb
  clear hnb l1 h1
  refine (new_yes nb y2 HB.out.1 HB.out.2).mono ?_
  rintro e y3 ⟨b, rfl, B, hW, k, hB⟩
  have HTW : Hid (Two w y3 a b na nb [] 0 0 [] 0 0 w.heap.size) := by
    refine ⟨⟨A, B, HA1.out.1.below k, hW, fun g h1 h2 => ?_, HA1.out.2, fun g hg => Nat.le_trans hb.size (hB g hg)⟩, keepB hb k, Ti.Ok.new HA.out.1 HA.out.2, Ti.Ok.new HB.out.1 HB.out.2, kept k hr⟩
    have := HA1.out.1.lt g h1
    have := hB g h2
    omega
  clear k hW hB hr hb HA1 y2
  obtain ⟨R, HR⟩ : ∃ R, Hid (w.heap.size = R) := ⟨_, rfl⟩
  rw [HR.out] at HTW ⊢
  go_wp2_with fail
  go_loopw [12, 13, 14, 15, 16, 17, 18, 19, 20, 21, 22, 23, 24, 25, 26, 27] (fun iv _ _ _ _ _ _ _ _ _ _ _ _ _ _ _ wr => ∃ (i : Nat) (T : List T3) (now last : Int), iv = .int .i64 (i : Int) ∧ i ≤ N ∧ i ≤ 400 ∧ now ≤ 50 * (i : Int) ∧ last ≤ (i : Int) ∧ Hid (Two w wr a b na nb T now last T now last R)) (fun iv _ _ _ _ _ _ _ _ _ _ _ _ _ _ _ _ => 401 - (intOf iv).toNat)
  case atStart => exact ⟨0, [], 0, 0, rfl, Nat.zero_le _, by omega, by omega, by omega, HTW.out⟩
  case round =>
    obtain ⟨i, T, now, last, rfl, hiN, hi4, hnow, hlast, HT⟩ := hrel
    by_cases hlt : i < N ∧ i < 400
    · obtain ⟨hc1, hc2⟩ := hlt
      have q0 : (i : Int) < (N : Int) := by omega
      have q1 : (0 : Int) ≤ (i : Int) := by omega
      have q2 : (i : Int) < 400 := by omega
      have q3 : (i : Int) + 1 ≤ 9223372036854775807 := by omega
      obtain ⟨⟨o2', cap2', ho2, hat⟩, -⟩ := HS2.out
      rw [HN.out] at ho2
      injection ho2 with ho21 _ ho22
      subst ho21 ho22
      have hiz : i < z2.length := by rw [HN.out]; exact hc1
      obtain ⟨oa, rfl, hat1, hfine⟩ := hat i hiz
      obtain ⟨op, hop⟩ : ∃ op, z2[i]'hiz = op := ⟨_, rfl⟩
      rw [hop] at hat1 hfine
      obtain ⟨K, tw, n⟩ := op
      obtain ⟨c0, c1, c2⟩ := So.at_below hat1 rfl HT.out.below
      obtain ⟨wK, -, wN⟩ := hfine
      dsimp only at c0 c1 c2 wK wN
      rw [So.add_field _ _ _ (by decide)] at c1 c2
      have HKC : Hid (∀ x, Below w.heap.size w x → x.cell? (oa.add (i * 3)) = some (.int .i64 K)) := fun x hx => (So.at_below hat1 rfl hx).1
      have HWN : Hid ((Lit.int .i64 n).wf = true) := wN
      have bn := bnd wN
      have bn1 := bn.1
      have bn2 := bn.2
      have n0' := HT.out.oka.now0
      have l0' := HT.out.oka.last0
      clear hop hat hat1 hiz c1 wK wN bn hcase
      by_cases hK1 : K = 1
      · subst hK1
        have HA1 := add_a HT.out n (i : Int) (by omega)
        have hal := aL_le last n
        obtain ⟨r1, hr1⟩ : ∃ r, aN last n = r := ⟨_, rfl⟩
        obtain ⟨r2, hr2⟩ : ∃ r, aE n = r := ⟨_, rfl⟩
        rw [hr1, hr2] at HA1
        have HR12 : Hid (aN last n = r1 ∧ aE n = r2) := ⟨hr1, hr2⟩
        clear hr1 hr2
        go_wp2_with fail
        refine HA1.mono ?_
        rintro e x1 ⟨rfl, ht1⟩
        have HT1 : Hid (Two w x1 a b na nb (aT T now last n i) now (aL last n) T now last R) := ht1
        clear ht1 HA1 HT c0 c2
        have HA2 := add_b HT1.out n (i : Int) (by omega)
        rw [HR12.out.1, HR12.out.2] at HA2
        go_wp2_with fail
        refine HA2.mono ?_
        rintro e x2 ⟨rfl, ht1⟩
        have HT2 : Hid (Two w x2 a b na nb (aT T now last n i) now (aL last n) (aT T now last n i) now (aL last n) R) := ht1
        clear ht1 HA2 HT1
        obtain ⟨T1, HTT⟩ : ∃ T1, Hid (aT T now last n i = T1) := ⟨_, rfl⟩
        obtain ⟨l1, hl1⟩ : ∃ l1, aL last n = l1 := ⟨_, rfl⟩
        rw [HTT.out, hl1] at HT2
        rw [hl1] at hal
        have HT1 := HT2
        clear hl1 HT2 HTT
        have HLa := left_a HT1.out n HWN.out
        have HLb := left_a HT1.out.swap n HWN.out
        have HM1 := len_a HT1.out
        have HM2 := len_a HT1.out.swap
        have HM3 := now_a HT1.out
        have HM4 := now_a HT1.out.swap
        obtain ⟨r1, hr1⟩ : ∃ r, lfN (T1.map emb) now n = r := ⟨_, rfl⟩
        obtain ⟨r2, hr2⟩ : ∃ r, lfE (T1.map emb) n = r := ⟨_, rfl⟩
        obtain ⟨r3, hr3⟩ : ∃ r, (T1).length = r := ⟨_, rfl⟩
        rw [hr1, hr2] at HLa HLb
        rw [hr3] at HM1 HM2
        clear hr1 hr2 hr3
        go_wp2_with fail
        refine HLa.mono ?_
        rintro e x0 ⟨rfl, hx0⟩
        rw [hx0]
        clear hx0 x0
        go_wp2_with fail
        refine HLb.mono ?_
        rintro e x0 ⟨rfl, hx0⟩
        rw [hx0]
        clear hx0 x0 HLa HLb
        go_wp2_with (first | (go_at_call_of 11 (Value.pointer (some ⟨a, 0, none⟩)); refine HM1.mono ?_; rintro e x0 ⟨rfl, hx0⟩; rw [hx0]; clear hx0 x0) | (go_at_call_of 11 (Value.pointer (some ⟨b, 0, none⟩)); refine HM2.mono ?_; rintro e x0 ⟨rfl, hx0⟩; rw [hx0]; clear hx0 x0) | (go_at_call_of 12 (Value.pointer (some ⟨a, 0, none⟩)); refine HM3.mono ?_; rintro e x0 ⟨rfl, hx0⟩; rw [hx0]; clear hx0 x0) | (go_at_call_of 12 (Value.pointer (some ⟨b, 0, none⟩)); refine HM4.mono ?_; rintro e x0 ⟨rfl, hx0⟩; rw [hx0]; clear hx0 x0) | fail)
        exact ⟨⟨i + 1, T1, now, l1, by simp, by omega, by omega, by omega, by omega, HT1⟩, by simp only [intOf]; omega⟩
      · by_cases hK2 : K = 2
        · subst hK2
          have pc := fun x => Pick.pick_any n 50 x bn1 bn2 (by decide) (by decide)
          have p0 := Pick.pick_lo n 50 (by decide)
          have p1 := Pick.pick_hi n 50 (by decide)
          generalize Pick.pickOf n 50 = pz at *
          obtain ⟨P, rfl⟩ := Int.eq_ofNat_of_zero_le p0
          obtain ⟨wq, hwq⟩ : ∃ wq, wq = wr := ⟨_, rfl⟩
          subst hwq
          go_wp2_with fail
          go_loopw [18, 19] (fun kv _ wr => ∃ (k : Nat) (T2 : List T3), kv = .int .i64 (k : Int) ∧ k ≤ P + 1 ∧ Hid (Two w wr a b na nb T2 (now + k) last T2 (now + k) last R)) (fun kv _ _ => P + 2 - (intOf kv).toNat)
          case atStart => exact ⟨0, T, rfl, Nat.zero_le _, by rw [show now + ((0 : Nat) : Int) = now by omega]; exact HT⟩
          case round =>
            obtain ⟨k, T2, rfl, hk, HTk⟩ := hrel
            by_cases hkP : k < P + 1
            · have s0 : (k : Int) ≤ (P : Int) := by omega
              have s1 : (k : Int) + 1 ≤ 9223372036854775807 := by omega
              go_wp2_with fail
              refine (pc _).mono ?_
              rintro e x0 ⟨rfl, hx0⟩
              rw [hx0]
              clear hx0 x0
              go_wp2_with fail
              refine (tick_a HTk.out (by omega)).mono ?_
              rintro e x1 ⟨va, rfl, hva, ht1⟩
              have HTa : Hid (Two w x1 a b na nb (tT T2 (now + k)) (now + k + 1) last T2 (now + k) last R) := ht1
              have HVa : Hid (x1.ownsRow wr.heap.size tI 1 va (tZ T2 (now + k)).length (ints (tZ T2 (now + k)))) := hva
              clear ht1 hva
              go_wp2_with fail
              refine (tick_b2 HTa.out (by omega) HVa.out).mono ?_
              rintro e x2 ⟨vb, rfl, hvb, ht2, hva2⟩
              have HTb : Hid (Two w x2 a b na nb (tT T2 (now + k)) (now + k + 1) last (tT T2 (now + k)) (now + k + 1) last R) := ht2
              have hzl : (tZ T2 (now + k)).length ≤ 4611686018427387904 := by
                obtain ⟨A, hA, -⟩ := HTk.out.forA
                obtain ⟨sb, mb, S, cc, D, hm, -⟩ := hA
                have h1 := Wm.len hm
                have h2 : (tZ T2 (now + k)).length ≤ T2.length := by rw [tZ, List.length_map]; exact List.length_filter_le _ _
                rw [List.length_map] at h1
                omega
              have hsm := same_yes x2 _ _ va vb _ hva2 hvb hzl
              clear ht2 hvb hva2 HVa HTa hzl
              go_wp2_with fail
              refine hsm.mono ?_
              rintro e x3 ⟨rfl, hb3⟩
              have HTc : Hid (Two w x3 a b na nb (tT T2 (now + k)) (now + k + 1) last (tT T2 (now + k)) (now + k + 1) last R) := HTb.out.keep hb3
              clear hsm hb3 HTb
              go_wp2_with fail
              exact ⟨⟨k + 1, tT T2 (now + k), by simp, by omega, by rw [show now + ((k + 1 : Nat) : Int) = now + k + 1 by omega]; exact HTc⟩, by simp only [intOf]; omega⟩
            · have s0 : (P : Int) < (k : Int) := by omega
              have s2 : ¬ k ≤ P := by omega
              have s3 : P < k := by omega
              have HT1 : Hid (Two w wr a b na nb T2 (now + k) last T2 (now + k) last R) := HTk
              have hkk : k ≤ 50 := by omega
              clear hk hkP HTk
              go_wp2_with fail
              refine (pc _).mono ?_
              rintro e x0 ⟨rfl, hx0⟩
              rw [hx0]
              clear hx0 x0 pc
              have HLa := left_a HT1.out n HWN.out
              have HLb := left_a HT1.out.swap n HWN.out
              have HM1 := len_a HT1.out
              have HM2 := len_a HT1.out.swap
              have HM3 := now_a HT1.out
              have HM4 := now_a HT1.out.swap
              obtain ⟨r1, hr1⟩ : ∃ r, lfN (T2.map emb) (now + k) n = r := ⟨_, rfl⟩
              obtain ⟨r2, hr2⟩ : ∃ r, lfE (T2.map emb) n = r := ⟨_, rfl⟩
              obtain ⟨r3, hr3⟩ : ∃ r, (T2).length = r := ⟨_, rfl⟩
              rw [hr1, hr2] at HLa HLb
              rw [hr3] at HM1 HM2
              clear hr1 hr2 hr3
              go_wp2_with fail
              refine HLa.mono ?_
              rintro e x0 ⟨rfl, hx0⟩
              rw [hx0]
              clear hx0 x0
              go_wp2_with fail
              refine HLb.mono ?_
              rintro e x0 ⟨rfl, hx0⟩
              rw [hx0]
              clear hx0 x0 HLa HLb
              go_wp2_with (first | (go_at_call_of 11 (Value.pointer (some ⟨a, 0, none⟩)); refine HM1.mono ?_; rintro e x0 ⟨rfl, hx0⟩; rw [hx0]; clear hx0 x0) | (go_at_call_of 11 (Value.pointer (some ⟨b, 0, none⟩)); refine HM2.mono ?_; rintro e x0 ⟨rfl, hx0⟩; rw [hx0]; clear hx0 x0) | (go_at_call_of 12 (Value.pointer (some ⟨a, 0, none⟩)); refine HM3.mono ?_; rintro e x0 ⟨rfl, hx0⟩; rw [hx0]; clear hx0 x0) | (go_at_call_of 12 (Value.pointer (some ⟨b, 0, none⟩)); refine HM4.mono ?_; rintro e x0 ⟨rfl, hx0⟩; rw [hx0]; clear hx0 x0) | fail)
              exact ⟨⟨i + 1, T2, (now + k), last, by simp, by omega, by omega, by omega, by omega, HT1⟩, by simp only [intOf]; omega⟩
        · by_cases hK3 : K = 3
          · subst hK3
            have HA1 := cancel_a HT.out n HWN.out
            obtain ⟨r1, hr1⟩ : ∃ r, cN T n = r := ⟨_, rfl⟩
            obtain ⟨r2, hr2⟩ : ∃ r, cE T n = r := ⟨_, rfl⟩
            rw [hr1, hr2] at HA1
            have HR12 : Hid (cN T n = r1 ∧ cE T n = r2) := ⟨hr1, hr2⟩
            clear hr1 hr2
            go_wp2_with fail
            refine HA1.mono ?_
            rintro e x1 ⟨rfl, ht1⟩
            have HT1 : Hid (Two w x1 a b na nb (cT T n) now last T now last R) := ht1
            clear ht1 HA1 HT c0 c2
            have HA2 := cancel_b HT1.out n HWN.out
            rw [HR12.out.1, HR12.out.2] at HA2
            go_wp2_with fail
            refine HA2.mono ?_
            rintro e x2 ⟨rfl, ht1⟩
            have HT2 : Hid (Two w x2 a b na nb (cT T n) now last (cT T n) now last R) := ht1
            clear ht1 HA2 HT1
            obtain ⟨T1, HTT⟩ : ∃ T1, Hid (cT T n = T1) := ⟨_, rfl⟩
            rw [HTT.out] at HT2
            have HT1 := HT2
            clear HT2 HTT
            have HLa := left_a HT1.out n HWN.out
            have HLb := left_a HT1.out.swap n HWN.out
            have HM1 := len_a HT1.out
            have HM2 := len_a HT1.out.swap
            have HM3 := now_a HT1.out
            have HM4 := now_a HT1.out.swap
            obtain ⟨r1, hr1⟩ : ∃ r, lfN (T1.map emb) now n = r := ⟨_, rfl⟩
            obtain ⟨r2, hr2⟩ : ∃ r, lfE (T1.map emb) n = r := ⟨_, rfl⟩
            obtain ⟨r3, hr3⟩ : ∃ r, (T1).length = r := ⟨_, rfl⟩
            rw [hr1, hr2] at HLa HLb
            rw [hr3] at HM1 HM2
            clear hr1 hr2 hr3
            go_wp2_with fail
            refine HLa.mono ?_
            rintro e x0 ⟨rfl, hx0⟩
            rw [hx0]
            clear hx0 x0
            go_wp2_with fail
            refine HLb.mono ?_
            rintro e x0 ⟨rfl, hx0⟩
            rw [hx0]
            clear hx0 x0 HLa HLb
            go_wp2_with (first | (go_at_call_of 11 (Value.pointer (some ⟨a, 0, none⟩)); refine HM1.mono ?_; rintro e x0 ⟨rfl, hx0⟩; rw [hx0]; clear hx0 x0) | (go_at_call_of 11 (Value.pointer (some ⟨b, 0, none⟩)); refine HM2.mono ?_; rintro e x0 ⟨rfl, hx0⟩; rw [hx0]; clear hx0 x0) | (go_at_call_of 12 (Value.pointer (some ⟨a, 0, none⟩)); refine HM3.mono ?_; rintro e x0 ⟨rfl, hx0⟩; rw [hx0]; clear hx0 x0) | (go_at_call_of 12 (Value.pointer (some ⟨b, 0, none⟩)); refine HM4.mono ?_; rintro e x0 ⟨rfl, hx0⟩; rw [hx0]; clear hx0 x0) | fail)
            exact ⟨⟨i + 1, T1, now, last, by simp, by omega, by omega, by omega, by omega, HT1⟩, by simp only [intOf]; omega⟩
          · have e1 : (K == 1) = false := by simpa using hK1
            have e2 : (K == 2) = false := by simpa using hK2
            have e3 : (K == 3) = false := by simpa using hK3
            have HT1 := HT
            clear HT hK1 hK2 hK3
            have HLa := left_a HT1.out n HWN.out
            have HLb := left_a HT1.out.swap n HWN.out
            have HM1 := len_a HT1.out
            have HM2 := len_a HT1.out.swap
            have HM3 := now_a HT1.out
            have HM4 := now_a HT1.out.swap
            obtain ⟨r1, hr1⟩ : ∃ r, lfN (T.map emb) now n = r := ⟨_, rfl⟩
            obtain ⟨r2, hr2⟩ : ∃ r, lfE (T.map emb) n = r := ⟨_, rfl⟩
            obtain ⟨r3, hr3⟩ : ∃ r, (T).length = r := ⟨_, rfl⟩
            rw [hr1, hr2] at HLa HLb
            rw [hr3] at HM1 HM2
            clear hr1 hr2 hr3
            go_wp2_with fail
            refine HLa.mono ?_
            rintro e x0 ⟨rfl, hx0⟩
            rw [hx0]
            clear hx0 x0
            go_wp2_with fail
            refine HLb.mono ?_
            rintro e x0 ⟨rfl, hx0⟩
            rw [hx0]
            clear hx0 x0 HLa HLb
            go_wp2_with (first | (go_at_call_of 11 (Value.pointer (some ⟨a, 0, none⟩)); refine HM1.mono ?_; rintro e x0 ⟨rfl, hx0⟩; rw [hx0]; clear hx0 x0) | (go_at_call_of 11 (Value.pointer (some ⟨b, 0, none⟩)); refine HM2.mono ?_; rintro e x0 ⟨rfl, hx0⟩; rw [hx0]; clear hx0 x0) | (go_at_call_of 12 (Value.pointer (some ⟨a, 0, none⟩)); refine HM3.mono ?_; rintro e x0 ⟨rfl, hx0⟩; rw [hx0]; clear hx0 x0) | (go_at_call_of 12 (Value.pointer (some ⟨b, 0, none⟩)); refine HM4.mono ?_; rintro e x0 ⟨rfl, hx0⟩; rw [hx0]; clear hx0 x0) | fail)
            exact ⟨⟨i + 1, T, now, last, by simp, by omega, by omega, by omega, by omega, HT1⟩, by simp only [intOf]; omega⟩
    · have q0 : (i : Int) < (N : Int) := by omega
      have q2 : ¬ (i : Int) < 400 := by omega
      have hsz0 : w.heap.size < wr.heap.size := by
        have := (Array.getElem?_eq_some_iff.1 HT.out.res).1
        rw [HR.out]; exact this
      have HI3 : Hid (Inc3 T) := inc_emb HT.out.oka.inc
      have HTL : Hid (T.length ≤ 400) := by
        obtain ⟨A, hA, -⟩ := HT.out.forA
        obtain ⟨sb, mb, S, cc, D, hm, -⟩ := hA
        have h1 := Wm.len hm
        rw [List.length_map] at h1
        show T.length ≤ 400
        omega
      obtain ⟨i0, hi, hz0, hz1, hz2⟩ := info_parts infoI
      clear hlt hiN hi4 hnow hlast hcase HTW HA HB HS2
      go_wp2_with fail
      have hlb := h1_0 wr (.cells #[.slice none 0 0] tSI)
      have kk := below_one wr (.cells #[.slice none 0 0] tSI)
      have hs5 : (wr.alloc (.cells #[.slice none 0 0] tSI)).heap.size = wr.heap.size + 1 := by simp
      have HT5 : Hid (Two w (wr.alloc (.cells #[.slice none 0 0] tSI)) a b na nb T now last T now last R) := HT.out.keep kk
      obtain ⟨y5, hy5⟩ : ∃ y5, wr.alloc (.cells #[.slice none 0 0] tSI) = y5 := ⟨_, rfl⟩
      rw [hy5] at hlb kk hs5 HT5
      try rw [hy5]
      clear hy5
      refine (all_any a y5).mono ?_
      rintro e y6 ⟨rfl, hy6⟩
      have hbt : y6.heap[y5.heap.size]? = some (.cells #[.pointer (some ⟨a, 0, none⟩)] tPW) := by rw [hy6]; exact h1_0 y5 _
      have k6 : Below y5.heap.size y5 y6 := by rw [hy6]; exact below_one y5 _
      have hs6 : y6.heap.size = wr.heap.size + 1 + 1 := by rw [hy6]; simp [hs5]
      have HT6 : Hid (Two w y6 a b na nb T now last T now last R) := HT5.out.keep k6
      replace hlb := kept k6 hlb
      rw [hs5] at hbt ⊢
      obtain ⟨lb, HLB⟩ : ∃ lb, Hid (wr.heap.size = lb) := ⟨_, rfl⟩
      rw [HLB.out] at hlb hbt hs6 hsz0 ⊢
      obtain ⟨A6, hA6, -⟩ := HT6.out.forA
      have hseq := fun n => goes_all kl_kept n y6 a A6 na T now last (lb + 1) (fun _ _ _ _ _ _ => trivial) hA6 HT6.out.oka hbt
      obtain ⟨Q, HQ⟩ : ∃ Q, Hid (ordT T = Q) := ⟨_, rfl⟩
      rw [HQ.out] at hseq
      have HQL : Hid (Q.length ≤ 400) := by
        have h1 := ord_len T
        have h2 := HTL.out
        rw [HQ.out] at h1
        show Q.length ≤ 400
        omega
      have hb6 := HT6.out.below
      clear hy6 k6 kk HT5 HT hs5 hA6 y5 HLB
      go_wp2_with fail
      refine (wpIn_wide (n := 8)).1 ?_
      refine range2 (by omega) (gf := 41) (lb := #[.pointer (some ⟨lb + 1, 0, none⟩)]) rfl (enters_of Try.func41 (by kernel_rfl) rfl)
        (hseq _) kl_t (fun W l o o' _ h hc _ => kl_b W l o o' h hc) kl_r (Below.refl _ _) 29 30
        (fun pre W => I1 w y6 lb pre W) (fun _ _ _ => False)
        (I1_own (by omega)) (fun c s A B row hs hg hr => hs) ⟨.slice none 0 0, hlb, World.ownsRow_nil _ _ _ _, ⟨Nat.le_refl _, fun _ _ _ => rfl⟩, hb6⟩ ?assign ?body ?done ?stop
      case assign =>
        intro l x W K hK
        gi_wp2
        exact hK
      case stop =>
        rintro D c pre W hD hp h hK
        exact h.elim
      case body =>
        rintro l pre x W hl hI hpx
        simp only [List.setIfInBounds_toArray, List.set_cons_succ, List.set_cons_zero]
        have hpl : (fl pre).length ≤ 798 := by
          have h1 := hpx.length_le
          have h2 := HQL.out
          rw [fl_len]
          simp at h1
          omega
        obtain ⟨x0, x1, x2⟩ := x
        obtain ⟨lv, a1, a2, a3, a4⟩ := hI
        have cl : W.cell? ⟨lb, 0, none⟩ = some lv := by simp [World.cell?, a1]
        have HST := fun {w1 : World} {v' : Value} {o : Obj} (h1 : w1.ownsRow y6.heap.size tI 1 v' ((fl pre).length + 2) (ints (fl pre) ++ [.int .i64 x0, .int .i64 x2])) (h2 : (W.alloc o).grownBy w1 lv.ownBlock) => I1_step (x := (x0, x1, x2)) (Nat.le_of_lt hsz0) (by omega : lb < y6.heap.size) a1 a2 a3 a4 h1 h2
        have HSTH : Hid (∀ {w1 : World} {v' : Value} {o : Obj}, w1.ownsRow y6.heap.size tI 1 v' ((fl pre).length + 2) (ints (fl pre) ++ [.int .i64 x0, .int .i64 x2]) → (W.alloc o).grownBy w1 lv.ownBlock → KeepsFrom y6.heap.size W (w1.setCell ⟨lb, 0, none⟩ v') ∧ KL W (w1.setCell ⟨lb, 0, none⟩ v') ∧ I1 w y6 lb (pre ++ [(x0, x1, x2)]) (w1.setCell ⟨lb, 0, none⟩ v')) := HST
        have HU : Hid (∀ {w1 : World} {o : Obj}, (W.alloc o).grownBy w1 lv.ownBlock → w1.cell? ⟨lb, 0, none⟩ = some lv ∧ w1.frozen? ⟨lb, 0, none⟩ = false) := fun {w1 o} h2 => by
          have u1 := gk h2 (kept (below_one _ o) a1) (fun e => by have := (a2.lt lb e).1; omega)
          exact ⟨by simp [World.cell?, u1], by simp [World.frozen?, u1]⟩
        have HA2 : Hid (W.ownsRow y6.heap.size tI 1 lv (fl pre).length (ints (fl pre))) := a2
        have HSZ : Hid (y6.heap.size ≤ W.heap.size) := a3.1
        clear HST a1 a2 a3 a4 hpx
        gi_wp2_with (gi_at_builtin; refine wpListIn_append_own _ rfl _ _ _ rfl y6.heap.size tI i0 _ 1 8 Try.underlying45 hi hz0 hz1 hz2 rfl (by omega) _ (fl pre).length _ rfl (HA2.out.alloc _) _ 2 2 _ rfl (by rfl) (World.news_of_block (h1_0 W _)) (by simp [Value.oneCell']) (by unfold maxLen; omega) (by omega) (by have := HSZ.out; simp; omega) ?_; intro v' w1 hown1 hgrow hnil; obtain ⟨g', cap', rfl⟩ := ownsRow_succ2 hown1; obtain ⟨u1, u2⟩ := HU.out hgrow)
        have h9 := HSTH.out hown1 hgrow
        exact ⟨by rw [← hs6]; exact h9.1, h9.2.1, h9.2.2⟩
      case done =>
        rintro D W hD hI hK
        obtain ⟨lv, a1, a2, a3, a4⟩ := hI
        have HKD : Hid (W.heap[D]? = some (.deferred (some []))) := hK
        have hRR := HT6.out.res
        have HT7 : Hid (Two w W a b na nb T now last T now last R) := Sc.Two.old HT6.out hlb (by decide) (ty_ne hRR hlb (by decide)) a3 a4
        have HA1 : Hid (W.heap[lb]? = some (.cells #[lv] tSI)) := a1
        have HA2 : Hid (W.ownsRow y6.heap.size tI 1 lv (fl Q).length (ints (fl Q))) := a2
        have HDW : Hid (D < W.heap.size) := (Array.getElem?_eq_some_iff.1 hK).1
        have HDL : Hid (lb < D) := by show lb < D; omega
        have HRL : Hid (R < lb) := by
          have := (Array.getElem?_eq_some_iff.1 hRR).1
          have h3 := HR.out
          show R < lb
          omega
        clear hK a1 a2 a3 a4 hRR HT6 hlb hbt hseq hb6
        go_wp2_with fail
        have hib := h1_0 W (.cells #[.int .i64 0] tI)
        have kk := below_one W (.cells #[.int .i64 0] tI)
        have hs7 : (W.alloc (.cells #[.int .i64 0] tI)).heap.size = W.heap.size + 1 := by simp
        have HT7b : Hid (Two w (W.alloc (.cells #[.int .i64 0] tI)) a b na nb T now last T now last R) := HT7.out.keep kk
        obtain ⟨y7, hy7⟩ : ∃ y7, W.alloc (.cells #[.int .i64 0] tI) = y7 := ⟨_, rfl⟩
        rw [hy7] at hib kk hs7 HT7b
        try rw [hy7]
        clear hy7
        refine (all_any b y7).mono ?_
        rintro e y8 ⟨rfl, hy8⟩
        have hbt : y8.heap[y7.heap.size]? = some (.cells #[.pointer (some ⟨b, 0, none⟩)] tPW) := by rw [hy8]; exact h1_0 y7 _
        have k8 : Below y7.heap.size y7 y8 := by rw [hy8]; exact below_one y7 _
        have hs8 : y8.heap.size = W.heap.size + 1 + 1 := by rw [hy8]; simp [hs7]
        have kw8 : Below W.heap.size W y8 := keepB kk k8
        have HT8 : Hid (Two w y8 a b na nb T now last T now last R) := HT7b.out.keep k8
        have HKD8 : Hid (y8.heap[D]? = some (.deferred (some []))) := kept kw8 HKD.out
        have HA18 : Hid (y8.heap[lb]? = some (.cells #[lv] tSI)) := kept kw8 HA1.out
        have HA28 : Hid (y8.ownsRow y6.heap.size tI 1 lv (fl Q).length (ints (fl Q)) ∧ ∀ g, lv.ownBlock = some g → g < W.heap.size) := ⟨own_below HA2.out kw8, fun g hg => (HA2.out.lt g hg).2⟩
        replace hib := kept k8 hib
        rw [hs7] at hbt ⊢
        obtain ⟨ib, HIB⟩ : ∃ ib, Hid (W.heap.size = ib) := ⟨_, rfl⟩
        rw [HIB.out] at hib hbt hs8 HDW HA28 ⊢
        obtain ⟨B8, hB8, -⟩ := HT8.out.forB
        have hseq := fun n => goes_all kl_kept n y8 b B8 nb T now last (ib + 1) (fun _ _ _ _ _ _ => trivial) hB8 HT8.out.okb hbt
        rw [HQ.out] at hseq
        have hb8 := HT8.out.below
        have hws : w.heap.size ≤ ib := by have := HDW.out; have := HDL.out; have := HRL.out; have := HR.out; omega
        clear hy8 k8 kk kw8 HT7b HT7 hs7 hB8 y7 HIB HKD HA1 HA2 W
        go_wp2_with fail
        refine (wpIn_wide (n := 8)).1 ?_
        refine range2 (by omega) (gf := 41) (lb := #[.pointer (some ⟨ib + 1, 0, none⟩)]) rfl (enters_of Try.func41 (by kernel_rfl) rfl)
          (hseq _) kl_t (fun W l o o' _ h hc _ => kl_b W l o o' h hc) kl_r (Below.refl _ _) 32 33
          (fun pre W => I2 w y8 ib pre W) (fun _ _ _ => False)
          (I2_own (by omega)) (fun c s A B row hs hg hr => hs) ⟨hib, ⟨Nat.le_refl _, fun _ _ _ => rfl⟩, hb8⟩ ?assign2 ?body2 ?done2 ?stop2
        case assign2 =>
          intro l x W K hK
          gi_wp2
          exact hK
        case stop2 =>
          rintro D c pre W hD hp h hK
          exact h.elim
        case body2 =>
          rintro l pre x V hl hI hpx
          simp only [List.setIfInBounds_toArray, List.set_cons_succ, List.set_cons_zero]
          have hlen : pre.length < Q.length := by have := hpx.length_le; simp at this; omega
          have hLx : Q[pre.length]'hlen = x := by
            obtain ⟨t, ht⟩ := hpx
            have : Q[pre.length]? = some x := by rw [← ht]; simp
            rw [List.getElem?_eq_getElem hlen] at this
            exact Option.some.inj this
          have HSTP : Hid (KeepsFrom y8.heap.size V (V.setCell ⟨ib, 0, none⟩ (.int .i64 (((2 * pre.length : Nat) : Int) + 2))) ∧ KL V (V.setCell ⟨ib, 0, none⟩ (.int .i64 (((2 * pre.length : Nat) : Int) + 2))) ∧ I2 w y8 ib (pre ++ [x]) (V.setCell ⟨ib, 0, none⟩ (.int .i64 (((2 * pre.length : Nat) : Int) + 2)))) := I2_step hws hI
          obtain ⟨b1, b2, b3⟩ := hI
          have hfa := fl_at Q pre.length hlen
          rw [hLx] at hfa
          have hlbV : V.heap[lb]? = some (.cells #[lv] tSI) := (b2.2 lb (Array.getElem?_eq_some_iff.1 HA18.out).1 (by have := HDW.out; have := HDL.out; omega)).trans HA18.out
          have hrow : V.ownsRow y6.heap.size tI 1 lv (fl Q).length (ints (fl Q)) := own_keep HA28.out.1 fun g hg => b2.2 g (HA28.out.1.lt g hg).2 (by have := HA28.out.2 g hg; omega)
          have hq4 := HQL.out
          have hfl := fl_len Q
          obtain ⟨g9, cp9, u0, e9, x9, c90, -⟩ := row_at hrow (2 * pre.length) (by rw [hfl]; omega)
          obtain ⟨g8, cp8, u1, e8, x8, c91, -⟩ := row_at hrow (2 * pre.length + 1) (by rw [hfl]; omega)
          have hg : g9 = g8 := by
            rw [e9] at e8
            injection e8 with h1
            injection h1 with h1
            injection h1
          rw [← hg] at c91
          rw [ints, List.getElem?_map, hfa.1] at x9
          rw [ints, List.getElem?_map, hfa.2] at x8
          obtain ⟨x0, x1, x2⟩ := x
          have ex0 : u0 = .int .i64 x0 := by simpa using x9.symm
          have ex1 : u1 = .int .i64 x2 := by simpa using x8.symm
          rw [ex0] at c90
          rw [ex1] at c91
          have cl : V.cell? ⟨lb, 0, none⟩ = some lv := by simp [World.cell?, hlbV]
          have ci : V.cell? ⟨ib, 0, none⟩ = some (.int .i64 ((2 * pre.length : Nat) : Int)) := by simp [World.cell?, b1]
          have fi : V.frozen? ⟨ib, 0, none⟩ = false := by simp [World.frozen?, b1]
          rw [e9] at cl
          obtain ⟨P2, HP2⟩ : ∃ P2, Hid (2 * pre.length = P2) := ⟨_, rfl⟩
          obtain ⟨NL, HNL⟩ : ∃ NL, Hid ((fl Q).length = NL) := ⟨_, rfl⟩
          rw [HNL.out] at cl hfl
          rw [HP2.out] at ci c90 c91 HSTP
          have hp2 := HP2.out
          have p0 : (P2 : Int) < (NL : Int) := by omega
          have p1 : (0 : Int) ≤ (P2 : Int) := by omega
          have p2 : (P2 : Int) + 1 < (NL : Int) := by omega
          have p3 : (P2 : Int) + 2 ≤ 9223372036854775807 := by omega
          have p4 : (P2 : Int) + 1 ≤ 9223372036854775807 := by omega
          have p5 : ¬ (NL : Int) ≤ (P2 : Int) + 1 := by omega
          clear hLx hpx b1 b2 b3 e8 x9 x8 hfa hlbV hrow hfl hq4 hlen e9 ex0 ex1 hg hp2
          gi_wp2
          exact ⟨by rw [← hs8]; exact HSTP.out.1, HSTP.out.2.1, HSTP.out.2.2⟩
        case done2 =>
          rintro D2 V hD2 hI hK2
          obtain ⟨b1, b2, b3⟩ := hI
          have hfl := fl_len Q
          have hdw := HDW.out
          have hdl := HDL.out
          have hrl := HRL.out
          have hlbV : V.heap[lb]? = some (.cells #[lv] tSI) := (b2.2 lb (Array.getElem?_eq_some_iff.1 HA18.out).1 (by omega)).trans HA18.out
          have hrV : V.heap[R]? = some (.cells #[.bool false] tB) := (b2.2 R (Array.getElem?_eq_some_iff.1 HT8.out.res).1 (by omega)).trans HT8.out.res
          have hdV : V.heap[D]? = some (.deferred (some [])) := (b2.2 D (Array.getElem?_eq_some_iff.1 HKD8.out).1 (by omega)).trans HKD8.out
          obtain ⟨o9, cp9, e9, -, -, -⟩ := own_form HA28.out.1
          have cl : V.cell? ⟨lb, 0, none⟩ = some lv := by simp [World.cell?, hlbV]
          have ci : V.cell? ⟨ib, 0, none⟩ = some (.int .i64 ((2 * Q.length : Nat) : Int)) := by simp [World.cell?, b1]
          have cR : V.cell? ⟨R, 0, none⟩ = some (.bool false) := by simp [World.cell?, hrV]
          have fR : V.frozen? ⟨R, 0, none⟩ = false := by simp [World.frozen?, hrV]
          rw [e9] at cl
          rw [← hfl] at ci
          obtain ⟨NL, HNL⟩ : ∃ NL, Hid ((fl Q).length = NL) := ⟨_, rfl⟩
          rw [HNL.out] at cl ci
          have HX : Hid (V.heap[D2]? = some (.deferred (some [])) ∧ V.heap[D]? = some (.deferred (some [])) ∧ V.heap[R]? = some (.cells #[.bool false] tB) ∧ Below w.heap.size w V ∧ D < D2 ∧ R < D ∧ w.heap.size ≤ R) := ⟨hK2, hdV, hrV, b3, by omega, by omega, by have := HR.out; omega⟩
          clear b1 b2 b3 hK2 hfl hdw hdl hrl hlbV hrV hdV e9 hib hbt hseq hb8
          go_wp2_with fail
          obtain ⟨hK1, hK0, hcR, bz0, hD12, hRD, hwR⟩ := HX.out
          have u1 : (V.setCell ⟨R, 0, none⟩ (.bool true)).heap[D2]? = some (.deferred (some [])) := (setCell_ne (p := ⟨R, 0, none⟩) (by simp; omega) _).trans hK1
          have u0 : (V.setCell ⟨R, 0, none⟩ (.bool true)).heap[D]? = some (.deferred (some [])) := (setCell_ne (p := ⟨R, 0, none⟩) (by simp; omega) _).trans hK0
          have mr := setCell_heap hcR 0 (.bool true)
          have bz : Below w.heap.size w (V.setCell ⟨R, 0, none⟩ (.bool true)) := bz0.setCell (p := ⟨R, 0, none⟩) (by simp; omega) (.bool true)
          generalize V.setCell ⟨R, 0, none⟩ (.bool true) = V0 at *
          have v0 : (V0.putObj D2 (.deferred none)).heap[D]? = some (.deferred (some [])) := (World.putObj_heap_other (by omega)).trans u0
          have vr := (World.putObj_heap_other (o := .deferred none) (show R ≠ D by omega)).trans ((World.putObj_heap_other (o := .deferred none) (show R ≠ D2 by omega)).trans mr)
          have bw := (bz.trans (belowK_b (w := w) (Nat.le_refl _) _ D2 _ (.deferred none) (by omega) u1 rfl rfl)).trans (belowK_b (w := w) (Nat.le_refl _) _ D _ (.deferred none) (by omega) v0 rfl rfl)
          refine ⟨by simp, .inl ⟨_, _, rfl, run_takeDeferred u1, by simp, .inl ⟨_, _, rfl, run_takeDeferred v0, ?_⟩⟩⟩
          have cr : ((V0.putObj D2 (.deferred none)).putObj D (.deferred none)).cell? ⟨R, 0, none⟩ = some (.bool true) := by simp [World.cell?, vr]
          refine ⟨.bool true, ?_, rfl, bw⟩
          simp [results, Try.f6, go_sem, cr]
end Go.Proofs.Ytdhljogcoooomaa.Wz
