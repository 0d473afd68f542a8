/- PendingTwice: the walk. -/
import Derived.Test.YtgchdjjafgkcbaaEqk
namespace Go.Proofs.Ytgchdjjafgkcbaa.Pt
set_option linter.unusedVariables false
set_option linter.unusedSimpArgs false
open Go.RowKit Go.Maps Lib0 Kb Xp Za Ze Ih Fh Hh Pa Pb Pc Pe Pf Pg Px Pl Pm Pn Po Pq Pp Pr Ps
attribute [local go_sem] Oper.semAt_some
attribute [local irreducible] Pb.nl Pb.kl
set_option maxRecDepth 100000 in
set_option maxHeartbeats 6400000 in
theorem walk2 (a0 a1 : Int) (a2 b2 : Int) (p2 q2 s2 : ByteArray) (a3 a4 : Int) (a5 b5 : Int) (p5 q5 s5 : ByteArray) (w : World) (w0 : I64 a0) (w1 : I64 a1) (w2 : I64 a2 ∧ I64 b2) (w3 : I64 a3) (w4 : I64 a4) (w5 : I64 a5 ∧ I64 b5) (k2 : p2.size ≤ 140737488351232 ∧ q2.size ≤ 140737488351232 ∧ s2.size ≤ 140737488351232) (k5 : p5.size ≤ 140737488351232 ∧ q5.size ≤ 140737488351232 ∧ s5.size ≤ 140737488351232) :
    Calls Try.prog 5 #[.int .i64 a0, .int .i64 a1, .agg #[.int .i64 a2, .int .i64 b2, .string p2, .string q2, .string s2], .int .i64 a3, .int .i64 a4, .agg #[.int .i64 a5, .int .i64 b5, .string p5, .string q5, .string s5]] w fun e w' => e = .returned (.bool true) ∧ Below w.heap.size w w' := by
  have HP0 : Hid (∀ y, Calls Try.prog 6 #[.int .i64 a0, .int .i64 40] y fun e w' => e = .returned (.int .i64 (Pick.pickOf a0 40)) ∧ w' = y) := fun y => Pick.pick_any a0 40 y w0.1 w0.2 (by decide) (by decide)
  have HP1 : Hid (∀ y, Calls Try.prog 6 #[.int .i64 a1, .int .i64 40] y fun e w' => e = .returned (.int .i64 (Pick.pickOf a1 40)) ∧ w' = y) := fun y => Pick.pick_any a1 40 y w1.1 w1.2 (by decide) (by decide)
  have m0 := Pick.pick_lo a0 40 (by decide)
  have m1 := Pick.pick_hi a0 40 (by decide)
  have n0 := Pick.pick_lo a1 40 (by decide)
  have n1 := Pick.pick_hi a1 40 (by decide)
  obtain ⟨m, hm⟩ : ∃ m, Pick.pickOf a0 40 = m := ⟨_, rfl⟩
  obtain ⟨n, hn⟩ : ∃ n, Pick.pickOf a1 40 = n := ⟨_, rfl⟩
  rw [hm] at m0 m1 HP0
  rw [hn] at n0 n1 HP1
  clear hm hn
  obtain ⟨y0, hy0⟩ : ∃ y0, (w.alloc (.cells #[.int .i64 a2, .int .i64 b2, .string p2, .string q2, .string s2] tK)).alloc (.cells #[.int .i64 a5, .int .i64 b5, .string p5, .string q5, .string s5] tK) = y0 := ⟨_, rfl⟩
  have HB0 : Hid (Below w.heap.size w y0) := hy0 ▸ below_two _ _ _
  have HKA : Hid (y0.heap[w.heap.size]? = some (.cells #[.int .i64 a2, .int .i64 b2, .string p2, .string q2, .string s2] tK (0, 0))) := hy0 ▸ h2_0 _ _ _
  have HKB : Hid (y0.heap[w.heap.size + 1]? = some (.cells #[.int .i64 a5, .int .i64 b5, .string p5, .string q5, .string s5] tK (0, 0))) := hy0 ▸ h2_1 _ _ _
  have HW : Hid (I64 a2 ∧ I64 b2 ∧ I64 a3 ∧ I64 a4 ∧ I64 a5 ∧ I64 b5) := ⟨w2.1, w2.2, w3, w4, w5.1, w5.2⟩
  have HK : Hid (p2.size ≤ 140737488351232 ∧ q2.size ≤ 140737488351232 ∧ s2.size ≤ 140737488351232 ∧ p5.size ≤ 140737488351232 ∧ q5.size ≤ 140737488351232 ∧ s5.size ≤ 140737488351232) := ⟨k2.1, k2.2.1, k2.2.2, k5.1, k5.2.1, k5.2.2⟩
  clear w0 w1 w2 w3 w4 w5 k2 k5
  go_enter Try.func5, Try.ntmps5
  go_wp2_with fail
  refine (HP0.out _).mono ?_
  rintro e y ⟨rfl, hy⟩
  rw [hy]
  clear hy y
  go_wp2_with fail
  refine (HP1.out _).mono ?_
  rintro e y ⟨rfl, hy⟩
  rw [hy]
  clear hy y
  try rw [hy0]
  clear hy0
  go_wp2_with fail
  refine (new_yes (C2 (1 + m) (1 + n)) (co2 (by omega) (by omega) (by omega) (by omega)) y0).mono ?_
  rintro e y1 ⟨b, rfl, htb, hb1⟩
  have HK1 : Hid (Wk w y1 y0.heap.size b w.heap.size (w.heap.size + 1) #[.int .i64 a2, .int .i64 b2, .string p2, .string q2, .string s2] #[.int .i64 a5, .int .i64 b5, .string p5, .string q5, .string s5] (C2 (1 + m) (1 + n)) S0) := ⟨htb, kept hb1 HKA.out, kept hb1 HKB.out, keepB HB0.out hb1, HB0.out.size⟩
  clear htb hb1 HP0 HP1
  obtain ⟨c0, c1, c2, c3, c4⟩ := kcells HK1.out.ka
  have HK2 : Hid (Wk w (y1.alloc (.cells #[.int .i64 a2, .int .i64 b2, .string p2, .string q2, .string s2, .int .i64 0, .int .i64 a3, .int .i64 a4, .string ⟨#[]⟩, .slice none 0 0, .string ⟨#[]⟩, .slice none 0 0] tP)) y0.heap.size b w.heap.size (w.heap.size + 1) #[.int .i64 a2, .int .i64 b2, .string p2, .string q2, .string s2] #[.int .i64 a5, .int .i64 b5, .string p5, .string q5, .string s5] (C2 (1 + m) (1 + n)) S0) := HK1.out.below (below_one _ _)
  have HPB : Hid ((y1.alloc (.cells #[.int .i64 a2, .int .i64 b2, .string p2, .string q2, .string s2, .int .i64 0, .int .i64 a3, .int .i64 a4, .string ⟨#[]⟩, .slice none 0 0, .string ⟨#[]⟩, .slice none 0 0] tP)).heap[y1.heap.size]? = some (.cells #[.int .i64 a2, .int .i64 b2, .string p2, .string q2, .string s2, .int .i64 0, .int .i64 a3, .int .i64 a4, .string ⟨#[]⟩, .slice none 0 0, .string ⟨#[]⟩, .slice none 0 0] tP (0, 0))) := h1_0 _ _
  obtain ⟨d0, d1, d2, d3, d4⟩ := kcells HK2.out.kb
  obtain ⟨f0, f1, f2, f3, f4⟩ := kcells HK2.out.ka
  have HCO : Hid (Co (C2 (1 + m) (1 + n))) := co2 (by omega) (by omega) (by omega) (by omega)
  have HROK : Hid (Ro (rk a2 b2 p2 q2 s2 a3 a4)) := by
    obtain ⟨h1, h2, h3, h4, h5, h6⟩ := HW.out
    obtain ⟨l1, l2, l3, l4, l5, l6⟩ := HK.out
    exact ro_rk h1 h2 (by omega) (by omega) (by omega) h3 h4
  obtain ⟨tx1, HTX⟩ : ∃ t, Hid (bits .xor .i64 a3 1 = t) := ⟨_, rfl⟩
  have HROX : Hid (Ro (rk a2 b2 p2 q2 s2 tx1 a4)) := by
    obtain ⟨h1, h2, h3, h4, h5, h6⟩ := HW.out
    obtain ⟨l1, l2, l3, l4, l5, l6⟩ := HK.out
    exact ro_rk h1 h2 (by omega) (by omega) (by omega) (HTX.out ▸ (xor_ne h3).2) h4
  have HTN : Hid (tx1 ≠ a3) := HTX.out ▸ (xor_ne HW.out.2.2.1).1
  have HEQ : Hid ((Op.equalIn 10000 tK (.agg #[.int .i64 a5, .int .i64 b5, .string p5, .string q5, .string s5]) (.agg #[.int .i64 a2, .int .i64 b2, .string p2, .string q2, .string s2])).run Try.prog (y1.alloc (.cells #[.int .i64 a2, .int .i64 b2, .string p2, .string q2, .string s2, .int .i64 0, .int .i64 a3, .int .i64 a4, .string ⟨#[]⟩, .slice none 0 0, .string ⟨#[]⟩, .slice none 0 0] tP)) = .ok (Eqk.keq a5 b5 p5 q5 s5 a2 b2 p2 q2 s2) (y1.alloc (.cells #[.int .i64 a2, .int .i64 b2, .string p2, .string q2, .string s2, .int .i64 0, .int .i64 a3, .int .i64 a4, .string ⟨#[]⟩, .slice none 0 0, .string ⟨#[]⟩, .slice none 0 0] tP))) := Eqk.equal_key _ _ _ _ _ _ _ _ _ _ _
  cases he : Eqk.keq a5 b5 p5 q5 s5 a2 b2 p2 q2 s2 with
  | false =>
    rw [he] at HEQ
    have HNK : Hid (a5 = a2 ∧ b5 = b2 ∧ p5 = p2 ∧ q5 = q2 ∧ s5 = s2 → False) := fun h => by
      have h2 := Eqk.keq_iff.2 h
      rw [he] at h2
      cases h2
    have HOL : Hid (I64 a5) := HW.out.2.2.2.2.1
    clear he
    go_wp2_with (first | (refine Eqk.wpList_eql_key rfl _ _ _ rfl _ _ rfl rfl _ HEQ.out ?_) | (refine wpList_load_row rfl tP _ rfl y1.heap.size rfl _ _ _ _ HPB.out Try.underlying48 rfl infoP ?_) | fail)
    have HK3 : Hid (Wk w (y1.alloc (.cells #[.int .i64 a2, .int .i64 b2, .string p2, .string q2, .string s2, .int .i64 0, .int .i64 a3, .int .i64 a4, .string ⟨#[]⟩, .slice none 0 0, .string ⟨#[]⟩, .slice none 0 0] tP)) y0.heap.size b w.heap.size (w.heap.size + 1) #[.int .i64 a2, .int .i64 b2, .string p2, .string q2, .string s2] #[.int .i64 a5, .int .i64 b5, .string p5, .string q5, .string s5] (C2 (1 + m) (1 + n)) S0) := HK2.out
    obtain ⟨y3, HY3⟩ : ∃ y3, Hid (y1.alloc (.cells #[.int .i64 a2, .int .i64 b2, .string p2, .string q2, .string s2, .int .i64 0, .int .i64 a3, .int .i64 a4, .string ⟨#[]⟩, .slice none 0 0, .string ⟨#[]⟩, .slice none 0 0] tP) = y3) := ⟨_, rfl⟩
    rw [HY3.out] at HK3 ⊢
    generalize a5 = ol at *
    clear HEQ HPB HK2 HY3 d0 d1 d2 d3 d4 f0 f1 f2 f3 f4 c0 c1 c2 c3 c4
    have HROO : Hid (Ro (rk ol b5 p5 q5 s5 a3 a4)) := by
      obtain ⟨h1, h2, h3, h4, h5, h6⟩ := HW.out
      obtain ⟨l1, l2, l3, l4, l5, l6⟩ := HK.out
      exact ro_rk HOL.out h6 (by omega) (by omega) (by omega) h3 h4
    have HKNE : Hid (∀ t, Ro (rk a2 b2 p2 q2 s2 t a4) → kl (rk a2 b2 p2 q2 s2 t a4) ≠ kl (rk ol b5 p5 q5 s5 a3 a4)) := fun t ht e => HNK.out (by
      have h9 := (Eqk.key_inj ht HROO.out).1 e
      exact ⟨h9.1.symm, h9.2.1.symm, h9.2.2.1.symm, h9.2.2.2.1.symm, h9.2.2.2.2.symm⟩)
    have HNNE : Hid (nl (rk a2 b2 p2 q2 s2 a3 a4) ≠ nl (rk a2 b2 p2 q2 s2 tx1 a4)) := fun e => HTN.out ((Eqk.nm_inj HROK.out HROX.out).1 e).1.symm
    have HKX : Hid (kl (rk a2 b2 p2 q2 s2 a3 a4) = kl (rk a2 b2 p2 q2 s2 tx1 a4)) := (Eqk.key_inj HROK.out HROX.out).2 ⟨rfl, rfl, rfl, rfl, rfl⟩
    have HNO : Hid (nl (rk a2 b2 p2 q2 s2 a3 a4) = nl (rk ol b5 p5 q5 s5 a3 a4)) := (Eqk.nm_inj HROK.out HROO.out).2 ⟨rfl, rfl⟩
    refine (add_ok HK3.out.tb (r := (rk a2 b2 p2 q2 s2 a3 a4)) HROK.out (rm_rk _ _ _ _ _ _ _ _) (fun ⟨x, hx, _⟩ => by cases hx) (fun ⟨x, hx, _⟩ => by cases hx) (by show ¬ (0 : Int) = 3; omega) HCO.out (by show (0 : Int) + 1 ≤ 1000000; omega)).mono ?_
    rintro e y4 ⟨rfl, ⟨g, tb4⟩, kt4, bl4⟩
    rw [t1_start _ _ _ _ (by omega)] at tb4
    have HK4 : Hid (Wk w y4 y0.heap.size b w.heap.size (w.heap.size + 1) #[.int .i64 a2, .int .i64 b2, .string p2, .string q2, .string s2] #[.int .i64 ol, .int .i64 b5, .string p5, .string q5, .string s5] (C2 (1 + m) (1 + n)) (T1 (1 + m) (1 + n) g (rk a2 b2 p2 q2 s2 a3 a4) 0)) := HK3.out.step tb4 kt4 bl4
    have HT10 : Hid ((T1 (1 + m) (1 + n) g (rk a2 b2 p2 q2 s2 a3 a4) 0).LW = [(1, 1 + m, g, (rk a2 b2 p2 q2 s2 a3 a4))]) := by show _ = _; unfold T1; rw [if_pos (by omega)]
    clear tb4 kt4 bl4 HK3
    obtain ⟨c0, c1, c2, c3, c4⟩ := kcells HK4.out.ka
    go_wp2_with fail
    rw [HTX.out]
    refine (Ph.add_key HK4.out.tb (r := (rk a2 b2 p2 q2 s2 tx1 a4)) HROX.out (rm_rk _ _ _ _ _ _ _ _) ⟨_, by rw [HT10.out]; exact List.mem_singleton.2 rfl, HKX.out⟩).mono ?_
    rintro e y5 ⟨rfl, hb5⟩
    have HK5 : Hid (Wk w y5 y0.heap.size b w.heap.size (w.heap.size + 1) #[.int .i64 a2, .int .i64 b2, .string p2, .string q2, .string s2] #[.int .i64 ol, .int .i64 b5, .string p5, .string q5, .string s5] (C2 (1 + m) (1 + n)) (T1 (1 + m) (1 + n) g (rk a2 b2 p2 q2 s2 a3 a4) 0)) := HK4.out.below hb5
    clear hb5 HK4 c0 c1 c2 c3 c4
    obtain ⟨d0, d1, d2, d3, d4⟩ := kcells HK5.out.kb
    go_wp2_with fail
    refine (Ph.add_name HK5.out.tb (r := (rk ol b5 p5 q5 s5 a3 a4)) HROO.out (rm_rk _ _ _ _ _ _ _ _) (fun ⟨x, hx, hk⟩ => by
      rw [HT10.out] at hx
      rw [List.mem_singleton.1 hx] at hk
      exact HKNE.out _ HROK.out hk) ⟨_, List.mem_append.2 (.inl (by rw [HT10.out]; exact List.mem_singleton.2 rfl)), HNO.out⟩).mono ?_
    rintro e y6 ⟨rfl, hb6⟩
    have HK6 : Hid (Wk w y6 y0.heap.size b w.heap.size (w.heap.size + 1) #[.int .i64 a2, .int .i64 b2, .string p2, .string q2, .string s2] #[.int .i64 ol, .int .i64 b5, .string p5, .string q5, .string s5] (C2 (1 + m) (1 + n)) (T1 (1 + m) (1 + n) g (rk a2 b2 p2 q2 s2 a3 a4) 0)) := HK5.out.below hb6
    clear hb6 HK5 d0 d1 d2 d3 d4
    obtain ⟨c0, c1, c2, c3, c4⟩ := kcells HK6.out.ka
    go_wp2_with fail
    refine (has_tb HK6.out.tb (r := (rk a2 b2 p2 q2 s2 a3 a4)) HROK.out true ⟨fun _ => ⟨_, by rw [HT10.out]; exact List.mem_singleton.2 rfl, rfl⟩, fun _ => rfl⟩).mono ?_
    rintro e y7 ⟨rfl, hb7⟩
    have HK7 : Hid (Wk w y7 y0.heap.size b w.heap.size (w.heap.size + 1) #[.int .i64 a2, .int .i64 b2, .string p2, .string q2, .string s2] #[.int .i64 ol, .int .i64 b5, .string p5, .string q5, .string s5] (C2 (1 + m) (1 + n)) (T1 (1 + m) (1 + n) g (rk a2 b2 p2 q2 s2 a3 a4) 0)) := HK6.out.below hb7
    clear hb7 HK6 c0 c1 c2 c3 c4
    obtain ⟨d0, d1, d2, d3, d4⟩ := kcells HK7.out.kb
    go_wp2_with fail
    refine (has_tb HK7.out.tb (r := (rk ol b5 p5 q5 s5 a3 a4)) HROO.out false ⟨fun e => (by cases e), fun ⟨x, hx, hk⟩ => by
      rw [HT10.out] at hx
      rw [List.mem_singleton.1 hx] at hk
      exact absurd hk (HKNE.out _ HROK.out)⟩).mono ?_
    rintro e y8 ⟨rfl, hb8⟩
    have HK8 : Hid (Wk w y8 y0.heap.size b w.heap.size (w.heap.size + 1) #[.int .i64 a2, .int .i64 b2, .string p2, .string q2, .string s2] #[.int .i64 ol, .int .i64 b5, .string p5, .string q5, .string s5] (C2 (1 + m) (1 + n)) (T1 (1 + m) (1 + n) g (rk a2 b2 p2 q2 s2 a3 a4) 0)) := HK7.out.below hb8
    clear hb8 HK7 d0 d1 d2 d3 d4 HT10
    go_wp2_with fail
    go_loopw [21] (fun iv wr => ∃ i : Nat, iv = .int .i64 ((i : Int) + 1) ∧ (i : Int) ≤ 1 + m ∧ Hid (Wk w wr y0.heap.size b w.heap.size (w.heap.size + 1) #[.int .i64 a2, .int .i64 b2, .string p2, .string q2, .string s2] #[.int .i64 ol, .int .i64 b5, .string p5, .string q5, .string s5] (C2 (1 + m) (1 + n)) (T1 (1 + m) (1 + n) g (rk a2 b2 p2 q2 s2 a3 a4) (i : Int)))) (fun iv _ => 43 - (intOf iv).toNat)
    case atStart => exact ⟨0, rfl, by show (0 : Int) ≤ 1 + m; omega, HK8.out⟩
    case round =>
      obtain ⟨i, rfl, hi, HKi⟩ := hrel
      by_cases hlt : (i : Int) + 1 ≤ 1 + m
      · have he : (T1 (1 + m) (1 + n) g (rk a2 b2 p2 q2 s2 a3 a4) (i : Int)) = ⟨[(1, 1 + m, g, (rk a2 b2 p2 q2 s2 a3 a4))], [], (i : Int), 1, 0, 0⟩ := by unfold T1; rw [if_pos (by omega)]
        have HTK : Hid (Calls Try.prog 19 #[.pointer (some ⟨b, 0, none⟩)] wr (PostT wr y0.heap.size b (C2 (1 + m) (1 + n)) (T1 (1 + m) (1 + n) g (rk a2 b2 p2 q2 s2 a3 a4) (i : Int)))) := tick_tb HKi.out.tb HCO.out (by rw [he]; show (i : Int) + 1 ≤ _; omega) (by rw [he]; show (0 : Int) + ((1 : Nat) : Int) ≤ _; omega) (by rw [he]; show (1 : Int) ≤ _; omega)
        have HT : Hid _ := tick_t1 (1 + m) (1 + n) g (rk a2 b2 p2 q2 s2 a3 a4) (i : Int) (by omega) (by omega)
        have q1 : (i : Int) + 1 + 1 ≤ 9223372036854775807 := by omega
        have HI : Hid ((i : Int) + 1 ≤ 1 + m) := hlt
        clear hi he
        go_wp2_with fail
        refine HTK.out.mono ?_
        rintro e y9 ⟨lv, gv, rfl, tb9, ll, lg, kt9, bl9⟩
        rw [HT.out.1] at tb9
        rw [HT.out.2.2] at lg
        obtain ⟨o1, z1, e1⟩ := lst_form ll
        obtain ⟨o2, z2, e2⟩ := lst_form lg
        have HK9 : Hid (Wk w y9 y0.heap.size b w.heap.size (w.heap.size + 1) #[.int .i64 a2, .int .i64 b2, .string p2, .string q2, .string s2] #[.int .i64 ol, .int .i64 b5, .string p5, .string q5, .string s5] (C2 (1 + m) (1 + n)) (T1 (1 + m) (1 + n) g (rk a2 b2 p2 q2 s2 a3 a4) ((i : Int) + 1))) := HKi.out.step tb9 kt9 bl9
        rw [HT.out.2.1] at e1
        clear tb9 ll lg kt9 bl9 HTK HKi
        by_cases hM : (i : Int) + 1 = 1 + m
        · rw [if_pos hM] at e1
          have hq : (((i : Int) + 1) == 1 + m) = true := by simpa using hM
          have HM : Hid ((i : Int) + 1 = 1 + m) := hM
          clear hM hlt
          subst e1 e2
          simp only [List.length_nil]
          go_wp2_with fail
          refine ⟨⟨i + 1, by simp, by have := HI.out; push_cast; omega, by push_cast; exact HK9.out⟩, ?_⟩
          simp only [intOf]
          have := HI.out
          omega
        · rw [if_neg hM] at e1
          have hq : (((i : Int) + 1) == 1 + m) = false := by simpa using hM
          clear hM hlt
          subst e1 e2
          simp only [List.length_nil]
          go_wp2_with fail
          refine ⟨⟨i + 1, by simp, by have := HI.out; push_cast; omega, by push_cast; exact HK9.out⟩, ?_⟩
          simp only [intOf]
          have := HI.out
          omega
      · have hie : (i : Int) = 1 + m := by omega
        have HK9 : Hid (Wk w wr y0.heap.size b w.heap.size (w.heap.size + 1) #[.int .i64 a2, .int .i64 b2, .string p2, .string q2, .string s2] #[.int .i64 ol, .int .i64 b5, .string p5, .string q5, .string s5] (C2 (1 + m) (1 + n)) (T1 (1 + m) (1 + n) g (rk a2 b2 p2 q2 s2 a3 a4) (1 + m))) := by have := HKi.out; rw [hie] at this; exact this
        clear HKi hi
        obtain ⟨d0, d1, d2, d3, d4⟩ := kcells HK9.out.kb
        have HIE : Hid ((i : Int) = 1 + m) := hie
        clear hie
        go_wp2_with fail
        have HTM : Hid ((T1 (1 + m) (1 + n) g (rk a2 b2 p2 q2 s2 a3 a4) (1 + m)) = ⟨[], [(1, 1 + m + (1 + n), g, (rk a2 b2 p2 q2 s2 a3 a4))], 1 + m, 1, 1, 0⟩) := by show _ = _; unfold T1; rw [if_neg (by omega)]
        refine (Ph.add_name HK9.out.tb (r := (rk ol b5 p5 q5 s5 a3 a4)) HROO.out (rm_rk _ _ _ _ _ _ _ _) (fun ⟨x, hx, hk⟩ => by rw [HTM.out] at hx; cases hx) ⟨(1, 1 + m + (1 + n), g, (rk a2 b2 p2 q2 s2 a3 a4)), by rw [HTM.out]; exact List.mem_singleton.2 rfl, HNO.out⟩).mono ?_
        rintro e x1 ⟨rfl, hb⟩
        have HX1 : Hid (Wk w x1 y0.heap.size b w.heap.size (w.heap.size + 1) #[.int .i64 a2, .int .i64 b2, .string p2, .string q2, .string s2] #[.int .i64 ol, .int .i64 b5, .string p5, .string q5, .string s5] (C2 (1 + m) (1 + n)) (T1 (1 + m) (1 + n) g (rk a2 b2 p2 q2 s2 a3 a4) (1 + m))) := HK9.out.below hb
        clear hb HK9 d0 d1 d2 d3 d4
        obtain ⟨c0, c1, c2, c3, c4⟩ := kcells HX1.out.ka
        go_wp2_with fail
        rw [HTX.out]
        refine (add_ok HX1.out.tb (r := (rk a2 b2 p2 q2 s2 tx1 a4)) HROX.out (rm_rk _ _ _ _ _ _ _ _) (fun ⟨x, hx, _⟩ => by rw [HTM.out] at hx; cases hx) (fun ⟨x, hx, hk⟩ => by
          rw [HTM.out] at hx
          rw [List.mem_singleton.1 hx] at hk
          exact HNNE.out hk) (by rw [HTM.out]; show ¬ (0 : Int) = 3; omega) HCO.out (by rw [HTM.out]; show (1 : Int) + 1 ≤ 1000000; omega)).mono ?_
        rintro e x2 ⟨rfl, ⟨g2, tb2⟩, kt2, bl2⟩
        rw [t2_start _ _ _ _ _ _ (by omega) (by omega)] at tb2
        have HX2 : Hid (Wk w x2 y0.heap.size b w.heap.size (w.heap.size + 1) #[.int .i64 a2, .int .i64 b2, .string p2, .string q2, .string s2] #[.int .i64 ol, .int .i64 b5, .string p5, .string q5, .string s5] (C2 (1 + m) (1 + n)) (T2 (1 + m) (1 + n) g (rk a2 b2 p2 q2 s2 a3 a4) g2 (rk a2 b2 p2 q2 s2 tx1 a4) 0)) := HX1.out.step tb2 kt2 bl2
        clear tb2 kt2 bl2 HX1 HTM c0 c1 c2 c3 c4
        have HT20 : Hid ((T2 (1 + m) (1 + n) g (rk a2 b2 p2 q2 s2 a3 a4) g2 (rk a2 b2 p2 q2 s2 tx1 a4) 0).LW = [(2, 1 + m + (1 + m), g2, (rk a2 b2 p2 q2 s2 tx1 a4))]) := by show _ = _; unfold T2; rw [if_pos (by omega)]
        obtain ⟨d0, d1, d2, d3, d4⟩ := kcells HX2.out.kb
        go_wp2_with fail
        refine (has_tb HX2.out.tb (r := (rk ol b5 p5 q5 s5 a3 a4)) HROO.out false ⟨fun e => (by cases e), fun ⟨x, hx, hk⟩ => by
          rw [HT20.out] at hx
          rw [List.mem_singleton.1 hx] at hk
          exact absurd hk (HKNE.out _ HROX.out)⟩).mono ?_
        rintro e x3 ⟨rfl, hb⟩
        have HX3 : Hid (Wk w x3 y0.heap.size b w.heap.size (w.heap.size + 1) #[.int .i64 a2, .int .i64 b2, .string p2, .string q2, .string s2] #[.int .i64 ol, .int .i64 b5, .string p5, .string q5, .string s5] (C2 (1 + m) (1 + n)) (T2 (1 + m) (1 + n) g (rk a2 b2 p2 q2 s2 a3 a4) g2 (rk a2 b2 p2 q2 s2 tx1 a4) 0)) := HX2.out.below hb
        clear hb HX2 HT20 d0 d1 d2 d3 d4
        go_wp2_with fail
        obtain ⟨wo, HWO⟩ : ∃ wo : World, Hid (wo = wr) := ⟨_, rfl⟩
        go_loopw [24] (fun iv wr => ∃ j : Nat, iv = .int .i64 ((j : Int) + 1) ∧ (j : Int) ≤ 1 + n ∧ Hid (Wk w wr y0.heap.size b w.heap.size (w.heap.size + 1) #[.int .i64 a2, .int .i64 b2, .string p2, .string q2, .string s2] #[.int .i64 ol, .int .i64 b5, .string p5, .string q5, .string s5] (C2 (1 + m) (1 + n)) (T2 (1 + m) (1 + n) g (rk a2 b2 p2 q2 s2 a3 a4) g2 (rk a2 b2 p2 q2 s2 tx1 a4) (j : Int)))) (fun iv _ => 43 - (intOf iv).toNat)
        case atStart => exact ⟨0, rfl, by show (0 : Int) ≤ 1 + n; omega, HX3.out⟩
        case round =>
          obtain ⟨j, rfl, hj, HXj⟩ := hrel
          by_cases hjn : (j : Int) + 1 ≤ 1 + n
          · have HBD : Hid ((T2 (1 + m) (1 + n) g (rk a2 b2 p2 q2 s2 a3 a4) g2 (rk a2 b2 p2 q2 s2 tx1 a4) (j : Int)).now + 1 ≤ 1000000 ∧ (T2 (1 + m) (1 + n) g (rk a2 b2 p2 q2 s2 a3 a4) g2 (rk a2 b2 p2 q2 s2 tx1 a4) (j : Int)).lr + ((T2 (1 + m) (1 + n) g (rk a2 b2 p2 q2 s2 a3 a4) g2 (rk a2 b2 p2 q2 s2 tx1 a4) (j : Int)).LW.length : Int) ≤ 1000000 ∧ (T2 (1 + m) (1 + n) g (rk a2 b2 p2 q2 s2 a3 a4) g2 (rk a2 b2 p2 q2 s2 tx1 a4) (j : Int)).lw ≤ 1000000) := by
              show _ ∧ _ ∧ _
              unfold T2
              split
              · refine ⟨?_, ?_, ?_⟩
                · show 1 + m + (j : Int) + 1 ≤ _; omega
                · show (1 : Int) + ((1 : Nat) : Int) ≤ _; omega
                · show (2 : Int) ≤ _; omega
              · refine ⟨?_, ?_, ?_⟩
                · show 1 + m + (j : Int) + 1 ≤ _; omega
                · show (2 : Int) + ((0 : Nat) : Int) ≤ _; omega
                · show (2 : Int) ≤ _; omega
            have HTK : Hid (Calls Try.prog 19 #[.pointer (some ⟨b, 0, none⟩)] wr (PostT wr y0.heap.size b (C2 (1 + m) (1 + n)) (T2 (1 + m) (1 + n) g (rk a2 b2 p2 q2 s2 a3 a4) g2 (rk a2 b2 p2 q2 s2 tx1 a4) (j : Int)))) := tick_tb HXj.out.tb HCO.out HBD.out.1 HBD.out.2.1 HBD.out.2.2
            have HT : Hid _ := tick_t2 (1 + m) (1 + n) g g2 (rk a2 b2 p2 q2 s2 a3 a4) (rk a2 b2 p2 q2 s2 tx1 a4) (j : Int) (by omega) (by omega) (by omega)
            have q1 : (j : Int) + 1 + 1 ≤ 9223372036854775807 := by omega
            have HI : Hid ((j : Int) + 1 ≤ 1 + n) := hjn
            clear hj
            go_wp2_with fail
            refine HTK.out.mono ?_
            rintro e y9 ⟨lv, gv, rfl, tb9, ll, lg, kt9, bl9⟩
            rw [HT.out.1] at tb9
            rw [HT.out.2] at lg
            obtain ⟨o1, z1, e1⟩ := lst_form ll
            obtain ⟨o2, z2, e2⟩ := lst_form lg
            have HK9 : Hid (Wk w y9 y0.heap.size b w.heap.size (w.heap.size + 1) #[.int .i64 a2, .int .i64 b2, .string p2, .string q2, .string s2] #[.int .i64 ol, .int .i64 b5, .string p5, .string q5, .string s5] (C2 (1 + m) (1 + n)) (T2 (1 + m) (1 + n) g (rk a2 b2 p2 q2 s2 a3 a4) g2 (rk a2 b2 p2 q2 s2 tx1 a4) ((j : Int) + 1))) := HXj.out.step tb9 kt9 bl9
            obtain ⟨KL, HKL⟩ : ∃ KL, Hid ((lateL (T2 (1 + m) (1 + n) g (rk a2 b2 p2 q2 s2 a3 a4) g2 (rk a2 b2 p2 q2 s2 tx1 a4) (j : Int))).length = KL) := ⟨_, rfl⟩
            rw [HKL.out] at e1
            clear tb9 ll lg kt9 bl9 HTK HXj HBD HKL
            by_cases hN : (j : Int) + 1 = 1 + n
            · rw [if_pos hN] at e2
              have hq : (((j : Int) + 1) == 1 + n) = true := by simpa using hN
              have hq2 : decide ((j : Int) + 1 < 1 + n) = false := by simp; omega
              clear hN hjn
              subst e1 e2
              simp only [List.length_singleton]
              go_wp2_with fail
              refine ⟨⟨j + 1, by simp, by have := HI.out; push_cast; omega, by push_cast; exact HK9.out⟩, ?_⟩
              simp only [intOf]
              have := HI.out
              omega
            · rw [if_neg hN] at e2
              have hq : (((j : Int) + 1) == 1 + n) = false := by simpa using hN
              have hq2 : (j : Int) + 1 < 1 + n := by omega
              clear hN hjn
              subst e1 e2
              simp only [List.length_nil]
              by_cases hM2 : (j : Int) + 1 < 1 + m
              · go_wp2_with fail
                refine ⟨⟨j + 1, by simp, by have := HI.out; push_cast; omega, by push_cast; exact HK9.out⟩, ?_⟩
                simp only [intOf]
                have := HI.out
                omega
              · go_wp2_with fail
                refine ⟨⟨j + 1, by simp, by have := HI.out; push_cast; omega, by push_cast; exact HK9.out⟩, ?_⟩
                simp only [intOf]
                have := HI.out
                omega
          · have hje : (j : Int) = 1 + n := by omega
            have HX4 : Hid (Wk w wr y0.heap.size b w.heap.size (w.heap.size + 1) #[.int .i64 a2, .int .i64 b2, .string p2, .string q2, .string s2] #[.int .i64 ol, .int .i64 b5, .string p5, .string q5, .string s5] (C2 (1 + m) (1 + n)) (T2 (1 + m) (1 + n) g (rk a2 b2 p2 q2 s2 a3 a4) g2 (rk a2 b2 p2 q2 s2 tx1 a4) (1 + n))) := by have := HXj.out; rw [hje] at this; exact this
            clear HXj hj
            obtain ⟨d0, d1, d2, d3, d4⟩ := kcells HX4.out.kb
            have HIE : Hid ((j : Int) = 1 + n) := hje
            clear hje
            have HTW : Hid ((∀ x ∈ (T2 (1 + m) (1 + n) g (rk a2 b2 p2 q2 s2 a3 a4) g2 (rk a2 b2 p2 q2 s2 tx1 a4) (1 + n)).LW, x.2.2.2 = (rk a2 b2 p2 q2 s2 tx1 a4)) ∧ (∀ x ∈ (T2 (1 + m) (1 + n) g (rk a2 b2 p2 q2 s2 a3 a4) g2 (rk a2 b2 p2 q2 s2 tx1 a4) (1 + n)).LW ++ (T2 (1 + m) (1 + n) g (rk a2 b2 p2 q2 s2 a3 a4) g2 (rk a2 b2 p2 q2 s2 tx1 a4) (1 + n)).LR, x.2.2.2 = (rk a2 b2 p2 q2 s2 tx1 a4)) ∧ (¬ ((T2 (1 + m) (1 + n) g (rk a2 b2 p2 q2 s2 a3 a4) g2 (rk a2 b2 p2 q2 s2 tx1 a4) (1 + n)).LW.length : Int) = 3) ∧ (T2 (1 + m) (1 + n) g (rk a2 b2 p2 q2 s2 a3 a4) g2 (rk a2 b2 p2 q2 s2 tx1 a4) (1 + n)).lw + 1 ≤ 1000000) := by
              show _ ∧ _ ∧ _ ∧ _
              unfold T2
              have hnn : ¬ (1 + n < 1 + n) := by omega
              split
              · refine ⟨fun x hx => by rw [List.mem_singleton.1 hx], fun x hx => by rw [List.mem_singleton.1 hx], ?_, ?_⟩
                · show ¬ ((1 : Nat) : Int) = 3; omega
                · show (2 : Int) + 1 ≤ _; omega
              · refine ⟨fun x hx => (by cases hx), fun x hx => by rw [List.mem_singleton.1 hx], ?_, ?_⟩
                · show ¬ ((0 : Nat) : Int) = 3; omega
                · show (2 : Int) + 1 ≤ _; omega
            go_wp2_with fail
            refine (add_ok HX4.out.tb (r := (rk ol b5 p5 q5 s5 a3 a4)) HROO.out (rm_rk _ _ _ _ _ _ _ _) (fun ⟨x, hx, hk⟩ => by
              rw [HTW.out.1 x hx] at hk
              exact HKNE.out _ HROX.out hk) (fun ⟨x, hx, hk⟩ => by
              rw [HTW.out.2.1 x hx, ← HNO.out] at hk
              exact HNNE.out hk.symm) HTW.out.2.2.1 HCO.out HTW.out.2.2.2).mono ?_
            rintro e x5 ⟨rfl, ⟨g5, tb5⟩, kt5, bl5⟩
            have HX5 : Hid (Wk w x5 y0.heap.size b w.heap.size (w.heap.size + 1) #[.int .i64 a2, .int .i64 b2, .string p2, .string q2, .string s2] #[.int .i64 ol, .int .i64 b5, .string p5, .string q5, .string s5] (C2 (1 + m) (1 + n)) (addS (T2 (1 + m) (1 + n) g (rk a2 b2 p2 q2 s2 a3 a4) g2 (rk a2 b2 p2 q2 s2 tx1 a4) (1 + n)) (C2 (1 + m) (1 + n)) g5 (rk ol b5 p5 q5 s5 a3 a4))) := HX4.out.step tb5 kt5 bl5
            clear tb5 kt5 bl5 HX4 HTW d0 d1 d2 d3 d4
            obtain ⟨d0, d1, d2, d3, d4⟩ := kcells HX5.out.kb
            go_wp2_with fail
            refine (has_tb HX5.out.tb (r := (rk ol b5 p5 q5 s5 a3 a4)) HROO.out true ⟨fun _ => ⟨_, List.mem_append.2 (.inr (List.mem_singleton.2 rfl)), rfl⟩, fun _ => rfl⟩).mono ?_
            rintro e x6 ⟨rfl, hb⟩
            have HX6 : Hid (Below w.heap.size w x6) := keepB HX5.out.bel hb
            clear hb HX5 d0 d1 d2 d3 d4
            go_wp2_with fail
            go_ret
            exact ⟨rfl, HX6.out⟩
  | true =>
    rw [he] at HEQ
    obtain ⟨ol, HOO⟩ : ∃ ol, Hid (bits .xor .i64 a5 1 = ol) := ⟨_, rfl⟩
    have HNK : Hid (ol = a2 ∧ b5 = b2 ∧ p5 = p2 ∧ q5 = q2 ∧ s5 = s2 → False) := fun h => by
      have h2 := (Eqk.keq_iff.1 he).1
      have h3 := (xor_ne HW.out.2.2.2.2.1).1
      rw [HOO.out] at h3
      exact h3 (h.1.trans h2.symm)
    have HOL : Hid (I64 ol) := HOO.out ▸ (xor_ne HW.out.2.2.2.2.1).2
    clear he
    have e0 : (y1.alloc (.cells #[.int .i64 a2, .int .i64 b2, .string p2, .string q2, .string s2, .int .i64 0, .int .i64 a3, .int .i64 a4, .string ⟨#[]⟩, .slice none 0 0, .string ⟨#[]⟩, .slice none 0 0] tP)).frozen? ⟨w.heap.size + 1, 0, none⟩ = false := by simp [World.frozen?, HK2.out.kb]
    have HPB3 : Hid (((y1.alloc (.cells #[.int .i64 a2, .int .i64 b2, .string p2, .string q2, .string s2, .int .i64 0, .int .i64 a3, .int .i64 a4, .string ⟨#[]⟩, .slice none 0 0, .string ⟨#[]⟩, .slice none 0 0] tP)).setCell ⟨w.heap.size + 1, 0, none⟩ (.int .i64 (bits .xor .i64 a5 1))).heap[y1.heap.size]? = some (.cells #[.int .i64 a2, .int .i64 b2, .string p2, .string q2, .string s2, .int .i64 0, .int .i64 a3, .int .i64 a4, .string ⟨#[]⟩, .slice none 0 0, .string ⟨#[]⟩, .slice none 0 0] tP (0, 0))) := by
      show _ = _
      rw [setCell_ne (p := ⟨w.heap.size + 1, 0, none⟩) (by have := (Array.getElem?_eq_some_iff.1 HK1.out.kb).1; show w.heap.size + 1 ≠ y1.heap.size; omega)]
      exact HPB.out
    go_wp2_with (first | (refine Eqk.wpList_eql_key rfl _ _ _ rfl _ _ rfl rfl _ HEQ.out ?_) | (refine wpList_load_row rfl tP _ rfl y1.heap.size rfl _ _ _ _ HPB3.out Try.underlying48 rfl infoP ?_) | fail)
    have HK3 : Hid (Wk w ((y1.alloc (.cells #[.int .i64 a2, .int .i64 b2, .string p2, .string q2, .string s2, .int .i64 0, .int .i64 a3, .int .i64 a4, .string ⟨#[]⟩, .slice none 0 0, .string ⟨#[]⟩, .slice none 0 0] tP)).setCell ⟨w.heap.size + 1, 0, none⟩ (.int .i64 (bits .xor .i64 a5 1))) y0.heap.size b w.heap.size (w.heap.size + 1) #[.int .i64 a2, .int .i64 b2, .string p2, .string q2, .string s2] #[.int .i64 (bits .xor .i64 a5 1), .int .i64 b5, .string p5, .string q5, .string s5] (C2 (1 + m) (1 + n)) S0) := by
      exact HK2.out.setB (Nat.le_succ _) (by omega) 0 _ rfl
    rw [HOO.out] at HK3 ⊢
    obtain ⟨y3, HY3⟩ : ∃ y3, Hid ((y1.alloc (.cells #[.int .i64 a2, .int .i64 b2, .string p2, .string q2, .string s2, .int .i64 0, .int .i64 a3, .int .i64 a4, .string ⟨#[]⟩, .slice none 0 0, .string ⟨#[]⟩, .slice none 0 0] tP)).setCell ⟨w.heap.size + 1, 0, none⟩ (.int .i64 ol) = y3) := ⟨_, rfl⟩
    rw [HY3.out] at HK3 ⊢
    clear HEQ HPB HPB3 HK2 HY3 d0 d1 d2 d3 d4 f0 f1 f2 f3 f4 c0 c1 c2 c3 c4 e0
    have HROO : Hid (Ro (rk ol b5 p5 q5 s5 a3 a4)) := by
      obtain ⟨h1, h2, h3, h4, h5, h6⟩ := HW.out
      obtain ⟨l1, l2, l3, l4, l5, l6⟩ := HK.out
      exact ro_rk HOL.out h6 (by omega) (by omega) (by omega) h3 h4
    have HKNE : Hid (∀ t, Ro (rk a2 b2 p2 q2 s2 t a4) → kl (rk a2 b2 p2 q2 s2 t a4) ≠ kl (rk ol b5 p5 q5 s5 a3 a4)) := fun t ht e => HNK.out (by
      have h9 := (Eqk.key_inj ht HROO.out).1 e
      exact ⟨h9.1.symm, h9.2.1.symm, h9.2.2.1.symm, h9.2.2.2.1.symm, h9.2.2.2.2.symm⟩)
    have HNNE : Hid (nl (rk a2 b2 p2 q2 s2 a3 a4) ≠ nl (rk a2 b2 p2 q2 s2 tx1 a4)) := fun e => HTN.out ((Eqk.nm_inj HROK.out HROX.out).1 e).1.symm
    have HKX : Hid (kl (rk a2 b2 p2 q2 s2 a3 a4) = kl (rk a2 b2 p2 q2 s2 tx1 a4)) := (Eqk.key_inj HROK.out HROX.out).2 ⟨rfl, rfl, rfl, rfl, rfl⟩
    have HNO : Hid (nl (rk a2 b2 p2 q2 s2 a3 a4) = nl (rk ol b5 p5 q5 s5 a3 a4)) := (Eqk.nm_inj HROK.out HROO.out).2 ⟨rfl, rfl⟩
    refine (add_ok HK3.out.tb (r := (rk a2 b2 p2 q2 s2 a3 a4)) HROK.out (rm_rk _ _ _ _ _ _ _ _) (fun ⟨x, hx, _⟩ => by cases hx) (fun ⟨x, hx, _⟩ => by cases hx) (by show ¬ (0 : Int) = 3; omega) HCO.out (by show (0 : Int) + 1 ≤ 1000000; omega)).mono ?_
    rintro e y4 ⟨rfl, ⟨g, tb4⟩, kt4, bl4⟩
    rw [t1_start _ _ _ _ (by omega)] at tb4
    have HK4 : Hid (Wk w y4 y0.heap.size b w.heap.size (w.heap.size + 1) #[.int .i64 a2, .int .i64 b2, .string p2, .string q2, .string s2] #[.int .i64 ol, .int .i64 b5, .string p5, .string q5, .string s5] (C2 (1 + m) (1 + n)) (T1 (1 + m) (1 + n) g (rk a2 b2 p2 q2 s2 a3 a4) 0)) := HK3.out.step tb4 kt4 bl4
    have HT10 : Hid ((T1 (1 + m) (1 + n) g (rk a2 b2 p2 q2 s2 a3 a4) 0).LW = [(1, 1 + m, g, (rk a2 b2 p2 q2 s2 a3 a4))]) := by show _ = _; unfold T1; rw [if_pos (by omega)]
    clear tb4 kt4 bl4 HK3
    obtain ⟨c0, c1, c2, c3, c4⟩ := kcells HK4.out.ka
    go_wp2_with fail
    rw [HTX.out]
    refine (Ph.add_key HK4.out.tb (r := (rk a2 b2 p2 q2 s2 tx1 a4)) HROX.out (rm_rk _ _ _ _ _ _ _ _) ⟨_, by rw [HT10.out]; exact List.mem_singleton.2 rfl, HKX.out⟩).mono ?_
    rintro e y5 ⟨rfl, hb5⟩
    have HK5 : Hid (Wk w y5 y0.heap.size b w.heap.size (w.heap.size + 1) #[.int .i64 a2, .int .i64 b2, .string p2, .string q2, .string s2] #[.int .i64 ol, .int .i64 b5, .string p5, .string q5, .string s5] (C2 (1 + m) (1 + n)) (T1 (1 + m) (1 + n) g (rk a2 b2 p2 q2 s2 a3 a4) 0)) := HK4.out.below hb5
    clear hb5 HK4 c0 c1 c2 c3 c4
    obtain ⟨d0, d1, d2, d3, d4⟩ := kcells HK5.out.kb
    go_wp2_with fail
    refine (Ph.add_name HK5.out.tb (r := (rk ol b5 p5 q5 s5 a3 a4)) HROO.out (rm_rk _ _ _ _ _ _ _ _) (fun ⟨x, hx, hk⟩ => by
      rw [HT10.out] at hx
      rw [List.mem_singleton.1 hx] at hk
      exact HKNE.out _ HROK.out hk) ⟨_, List.mem_append.2 (.inl (by rw [HT10.out]; exact List.mem_singleton.2 rfl)), HNO.out⟩).mono ?_
    rintro e y6 ⟨rfl, hb6⟩
    have HK6 : Hid (Wk w y6 y0.heap.size b w.heap.size (w.heap.size + 1) #[.int .i64 a2, .int .i64 b2, .string p2, .string q2, .string s2] #[.int .i64 ol, .int .i64 b5, .string p5, .string q5, .string s5] (C2 (1 + m) (1 + n)) (T1 (1 + m) (1 + n) g (rk a2 b2 p2 q2 s2 a3 a4) 0)) := HK5.out.below hb6
    clear hb6 HK5 d0 d1 d2 d3 d4
    obtain ⟨c0, c1, c2, c3, c4⟩ := kcells HK6.out.ka
    go_wp2_with fail
    refine (has_tb HK6.out.tb (r := (rk a2 b2 p2 q2 s2 a3 a4)) HROK.out true ⟨fun _ => ⟨_, by rw [HT10.out]; exact List.mem_singleton.2 rfl, rfl⟩, fun _ => rfl⟩).mono ?_
    rintro e y7 ⟨rfl, hb7⟩
    have HK7 : Hid (Wk w y7 y0.heap.size b w.heap.size (w.heap.size + 1) #[.int .i64 a2, .int .i64 b2, .string p2, .string q2, .string s2] #[.int .i64 ol, .int .i64 b5, .string p5, .string q5, .string s5] (C2 (1 + m) (1 + n)) (T1 (1 + m) (1 + n) g (rk a2 b2 p2 q2 s2 a3 a4) 0)) := HK6.out.below hb7
    clear hb7 HK6 c0 c1 c2 c3 c4
    obtain ⟨d0, d1, d2, d3, d4⟩ := kcells HK7.out.kb
    go_wp2_with fail
    refine (has_tb HK7.out.tb (r := (rk ol b5 p5 q5 s5 a3 a4)) HROO.out false ⟨fun e => (by cases e), fun ⟨x, hx, hk⟩ => by
      rw [HT10.out] at hx
      rw [List.mem_singleton.1 hx] at hk
      exact absurd hk (HKNE.out _ HROK.out)⟩).mono ?_
    rintro e y8 ⟨rfl, hb8⟩
    have HK8 : Hid (Wk w y8 y0.heap.size b w.heap.size (w.heap.size + 1) #[.int .i64 a2, .int .i64 b2, .string p2, .string q2, .string s2] #[.int .i64 ol, .int .i64 b5, .string p5, .string q5, .string s5] (C2 (1 + m) (1 + n)) (T1 (1 + m) (1 + n) g (rk a2 b2 p2 q2 s2 a3 a4) 0)) := HK7.out.below hb8
    clear hb8 HK7 d0 d1 d2 d3 d4 HT10
    go_wp2_with fail
    go_loopw [21] (fun iv wr => ∃ i : Nat, iv = .int .i64 ((i : Int) + 1) ∧ (i : Int) ≤ 1 + m ∧ Hid (Wk w wr y0.heap.size b w.heap.size (w.heap.size + 1) #[.int .i64 a2, .int .i64 b2, .string p2, .string q2, .string s2] #[.int .i64 ol, .int .i64 b5, .string p5, .string q5, .string s5] (C2 (1 + m) (1 + n)) (T1 (1 + m) (1 + n) g (rk a2 b2 p2 q2 s2 a3 a4) (i : Int)))) (fun iv _ => 43 - (intOf iv).toNat)
    case atStart => exact ⟨0, rfl, by show (0 : Int) ≤ 1 + m; omega, HK8.out⟩
    case round =>
      obtain ⟨i, rfl, hi, HKi⟩ := hrel
      by_cases hlt : (i : Int) + 1 ≤ 1 + m
      · have he : (T1 (1 + m) (1 + n) g (rk a2 b2 p2 q2 s2 a3 a4) (i : Int)) = ⟨[(1, 1 + m, g, (rk a2 b2 p2 q2 s2 a3 a4))], [], (i : Int), 1, 0, 0⟩ := by unfold T1; rw [if_pos (by omega)]
        have HTK : Hid (Calls Try.prog 19 #[.pointer (some ⟨b, 0, none⟩)] wr (PostT wr y0.heap.size b (C2 (1 + m) (1 + n)) (T1 (1 + m) (1 + n) g (rk a2 b2 p2 q2 s2 a3 a4) (i : Int)))) := tick_tb HKi.out.tb HCO.out (by rw [he]; show (i : Int) + 1 ≤ _; omega) (by rw [he]; show (0 : Int) + ((1 : Nat) : Int) ≤ _; omega) (by rw [he]; show (1 : Int) ≤ _; omega)
        have HT : Hid _ := tick_t1 (1 + m) (1 + n) g (rk a2 b2 p2 q2 s2 a3 a4) (i : Int) (by omega) (by omega)
        have q1 : (i : Int) + 1 + 1 ≤ 9223372036854775807 := by omega
        have HI : Hid ((i : Int) + 1 ≤ 1 + m) := hlt
        clear hi he
        go_wp2_with fail
        refine HTK.out.mono ?_
        rintro e y9 ⟨lv, gv, rfl, tb9, ll, lg, kt9, bl9⟩
        rw [HT.out.1] at tb9
        rw [HT.out.2.2] at lg
        obtain ⟨o1, z1, e1⟩ := lst_form ll
        obtain ⟨o2, z2, e2⟩ := lst_form lg
        have HK9 : Hid (Wk w y9 y0.heap.size b w.heap.size (w.heap.size + 1) #[.int .i64 a2, .int .i64 b2, .string p2, .string q2, .string s2] #[.int .i64 ol, .int .i64 b5, .string p5, .string q5, .string s5] (C2 (1 + m) (1 + n)) (T1 (1 + m) (1 + n) g (rk a2 b2 p2 q2 s2 a3 a4) ((i : Int) + 1))) := HKi.out.step tb9 kt9 bl9
        rw [HT.out.2.1] at e1
        clear tb9 ll lg kt9 bl9 HTK HKi
        by_cases hM : (i : Int) + 1 = 1 + m
        · rw [if_pos hM] at e1
          have hq : (((i : Int) + 1) == 1 + m) = true := by simpa using hM
          have HM : Hid ((i : Int) + 1 = 1 + m) := hM
          clear hM hlt
          subst e1 e2
          simp only [List.length_nil]
          go_wp2_with fail
          refine ⟨⟨i + 1, by simp, by have := HI.out; push_cast; omega, by push_cast; exact HK9.out⟩, ?_⟩
          simp only [intOf]
          have := HI.out
          omega
        · rw [if_neg hM] at e1
          have hq : (((i : Int) + 1) == 1 + m) = false := by simpa using hM
          clear hM hlt
          subst e1 e2
          simp only [List.length_nil]
          go_wp2_with fail
          refine ⟨⟨i + 1, by simp, by have := HI.out; push_cast; omega, by push_cast; exact HK9.out⟩, ?_⟩
          simp only [intOf]
          have := HI.out
          omega
      · have hie : (i : Int) = 1 + m := by omega
        have HK9 : Hid (Wk w wr y0.heap.size b w.heap.size (w.heap.size + 1) #[.int .i64 a2, .int .i64 b2, .string p2, .string q2, .string s2] #[.int .i64 ol, .int .i64 b5, .string p5, .string q5, .string s5] (C2 (1 + m) (1 + n)) (T1 (1 + m) (1 + n) g (rk a2 b2 p2 q2 s2 a3 a4) (1 + m))) := by have := HKi.out; rw [hie] at this; exact this
        clear HKi hi
        obtain ⟨d0, d1, d2, d3, d4⟩ := kcells HK9.out.kb
        have HIE : Hid ((i : Int) = 1 + m) := hie
        clear hie
        go_wp2_with fail
        have HTM : Hid ((T1 (1 + m) (1 + n) g (rk a2 b2 p2 q2 s2 a3 a4) (1 + m)) = ⟨[], [(1, 1 + m + (1 + n), g, (rk a2 b2 p2 q2 s2 a3 a4))], 1 + m, 1, 1, 0⟩) := by show _ = _; unfold T1; rw [if_neg (by omega)]
        refine (Ph.add_name HK9.out.tb (r := (rk ol b5 p5 q5 s5 a3 a4)) HROO.out (rm_rk _ _ _ _ _ _ _ _) (fun ⟨x, hx, hk⟩ => by rw [HTM.out] at hx; cases hx) ⟨(1, 1 + m + (1 + n), g, (rk a2 b2 p2 q2 s2 a3 a4)), by rw [HTM.out]; exact List.mem_singleton.2 rfl, HNO.out⟩).mono ?_
        rintro e x1 ⟨rfl, hb⟩
        have HX1 : Hid (Wk w x1 y0.heap.size b w.heap.size (w.heap.size + 1) #[.int .i64 a2, .int .i64 b2, .string p2, .string q2, .string s2] #[.int .i64 ol, .int .i64 b5, .string p5, .string q5, .string s5] (C2 (1 + m) (1 + n)) (T1 (1 + m) (1 + n) g (rk a2 b2 p2 q2 s2 a3 a4) (1 + m))) := HK9.out.below hb
        clear hb HK9 d0 d1 d2 d3 d4
        obtain ⟨c0, c1, c2, c3, c4⟩ := kcells HX1.out.ka
        go_wp2_with fail
        rw [HTX.out]
        refine (add_ok HX1.out.tb (r := (rk a2 b2 p2 q2 s2 tx1 a4)) HROX.out (rm_rk _ _ _ _ _ _ _ _) (fun ⟨x, hx, _⟩ => by rw [HTM.out] at hx; cases hx) (fun ⟨x, hx, hk⟩ => by
          rw [HTM.out] at hx
          rw [List.mem_singleton.1 hx] at hk
          exact HNNE.out hk) (by rw [HTM.out]; show ¬ (0 : Int) = 3; omega) HCO.out (by rw [HTM.out]; show (1 : Int) + 1 ≤ 1000000; omega)).mono ?_
        rintro e x2 ⟨rfl, ⟨g2, tb2⟩, kt2, bl2⟩
        rw [t2_start _ _ _ _ _ _ (by omega) (by omega)] at tb2
        have HX2 : Hid (Wk w x2 y0.heap.size b w.heap.size (w.heap.size + 1) #[.int .i64 a2, .int .i64 b2, .string p2, .string q2, .string s2] #[.int .i64 ol, .int .i64 b5, .string p5, .string q5, .string s5] (C2 (1 + m) (1 + n)) (T2 (1 + m) (1 + n) g (rk a2 b2 p2 q2 s2 a3 a4) g2 (rk a2 b2 p2 q2 s2 tx1 a4) 0)) := HX1.out.step tb2 kt2 bl2
        clear tb2 kt2 bl2 HX1 HTM c0 c1 c2 c3 c4
        have HT20 : Hid ((T2 (1 + m) (1 + n) g (rk a2 b2 p2 q2 s2 a3 a4) g2 (rk a2 b2 p2 q2 s2 tx1 a4) 0).LW = [(2, 1 + m + (1 + m), g2, (rk a2 b2 p2 q2 s2 tx1 a4))]) := by show _ = _; unfold T2; rw [if_pos (by omega)]
        obtain ⟨d0, d1, d2, d3, d4⟩ := kcells HX2.out.kb
        go_wp2_with fail
        refine (has_tb HX2.out.tb (r := (rk ol b5 p5 q5 s5 a3 a4)) HROO.out false ⟨fun e => (by cases e), fun ⟨x, hx, hk⟩ => by
          rw [HT20.out] at hx
          rw [List.mem_singleton.1 hx] at hk
          exact absurd hk (HKNE.out _ HROX.out)⟩).mono ?_
        rintro e x3 ⟨rfl, hb⟩
        have HX3 : Hid (Wk w x3 y0.heap.size b w.heap.size (w.heap.size + 1) #[.int .i64 a2, .int .i64 b2, .string p2, .string q2, .string s2] #[.int .i64 ol, .int .i64 b5, .string p5, .string q5, .string s5] (C2 (1 + m) (1 + n)) (T2 (1 + m) (1 + n) g (rk a2 b2 p2 q2 s2 a3 a4) g2 (rk a2 b2 p2 q2 s2 tx1 a4) 0)) := HX2.out.below hb
        clear hb HX2 HT20 d0 d1 d2 d3 d4
        go_wp2_with fail
        obtain ⟨wo, HWO⟩ : ∃ wo : World, Hid (wo = wr) := ⟨_, rfl⟩
        go_loopw [24] (fun iv wr => ∃ j : Nat, iv = .int .i64 ((j : Int) + 1) ∧ (j : Int) ≤ 1 + n ∧ Hid (Wk w wr y0.heap.size b w.heap.size (w.heap.size + 1) #[.int .i64 a2, .int .i64 b2, .string p2, .string q2, .string s2] #[.int .i64 ol, .int .i64 b5, .string p5, .string q5, .string s5] (C2 (1 + m) (1 + n)) (T2 (1 + m) (1 + n) g (rk a2 b2 p2 q2 s2 a3 a4) g2 (rk a2 b2 p2 q2 s2 tx1 a4) (j : Int)))) (fun iv _ => 43 - (intOf iv).toNat)
        case atStart => exact ⟨0, rfl, by show (0 : Int) ≤ 1 + n; omega, HX3.out⟩
        case round =>
          obtain ⟨j, rfl, hj, HXj⟩ := hrel
          by_cases hjn : (j : Int) + 1 ≤ 1 + n
          · have HBD : Hid ((T2 (1 + m) (1 + n) g (rk a2 b2 p2 q2 s2 a3 a4) g2 (rk a2 b2 p2 q2 s2 tx1 a4) (j : Int)).now + 1 ≤ 1000000 ∧ (T2 (1 + m) (1 + n) g (rk a2 b2 p2 q2 s2 a3 a4) g2 (rk a2 b2 p2 q2 s2 tx1 a4) (j : Int)).lr + ((T2 (1 + m) (1 + n) g (rk a2 b2 p2 q2 s2 a3 a4) g2 (rk a2 b2 p2 q2 s2 tx1 a4) (j : Int)).LW.length : Int) ≤ 1000000 ∧ (T2 (1 + m) (1 + n) g (rk a2 b2 p2 q2 s2 a3 a4) g2 (rk a2 b2 p2 q2 s2 tx1 a4) (j : Int)).lw ≤ 1000000) := by
              show _ ∧ _ ∧ _
              unfold T2
              split
              · refine ⟨?_, ?_, ?_⟩
                · show 1 + m + (j : Int) + 1 ≤ _; omega
                · show (1 : Int) + ((1 : Nat) : Int) ≤ _; omega
                · show (2 : Int) ≤ _; omega
              · refine ⟨?_, ?_, ?_⟩
                · show 1 + m + (j : Int) + 1 ≤ _; omega
                · show (2 : Int) + ((0 : Nat) : Int) ≤ _; omega
                · show (2 : Int) ≤ _; omega
            have HTK : Hid (Calls Try.prog 19 #[.pointer (some ⟨b, 0, none⟩)] wr (PostT wr y0.heap.size b (C2 (1 + m) (1 + n)) (T2 (1 + m) (1 + n) g (rk a2 b2 p2 q2 s2 a3 a4) g2 (rk a2 b2 p2 q2 s2 tx1 a4) (j : Int)))) := tick_tb HXj.out.tb HCO.out HBD.out.1 HBD.out.2.1 HBD.out.2.2
            have HT : Hid _ := tick_t2 (1 + m) (1 + n) g g2 (rk a2 b2 p2 q2 s2 a3 a4) (rk a2 b2 p2 q2 s2 tx1 a4) (j : Int) (by omega) (by omega) (by omega)
            have q1 : (j : Int) + 1 + 1 ≤ 9223372036854775807 := by omega
            have HI : Hid ((j : Int) + 1 ≤ 1 + n) := hjn
            clear hj
            go_wp2_with fail
            refine HTK.out.mono ?_
            rintro e y9 ⟨lv, gv, rfl, tb9, ll, lg, kt9, bl9⟩
            rw [HT.out.1] at tb9
            rw [HT.out.2] at lg
            obtain ⟨o1, z1, e1⟩ := lst_form ll
            obtain ⟨o2, z2, e2⟩ := lst_form lg
            have HK9 : Hid (Wk w y9 y0.heap.size b w.heap.size (w.heap.size + 1) #[.int .i64 a2, .int .i64 b2, .string p2, .string q2, .string s2] #[.int .i64 ol, .int .i64 b5, .string p5, .string q5, .string s5] (C2 (1 + m) (1 + n)) (T2 (1 + m) (1 + n) g (rk a2 b2 p2 q2 s2 a3 a4) g2 (rk a2 b2 p2 q2 s2 tx1 a4) ((j : Int) + 1))) := HXj.out.step tb9 kt9 bl9
            obtain ⟨KL, HKL⟩ : ∃ KL, Hid ((lateL (T2 (1 + m) (1 + n) g (rk a2 b2 p2 q2 s2 a3 a4) g2 (rk a2 b2 p2 q2 s2 tx1 a4) (j : Int))).length = KL) := ⟨_, rfl⟩
            rw [HKL.out] at e1
            clear tb9 ll lg kt9 bl9 HTK HXj HBD HKL
            by_cases hN : (j : Int) + 1 = 1 + n
            · rw [if_pos hN] at e2
              have hq : (((j : Int) + 1) == 1 + n) = true := by simpa using hN
              have hq2 : decide ((j : Int) + 1 < 1 + n) = false := by simp; omega
              clear hN hjn
              subst e1 e2
              simp only [List.length_singleton]
              go_wp2_with fail
              refine ⟨⟨j + 1, by simp, by have := HI.out; push_cast; omega, by push_cast; exact HK9.out⟩, ?_⟩
              simp only [intOf]
              have := HI.out
              omega
            · rw [if_neg hN] at e2
              have hq : (((j : Int) + 1) == 1 + n) = false := by simpa using hN
              have hq2 : (j : Int) + 1 < 1 + n := by omega
              clear hN hjn
              subst e1 e2
              simp only [List.length_nil]
              by_cases hM2 : (j : Int) + 1 < 1 + m
              · go_wp2_with fail
                refine ⟨⟨j + 1, by simp, by have := HI.out; push_cast; omega, by push_cast; exact HK9.out⟩, ?_⟩
                simp only [intOf]
                have := HI.out
                omega
              · go_wp2_with fail
                refine ⟨⟨j + 1, by simp, by have := HI.out; push_cast; omega, by push_cast; exact HK9.out⟩, ?_⟩
                simp only [intOf]
                have := HI.out
                omega
          · have hje : (j : Int) = 1 + n := by omega
            have HX4 : Hid (Wk w wr y0.heap.size b w.heap.size (w.heap.size + 1) #[.int .i64 a2, .int .i64 b2, .string p2, .string q2, .string s2] #[.int .i64 ol, .int .i64 b5, .string p5, .string q5, .string s5] (C2 (1 + m) (1 + n)) (T2 (1 + m) (1 + n) g (rk a2 b2 p2 q2 s2 a3 a4) g2 (rk a2 b2 p2 q2 s2 tx1 a4) (1 + n))) := by have := HXj.out; rw [hje] at this; exact this
            clear HXj hj
            obtain ⟨d0, d1, d2, d3, d4⟩ := kcells HX4.out.kb
            have HIE : Hid ((j : Int) = 1 + n) := hje
            clear hje
            have HTW : Hid ((∀ x ∈ (T2 (1 + m) (1 + n) g (rk a2 b2 p2 q2 s2 a3 a4) g2 (rk a2 b2 p2 q2 s2 tx1 a4) (1 + n)).LW, x.2.2.2 = (rk a2 b2 p2 q2 s2 tx1 a4)) ∧ (∀ x ∈ (T2 (1 + m) (1 + n) g (rk a2 b2 p2 q2 s2 a3 a4) g2 (rk a2 b2 p2 q2 s2 tx1 a4) (1 + n)).LW ++ (T2 (1 + m) (1 + n) g (rk a2 b2 p2 q2 s2 a3 a4) g2 (rk a2 b2 p2 q2 s2 tx1 a4) (1 + n)).LR, x.2.2.2 = (rk a2 b2 p2 q2 s2 tx1 a4)) ∧ (¬ ((T2 (1 + m) (1 + n) g (rk a2 b2 p2 q2 s2 a3 a4) g2 (rk a2 b2 p2 q2 s2 tx1 a4) (1 + n)).LW.length : Int) = 3) ∧ (T2 (1 + m) (1 + n) g (rk a2 b2 p2 q2 s2 a3 a4) g2 (rk a2 b2 p2 q2 s2 tx1 a4) (1 + n)).lw + 1 ≤ 1000000) := by
              show _ ∧ _ ∧ _ ∧ _
              unfold T2
              have hnn : ¬ (1 + n < 1 + n) := by omega
              split
              · refine ⟨fun x hx => by rw [List.mem_singleton.1 hx], fun x hx => by rw [List.mem_singleton.1 hx], ?_, ?_⟩
                · show ¬ ((1 : Nat) : Int) = 3; omega
                · show (2 : Int) + 1 ≤ _; omega
              · refine ⟨fun x hx => (by cases hx), fun x hx => by rw [List.mem_singleton.1 hx], ?_, ?_⟩
                · show ¬ ((0 : Nat) : Int) = 3; omega
                · show (2 : Int) + 1 ≤ _; omega
            go_wp2_with fail
            refine (add_ok HX4.out.tb (r := (rk ol b5 p5 q5 s5 a3 a4)) HROO.out (rm_rk _ _ _ _ _ _ _ _) (fun ⟨x, hx, hk⟩ => by
              rw [HTW.out.1 x hx] at hk
              exact HKNE.out _ HROX.out hk) (fun ⟨x, hx, hk⟩ => by
              rw [HTW.out.2.1 x hx, ← HNO.out] at hk
              exact HNNE.out hk.symm) HTW.out.2.2.1 HCO.out HTW.out.2.2.2).mono ?_
            rintro e x5 ⟨rfl, ⟨g5, tb5⟩, kt5, bl5⟩
            have HX5 : Hid (Wk w x5 y0.heap.size b w.heap.size (w.heap.size + 1) #[.int .i64 a2, .int .i64 b2, .string p2, .string q2, .string s2] #[.int .i64 ol, .int .i64 b5, .string p5, .string q5, .string s5] (C2 (1 + m) (1 + n)) (addS (T2 (1 + m) (1 + n) g (rk a2 b2 p2 q2 s2 a3 a4) g2 (rk a2 b2 p2 q2 s2 tx1 a4) (1 + n)) (C2 (1 + m) (1 + n)) g5 (rk ol b5 p5 q5 s5 a3 a4))) := HX4.out.step tb5 kt5 bl5
            clear tb5 kt5 bl5 HX4 HTW d0 d1 d2 d3 d4
            obtain ⟨d0, d1, d2, d3, d4⟩ := kcells HX5.out.kb
            go_wp2_with fail
            refine (has_tb HX5.out.tb (r := (rk ol b5 p5 q5 s5 a3 a4)) HROO.out true ⟨fun _ => ⟨_, List.mem_append.2 (.inr (List.mem_singleton.2 rfl)), rfl⟩, fun _ => rfl⟩).mono ?_
            rintro e x6 ⟨rfl, hb⟩
            have HX6 : Hid (Below w.heap.size w x6) := keepB HX5.out.bel hb
            clear hb HX5 d0 d1 d2 d3 d4
            go_wp2_with fail
            go_ret
            exact ⟨rfl, HX6.out⟩
end Go.Proofs.Ytgchdjjafgkcbaa.Pt
