/- WheelOnce: its walk. -/
import Derived.Test.YtdhljogcoooomaaOe
import Derived.Test.YtdhljogcoooomaaXe
import Derived.Test.YtdhljogcoooomaaPick
import Derived.Test.YtdhljogcoooomaaSg
namespace Go.Proofs.Ytdhljogcoooomaa.Ow
set_option linter.unusedVariables false
set_option linter.unusedSimpArgs false
open Go.RowKit Go.Maps Lib0 Kb Xp Oq Il Dl El Fl Gl Hl Kl Jl Ml Tl Cl Om Oc Oe
attribute [local go_sem] Oper.semAt_some
theorem bnd {x : Int} (h : (Lit.int .i64 x).wf = true) : -9223372036854775808 ≤ x ∧ x ≤ 9223372036854775807 := by
  simp [Lit.wf, IntKind.min, IntKind.max, IntKind.signed, IntKind.bits] at h; omega
theorem infoI : (Try.prog.info? tI).map (fun i => (i.zero, i.size, i.bytes)) = some (some (.int .i64 0), 1, 8) := by kernel_rfl
theorem infoB : (Try.prog.info? tB).map (fun i => (i.zero, i.size, i.bytes)) = some (some (.bool false), 1, 1) := by kernel_rfl
theorem on_new {w0 w : World} {b n : Nat} (h : ∃ B, Wl w b B n [] 0 0 ∧ ∀ g, B g → w0.heap.size ≤ g) (hb : Below w0.heap.size w0 w) (h1 : 1 ≤ n) (h2 : n ≤ 4096) : On w0 w b n [] [] (fun _ => .slice none 0 0) 0 ((([] : List Int).length : Nat) : Int) (.slice none 0 0) [] (.slice none 0 0) [] :=
  ⟨h, hb, Tl.Ok.new h1 h2, World.ownsRow_nil _ _ _ _, World.ownsRow_nil _ _ _ _, rfl, fun k hk => absurd hk (Nat.not_lt_zero _), fun k hk => absurd hk (Nat.not_lt_zero _), fun k hk => absurd hk (Nat.not_lt_zero _)⟩
set_option maxHeartbeats 12800000 in
set_option maxRecDepth 100000 in
theorem walk (a0 : Int) (v1 : Value) (z1 : List Int) (v2 : Value) (z2 : List Int) (v3 : Value) (z3 : List Int) (w : World) (w0 : (Lit.int .i64 a0).wf = true) (w1 : Sg.LiesI w v1 z1) (w2 : Sg.LiesI w v2 z2) (w3 : Sg.LiesI w v3 z3) :
    Calls Try.prog 5 #[.int .i64 a0, v1, v2, v3] w fun e w' => e = .returned (.bool true) ∧ Below w.heap.size w w' := by
  have b0 := bnd w0
  have pk0 := fun x => Pick.pick_any a0 4096 x b0.1 b0.2 (by decide) (by decide)
  have l0 := Pick.pick_lo a0 4096 (by decide)
  have h0 := Pick.pick_hi a0 4096 (by decide)
  generalize Pick.pickOf a0 4096 = n0 at *
  obtain ⟨n, hn⟩ : ∃ n : Nat, 1 + n0 = (n : Int) := ⟨(1 + n0).toNat, by omega⟩
  have HN1 : Hid (1 ≤ n) := by show 1 ≤ n; omega
  have HN2 : Hid (n ≤ 4096) := by show n ≤ 4096; omega
  have HS1 : Hid (Sg.LiesI w v1 z1) := w1
  have HS2 : Hid (Sg.LiesI w v2 z2) := w2
  have HS3 : Hid (Sg.LiesI w v3 z3) := w3
  obtain ⟨o1, cap1, hv1, lz1, _⟩ := w1
  subst hv1
  obtain ⟨o2, cap2, hv2, lz2, _⟩ := w2
  subst hv2
  obtain ⟨o3, cap3, hv3, lz3, _⟩ := w3
  subst hv3
  obtain ⟨iI, hiI, hI0, hI1, hI2⟩ := info_parts infoI
  obtain ⟨iB, hiB, hB0, hB1, hB2⟩ := info_parts infoB
  clear b0 w0
  go_enter Try.func5, Try.ntmps5
  go_wp2_with fail
  refine (Xe.examples_any w).mono ?_
  rintro e y0 ⟨rfl, hy0⟩
  have HY0 : Hid (Below w.heap.size w y0) := hy0
  clear hy0
  go_wp2_with fail
  refine (pk0 _).mono ?_
  rintro e x0 ⟨rfl, hx0⟩
  rw [hx0]
  clear hx0 x0 pk0
  go_wp2_with fail
  try rw [hn]
  clear hn l0 h0
  refine (new_yes n y0 HN1.out HN2.out).mono ?_
  rintro e y1 ⟨b, rfl, B, hW, hb, hB⟩
  have HON : Hid (On w y1 b n [] [] (fun _ => .slice none 0 0) 0 ((([] : List Int).length : Nat) : Int) (.slice none 0 0) [] (.slice none 0 0) []) := on_new ⟨B, hW, fun g hg => Nat.le_trans HY0.out.size (hB g hg)⟩ (keepB HY0.out hb) HN1.out HN2.out
  clear hW hb hB
  go_wp2_with fail
  go_loopw [12, 13, 14, 15, 16, 17, 18, 19, 20, 21, 22, 23] (fun duv dnv iv _ _ _ _ _ _ _ _ _ wr => ∃ (i : Nat) (due : List Int) (dn : List Bool) (th : Nat → Value) (now : Int), iv = .int .i64 (i : Int) ∧ due.length = i ∧ i ≤ 50 ∧ i ≤ z1.length ∧ 0 ≤ now ∧ now ≤ 30 * (i : Int) ∧ 0 ≤ i ∧ Hid (On w wr b n due dn th now (due.length : Nat) duv due dnv dn)) (fun _ _ iv _ _ _ _ _ _ _ _ _ _ => 51 - (intOf iv).toNat)
  case atStart => exact ⟨0, [], [], fun _ => .slice none 0 0, 0, rfl, rfl, by omega, Nat.zero_le _, by omega, by omega, Nat.le_refl _, HON.out⟩
  case round =>
    obtain ⟨i, due, dn, th, now, rfl, hli, hi50, hiz, hn0, hn1, -, HOn⟩ := hrel
    have HLI : Hid (due.length = i) := hli
    clear hli
    by_cases hc : i < z1.length
    · by_cases hc2 : i < 50
      · have q0 : (i : Int) < (z1.length : Int) := by omega
        have q1 : (0 : Int) ≤ (i : Int) := by omega
        have q2 : (i : Int) < 50 := by omega
        have q3 : (i : Int) + 1 ≤ 9223372036854775807 := by omega
        obtain ⟨o1', cap1', ho1, _, hat1⟩ := HS1.out
        injection ho1 with ho11 _ ho12
        subst ho11 ho12
        obtain ⟨oa1, rfl, hat1c, hf1⟩ := hat1 i hc
        have t1 : wr.cell? (oa1.add i) = some (.int .i64 z1[i]) := (HOn.out.below.cell (World.block_lt_of_cell? w _ hat1c)).trans hat1c
        have bz1 := bnd hf1
        have pt := fun x => Pick.pick_any z1[i] 200 x bz1.1 bz1.2 (by decide) (by decide)
        have g0 := Pick.pick_lo z1[i] 200 (by decide)
        have g1 := Pick.pick_hi z1[i] 200 (by decide)
        generalize Pick.pickOf z1[i] 200 = t0 at *
        generalize z1[i] = zi1 at *
        obtain ⟨t, ht⟩ : ∃ t, 1 + t0 = t := ⟨_, rfl⟩
        have ht1 : 1 ≤ t := by omega
        have ht2 : t ≤ 200 := by omega
        clear hat1 hat1c hf1 bz1
        go_wp2_with fail
        refine (pt _).mono ?_
        rintro e x0 ⟨rfl, hx0⟩
        rw [hx0]
        clear hx0 x0 pt t1
        obtain ⟨W1, hW1⟩ : ∃ W1, wr.alloc (.cells #[.int .i64 (i : Int)] 3) = W1 := ⟨_, rfl⟩
        have HW1 : Hid (Below wr.heap.size wr W1) := hW1 ▸ below_one _ _
        have HX1 : Hid (W1.heap[wr.heap.size]? = some (.cells #[.int .i64 (i : Int)] tI)) := hW1 ▸ h1_0 _ _
        have HOn1 : Hid (On w W1 b n due dn th now (due.length : Nat) u12 due u13 dn) := HOn.out.keep HW1.out
        have HNE : Hid (u12.ownBlock ≠ some wr.heap.size) := fun e => by
          have := (HOn.out.rdu.lt _ e).2
          omega
        go_wp2_with fail
        try rw [ht]
        try rw [hW1]
        have HT : Hid (1 + t0 = t) := ht
        clear ht hW1 g0 g1
        obtain ⟨B, hw, hB⟩ := HOn1.out.wl
        have hadd := add_yes W1 b B n _ now (due.length : Nat) t (.slice (some ⟨wr.heap.size, 0, none⟩) 1 1) hw HOn1.out.ok rfl (by omega) (by omega) (by have := HLI.out; omega)
        refine hadd.mono ?_
        rintro e y2 ⟨rfl, htr⟩
        have HON2 : Hid (On w y2 b n (due ++ [now + t]) (dn ++ [false]) (upT th due.length (.slice (some ⟨wr.heap.size, 0, none⟩) 1 1)) now ((due.length : Int) + 1) u12 due u13 dn) := HOn1.out.add wr.heap.size 1 (by rw [HLI.out]; exact HX1.out) HNE.out hw hB ht1 ht2 (by have := HLI.out; omega) htr
        clear hadd hw hB htr
        rw [HLI.out]
        rw [HLI.out] at HON2
        obtain ⟨X0, HX0⟩ : ∃ X0, Hid (wr.heap.size = X0) := ⟨_, rfl⟩
        rw [HX0.out] at HON2
        rw [HX0.out]
        have s1 : now + t ≤ 9223372036854775807 := by omega
        have s2 : -9223372036854775808 ≤ now + t := by omega
        clear HW1 HX1 HOn1 HNE
        go_wp2_with fail
        obtain ⟨B, hw, hB⟩ := HON2.out.wl
        refine (now_any y2 b B n _ now ((i : Int) + 1) hw).mono ?_
        rintro e y2' ⟨rfl, hy2⟩
        rw [hy2]
        clear hy2 y2' hw hB
        have HDUN : Hid (due.length + 1 ≤ 51) := by have := HLI.out; show due.length + 1 ≤ 51; omega
        have HDNN : Hid (dn.length + 1 ≤ 51) := by
          have h1 := HOn.out.len
          have := HLI.out
          show dn.length + 1 ≤ 51
          omega
        by_cases hp2 : i < z2.length
        · have q10 : (i : Int) < (z2.length : Int) := by omega
          obtain ⟨o2', cap2', ho2, _, hat2⟩ := HS2.out
          injection ho2 with ho21 _ ho22
          subst ho21 ho22
          obtain ⟨oa2, rfl, hat2c, hf2⟩ := hat2 i hp2
          have HT2 : Hid (w.cell? (oa2.add i) = some (.int .i64 z2[i])) := hat2c
          have bz2 := bnd hf2
          have pp := fun x => Pick.pick_any z2[i] 30 x bz2.1 bz2.2 (by decide) (by decide)
          have p0 := Pick.pick_lo z2[i] 30 (by decide)
          have p1 := Pick.pick_hi z2[i] 30 (by decide)
          generalize Pick.pickOf z2[i] 30 = pz at *
          generalize z2[i] = zi2 at *
          obtain ⟨P, rfl⟩ := Int.eq_ofNat_of_zero_le p0
          clear hat2 hat2c hf2 bz2
          go_wp2_with (first | (at_builtin; refine wpList_append_own_at _ rfl _ _ 45 rfl w.heap.size tI iI _ 1 8 Try.underlying45 hiI hI0 hI1 hI2 rfl (by decide) _ _ _ rfl (HON2.out.rdu.alloc _) ⟨y2.heap.size, 0, none⟩ 1 1 [.int .i64 (now + t)] rfl rfl (cell_one_new _ _ _) (by intro u hu; simp at hu; rw [hu]; rfl) (by have := HDUN.out; unfold maxLen; omega) (by have := HDUN.out; omega) (by have := HON2.out.below.size; simp; omega) ?_; intro v' y3 hown3 hgrow3 hnil3 hloc3; have HON3 : Hid (On w y3 b n (due ++ [now + t]) (dn ++ [false]) (upT th i (.slice (some ⟨X0, 0, none⟩) 1 1)) now ((i : Int) + 1) v' (due ++ [now + t]) u13 dn) := HON2.out.due (below_one _ _) (now + t) hown3 hgrow3 hloc3; clear hown3 hgrow3 hnil3 hloc3) | (at_builtin; refine wpList_append_own_at _ rfl _ _ 60 rfl w.heap.size tB iB _ 1 1 Try.underlying60 hiB hB0 hB1 hB2 rfl (by decide) _ _ _ rfl (HON3.out.rdn.alloc _) ⟨y3.heap.size, 0, none⟩ 1 1 [.bool false] rfl rfl (cell_one_new _ _ _) (by intro u hu; simp at hu; rw [hu]; rfl) (by have := HDNN.out; unfold maxLen; omega) (by have := HDNN.out; omega) (by have := HON3.out.below.size; simp; omega) ?_; intro vd' y4 hown4 hgrow4 hnil4 hloc4; have HON4a : Hid (On w y4 b n (due ++ [now + t]) (dn ++ [false]) (upT th i (.slice (some ⟨X0, 0, none⟩) 1 1)) now ((i : Int) + 1) v' (due ++ [now + t]) vd' (dn ++ [false])) := HON3.out.done (below_one _ _) false hown4 hgrow4; clear hown4 hgrow4 hnil4 hloc4; have t2 : y4.cell? (oa2.add i) = some (.int .i64 zi2) := (HON4a.out.below.cell (World.block_lt_of_cell? w _ HT2.out)).trans HT2.out) | fail)
          refine (pp _).mono ?_
          rintro e x0 ⟨rfl, hx0⟩
          rw [hx0]
          clear hx0 x0 pp t2
          have HON4 : Hid (On w y4 b n (due ++ [now + t]) (dn ++ [false]) (upT th i (.slice (some ⟨X0, 0, none⟩) 1 1)) now ((due ++ [now + t]).length : Nat) v' (due ++ [now + t]) vd' (dn ++ [false])) := by
            rw [show (((due ++ [now + t]).length : Nat) : Int) = (i : Int) + 1 by simp [HLI.out]]
            exact HON4a.out
          have HL50 : Hid ((due ++ [now + t]).length ≤ 50) := by
            have := HLI.out
            show (due ++ [now + t]).length ≤ 50
            simp
            omega
          have HLI2 : Hid ((due ++ [now + t]).length = i + 1) := by
            show (due ++ [now + t]).length = i + 1
            simp [HLI.out]
          have hPP : P ≤ 29 := by omega
          clear HON4a HON3 HON2 HOn p0 p1
          go_wp2_with fail
          go_loopw [19, 20] (fun kv _ wr => ∃ (k : Nat) (dn2 : List Bool), kv = .int .i64 (k : Int) ∧ k ≤ P ∧ Hid (On w wr b n (due ++ [now + t]) dn2 (upT th i (.slice (some ⟨X0, 0, none⟩) 1 1)) (now + k) ((due ++ [now + t]).length : Nat) v' (due ++ [now + t]) vd' dn2)) (fun kv _ _ => P + 1 - (intOf kv).toNat)
          case atStart => exact ⟨0, dn ++ [false], rfl, Nat.zero_le _, by rw [show now + ((0 : Nat) : Int) = now by omega]; exact HON4.out⟩
          case round =>
            obtain ⟨k, dn2, rfl, hk, HOn2⟩ := hrel
            by_cases hkP : k < P
            · have q20 : (k : Int) < (P : Int) := by omega
              have q21 : (k : Int) + 1 ≤ 9223372036854775807 := by omega
              go_wp2_with fail
              refine (comes_on w _ b n _ dn2 _ _ _ _ HOn2.out HL50.out (by omega)).mono ?_
              rintro e y3 ⟨rfl, dn3, hon3, -⟩
              have HOn3 : Hid (On w y3 b n (due ++ [now + t]) dn3 (upT th i (.slice (some ⟨X0, 0, none⟩) 1 1)) (now + k + 1) ((due ++ [now + t]).length : Nat) v' (due ++ [now + t]) vd' dn3) := hon3
              clear hon3
              go_wp2_with fail
              refine ⟨⟨k + 1, dn3, by simp, by omega, by rw [show now + ((k + 1 : Nat) : Int) = now + k + 1 by omega]; exact HOn3.out⟩, ?_⟩
              simp only [intOf]; omega
            · obtain rfl : k = P := by omega
              have q20 : ¬ (k : Int) < (k : Int) := by omega
              clear hk
              by_cases hc3 : i < z3.length
              · have q30 : (i : Int) < (z3.length : Int) := by omega
                obtain ⟨o3', cap3', ho3, _, hat3⟩ := HS3.out
                injection ho3 with ho31 _ ho32
                subst ho31 ho32
                obtain ⟨oa3, rfl, hat3c, hf3⟩ := hat3 i hc3
                have t3 : wr.cell? (oa3.add i) = some (.int .i64 z3[i]) := (HOn2.out.below.cell (World.block_lt_of_cell? w _ hat3c)).trans hat3c
                have bz3 := bnd hf3
                have pc := fun x => Pick.pick_any z3[i] ((i : Int) + 1) x bz3.1 bz3.2 (by omega) (by omega)
                have c0 := Pick.pick_lo z3[i] ((i : Int) + 1) (by omega)
                have c1 := Pick.pick_hi z3[i] ((i : Int) + 1) (by omega)
                generalize Pick.pickOf z3[i] ((i : Int) + 1) = cz at *
                generalize z3[i] = zi3 at *
                obtain ⟨c, rfl⟩ := Int.eq_ofNat_of_zero_le c0
                have HCI : Hid (c < i + 1) := by show c < i + 1; omega
                have q31 : (c : Int) + 1 ≤ 9223372036854775807 := by omega
                have q32 : (c : Int) < (i : Int) + 1 := by omega
                clear hat3 hat3c hf3 bz3 c0 c1
                go_wp2_with fail
                refine (pc _).mono ?_
                rintro e x0 ⟨rfl, hx0⟩
                rw [hx0]
                clear hx0 x0 pc t3
                go_wp2_with fail
                refine (cancel_on w _ b n _ dn2 _ _ _ _ c HOn2.out HL50.out (by rw [HLI2.out]; exact HCI.out)).mono ?_
                rintro e y5 ⟨cv, cg, rfl, hon5, hcs⟩
                have HOn5 : Hid (On w y5 b n (due ++ [now + t]) (dn2.set c true) (upT th i (.slice (some ⟨X0, 0, none⟩) 1 1)) (now + k) ((due ++ [now + t]).length : Nat) v' (due ++ [now + t]) vd' dn2) := hon5
                clear hon5
                have hdl : dn2.length = i + 1 := by rw [HOn2.out.len, HLI2.out]
                obtain ⟨gd, cd', ud, ed, xd, c1, f1⟩ := row_at HOn5.out.rdn c (by rw [hdl]; exact HCI.out)
                rw [hdl] at ed
                have hid : c < dn2.length := by rw [hdl]; exact HCI.out
                have e2 : ud = .bool (dn2.getD c true) := by
                  rw [List.getElem?_map, List.getElem?_eq_getElem hid] at xd
                  rw [getD_at hid]; simpa using xd.symm
                rw [e2] at c1
                subst ed
                have HCD : Hid (c < dn2.length) := hid
                rcases hcs with ⟨hcs1, rfl, rfl⟩ | ⟨hcs1, rfl, rfl⟩
                · rw [hcs1] at c1
                  clear hcs1 e2 xd hid hdl
                  go_wp2_with fail
                  have HON6 : Hid (On w (y5.setCell ⟨gd, c, none⟩ (.bool true)) b n (due ++ [now + t]) (dn2.set c true) (upT th i (.slice (some ⟨X0, 0, none⟩) 1 1)) (now + k) ((due ++ [now + t]).length : Nat) v' (due ++ [now + t]) (.slice (some ⟨gd, 0, none⟩) (i + 1) cd') (dn2.set c true)) := HOn5.out.mark c HCD.out
                  refine ⟨⟨i + 1, due ++ [now + t], dn2.set c true, upT th i (.slice (some ⟨X0, 0, none⟩) 1 1), now + k, by simp, by simp [HLI.out], by omega, by omega, by omega, by omega, by omega, ?_⟩, ?_⟩
                  · exact HON6.out
                  · simp only [intOf]; omega
                · rw [hcs1] at c1
                  obtain ⟨bk, cp, tb, hbk⟩ := HOn5.out.rth c (by rw [HLI2.out]; exact HCI.out)
                  rw [tb]
                  have t0 : y5.cell? ⟨bk, 0, none⟩ = some (.int .i64 (c : Int)) := by simp [World.cell?, hbk]
                  clear hcs1 e2 xd hid hdl tb hbk
                  go_wp2_with fail
                  have HON6 : Hid (On w (y5.setCell ⟨gd, c, none⟩ (.bool true)) b n (due ++ [now + t]) (dn2.set c true) (upT th i (.slice (some ⟨X0, 0, none⟩) 1 1)) (now + k) ((due ++ [now + t]).length : Nat) v' (due ++ [now + t]) (.slice (some ⟨gd, 0, none⟩) (i + 1) cd') (dn2.set c true)) := HOn5.out.mark c HCD.out
                  refine ⟨⟨i + 1, due ++ [now + t], dn2.set c true, upT th i (.slice (some ⟨X0, 0, none⟩) 1 1), now + k, by simp, by simp [HLI.out], by omega, by omega, by omega, by omega, by omega, ?_⟩, ?_⟩
                  · exact HON6.out
                  · simp only [intOf]; omega
              · have q30 : ¬ (i : Int) < (z3.length : Int) := by omega
                go_wp2_with fail
                refine ⟨⟨i + 1, due ++ [now + t], dn2, upT th i (.slice (some ⟨X0, 0, none⟩) 1 1), now + k, by simp, by simp [HLI.out], by omega, by omega, by omega, by omega, by omega, ?_⟩, ?_⟩
                · exact HOn2.out
                · simp only [intOf]; omega
        · have q10 : ¬ (i : Int) < (z2.length : Int) := by omega
          go_wp2_with (first | (at_builtin; refine wpList_append_own_at _ rfl _ _ 45 rfl w.heap.size tI iI _ 1 8 Try.underlying45 hiI hI0 hI1 hI2 rfl (by decide) _ _ _ rfl (HON2.out.rdu.alloc _) ⟨y2.heap.size, 0, none⟩ 1 1 [.int .i64 (now + t)] rfl rfl (cell_one_new _ _ _) (by intro u hu; simp at hu; rw [hu]; rfl) (by have := HDUN.out; unfold maxLen; omega) (by have := HDUN.out; omega) (by have := HON2.out.below.size; simp; omega) ?_; intro v' y3 hown3 hgrow3 hnil3 hloc3; have HON3 : Hid (On w y3 b n (due ++ [now + t]) (dn ++ [false]) (upT th i (.slice (some ⟨X0, 0, none⟩) 1 1)) now ((i : Int) + 1) v' (due ++ [now + t]) u13 dn) := HON2.out.due (below_one _ _) (now + t) hown3 hgrow3 hloc3; clear hown3 hgrow3 hnil3 hloc3) | (at_builtin; refine wpList_append_own_at _ rfl _ _ 60 rfl w.heap.size tB iB _ 1 1 Try.underlying60 hiB hB0 hB1 hB2 rfl (by decide) _ _ _ rfl (HON3.out.rdn.alloc _) ⟨y3.heap.size, 0, none⟩ 1 1 [.bool false] rfl rfl (cell_one_new _ _ _) (by intro u hu; simp at hu; rw [hu]; rfl) (by have := HDNN.out; unfold maxLen; omega) (by have := HDNN.out; omega) (by have := HON3.out.below.size; simp; omega) ?_; intro vd' y4 hown4 hgrow4 hnil4 hloc4; have HON4a : Hid (On w y4 b n (due ++ [now + t]) (dn ++ [false]) (upT th i (.slice (some ⟨X0, 0, none⟩) 1 1)) now ((i : Int) + 1) v' (due ++ [now + t]) vd' (dn ++ [false])) := HON3.out.done (below_one _ _) false hown4 hgrow4; clear hown4 hgrow4 hnil4 hloc4) | fail)
          have HON4 : Hid (On w y4 b n (due ++ [now + t]) (dn ++ [false]) (upT th i (.slice (some ⟨X0, 0, none⟩) 1 1)) now ((due ++ [now + t]).length : Nat) v' (due ++ [now + t]) vd' (dn ++ [false])) := by
            rw [show (((due ++ [now + t]).length : Nat) : Int) = (i : Int) + 1 by simp [HLI.out]]
            exact HON4a.out
          have HL50 : Hid ((due ++ [now + t]).length ≤ 50) := by
            have := HLI.out
            show (due ++ [now + t]).length ≤ 50
            simp
            omega
          have HLI2 : Hid ((due ++ [now + t]).length = i + 1) := by
            show (due ++ [now + t]).length = i + 1
            simp [HLI.out]
          clear HON4a HON3 HON2 HOn
          go_loopw [19, 20] (fun kv _ wr => ∃ (k : Nat) (dn2 : List Bool), kv = .int .i64 (k : Int) ∧ k ≤ 0 ∧ Hid (On w wr b n (due ++ [now + t]) dn2 (upT th i (.slice (some ⟨X0, 0, none⟩) 1 1)) (now + k) ((due ++ [now + t]).length : Nat) v' (due ++ [now + t]) vd' dn2)) (fun kv _ _ => 0 + 1 - (intOf kv).toNat)
          case atStart => exact ⟨0, dn ++ [false], rfl, Nat.zero_le _, by rw [show now + ((0 : Nat) : Int) = now by omega]; exact HON4.out⟩
          case round =>
            obtain ⟨k, dn2, rfl, hk, HOn2⟩ := hrel
            have hPP : k ≤ 29 := by omega
            have q20 : ¬ (k : Int) < 0 := by omega
            clear hk
            by_cases hc3 : i < z3.length
            · have q30 : (i : Int) < (z3.length : Int) := by omega
              obtain ⟨o3', cap3', ho3, _, hat3⟩ := HS3.out
              injection ho3 with ho31 _ ho32
              subst ho31 ho32
              obtain ⟨oa3, rfl, hat3c, hf3⟩ := hat3 i hc3
              have t3 : wr.cell? (oa3.add i) = some (.int .i64 z3[i]) := (HOn2.out.below.cell (World.block_lt_of_cell? w _ hat3c)).trans hat3c
              have bz3 := bnd hf3
              have pc := fun x => Pick.pick_any z3[i] ((i : Int) + 1) x bz3.1 bz3.2 (by omega) (by omega)
              have c0 := Pick.pick_lo z3[i] ((i : Int) + 1) (by omega)
              have c1 := Pick.pick_hi z3[i] ((i : Int) + 1) (by omega)
              generalize Pick.pickOf z3[i] ((i : Int) + 1) = cz at *
              generalize z3[i] = zi3 at *
              obtain ⟨c, rfl⟩ := Int.eq_ofNat_of_zero_le c0
              have HCI : Hid (c < i + 1) := by show c < i + 1; omega
              have q31 : (c : Int) + 1 ≤ 9223372036854775807 := by omega
              have q32 : (c : Int) < (i : Int) + 1 := by omega
              clear hat3 hat3c hf3 bz3 c0 c1
              go_wp2_with fail
              refine (pc _).mono ?_
              rintro e x0 ⟨rfl, hx0⟩
              rw [hx0]
              clear hx0 x0 pc t3
              go_wp2_with fail
              refine (cancel_on w _ b n _ dn2 _ _ _ _ c HOn2.out HL50.out (by rw [HLI2.out]; exact HCI.out)).mono ?_
              rintro e y5 ⟨cv, cg, rfl, hon5, hcs⟩
              have HOn5 : Hid (On w y5 b n (due ++ [now + t]) (dn2.set c true) (upT th i (.slice (some ⟨X0, 0, none⟩) 1 1)) (now + k) ((due ++ [now + t]).length : Nat) v' (due ++ [now + t]) vd' dn2) := hon5
              clear hon5
              have hdl : dn2.length = i + 1 := by rw [HOn2.out.len, HLI2.out]
              obtain ⟨gd, cd', ud, ed, xd, c1, f1⟩ := row_at HOn5.out.rdn c (by rw [hdl]; exact HCI.out)
              rw [hdl] at ed
              have hid : c < dn2.length := by rw [hdl]; exact HCI.out
              have e2 : ud = .bool (dn2.getD c true) := by
                rw [List.getElem?_map, List.getElem?_eq_getElem hid] at xd
                rw [getD_at hid]; simpa using xd.symm
              rw [e2] at c1
              subst ed
              have HCD : Hid (c < dn2.length) := hid
              rcases hcs with ⟨hcs1, rfl, rfl⟩ | ⟨hcs1, rfl, rfl⟩
              · rw [hcs1] at c1
                clear hcs1 e2 xd hid hdl
                go_wp2_with fail
                have HON6 : Hid (On w (y5.setCell ⟨gd, c, none⟩ (.bool true)) b n (due ++ [now + t]) (dn2.set c true) (upT th i (.slice (some ⟨X0, 0, none⟩) 1 1)) (now + k) ((due ++ [now + t]).length : Nat) v' (due ++ [now + t]) (.slice (some ⟨gd, 0, none⟩) (i + 1) cd') (dn2.set c true)) := HOn5.out.mark c HCD.out
                refine ⟨⟨i + 1, due ++ [now + t], dn2.set c true, upT th i (.slice (some ⟨X0, 0, none⟩) 1 1), now + k, by simp, by simp [HLI.out], by omega, by omega, by omega, by omega, by omega, ?_⟩, ?_⟩
                · exact HON6.out
                · simp only [intOf]; omega
              · rw [hcs1] at c1
                obtain ⟨bk, cp, tb, hbk⟩ := HOn5.out.rth c (by rw [HLI2.out]; exact HCI.out)
                rw [tb]
                have t0 : y5.cell? ⟨bk, 0, none⟩ = some (.int .i64 (c : Int)) := by simp [World.cell?, hbk]
                clear hcs1 e2 xd hid hdl tb hbk
                go_wp2_with fail
                have HON6 : Hid (On w (y5.setCell ⟨gd, c, none⟩ (.bool true)) b n (due ++ [now + t]) (dn2.set c true) (upT th i (.slice (some ⟨X0, 0, none⟩) 1 1)) (now + k) ((due ++ [now + t]).length : Nat) v' (due ++ [now + t]) (.slice (some ⟨gd, 0, none⟩) (i + 1) cd') (dn2.set c true)) := HOn5.out.mark c HCD.out
                refine ⟨⟨i + 1, due ++ [now + t], dn2.set c true, upT th i (.slice (some ⟨X0, 0, none⟩) 1 1), now + k, by simp, by simp [HLI.out], by omega, by omega, by omega, by omega, by omega, ?_⟩, ?_⟩
                · exact HON6.out
                · simp only [intOf]; omega
            · have q30 : ¬ (i : Int) < (z3.length : Int) := by omega
              go_wp2_with fail
              refine ⟨⟨i + 1, due ++ [now + t], dn2, upT th i (.slice (some ⟨X0, 0, none⟩) 1 1), now + k, by simp, by simp [HLI.out], by omega, by omega, by omega, by omega, by omega, ?_⟩, ?_⟩
              · exact HOn2.out
              · simp only [intOf]; omega
      · have q2 : ¬ (i : Int) < 50 := by omega
        have q0 : (i : Int) < (z1.length : Int) := by omega
        have hi5 : i ≤ 50 := hi50
        clear hc hc2 hiz hi50
        have HL50 : Hid (due.length ≤ 50) := by have := HLI.out; show due.length ≤ 50; omega
        obtain ⟨T, hT⟩ : ∃ T, T = now := ⟨_, rfl⟩
        have HTD : Hid (∀ k, k < due.length → due.getD k 0 ≤ T + 200) := fun k hk => by have := (HOn.out.db k hk).2; omega
        go_wp2_with fail
        go_loopw [24, 25] (fun kv _ wr => ∃ (k : Nat) (dn2 : List Bool), kv = .int .i64 (k : Int) ∧ k ≤ 201 ∧ Hid (On w wr b n due dn2 th (now + k) (due.length : Nat) u12 due u13 dn2)) (fun kv _ _ => 202 - (intOf kv).toNat)
        case atStart => exact ⟨0, dn, rfl, Nat.zero_le _, by rw [show now + ((0 : Nat) : Int) = now by omega]; exact HOn.out⟩
        case round =>
          obtain ⟨k, dn2, rfl, hk, HOn2⟩ := hrel
          by_cases hkP : k < 201
          · have q20 : (k : Int) < 201 := by omega
            have q21 : (k : Int) + 1 ≤ 9223372036854775807 := by omega
            go_wp2_with fail
            refine (comes_on w _ b n _ dn2 _ _ _ _ HOn2.out HL50.out (by omega)).mono ?_
            rintro e y3 ⟨rfl, dn3, hon3, -⟩
            have HOn3 : Hid (On w y3 b n due dn3 th (now + k + 1) (due.length : Nat) u12 due u13 dn3) := hon3
            clear hon3
            go_wp2_with fail
            refine ⟨⟨k + 1, dn3, by simp, by omega, by rw [show now + ((k + 1 : Nat) : Int) = now + k + 1 by omega]; exact HOn3.out⟩, ?_⟩
            simp only [intOf]; omega
          · have q20 : ¬ (k : Int) < 201 := by omega
            have HALL : Hid (∀ j, j < due.length → dn2.getD j true = true) := fun j hj => by
              cases e : dn2.getD j true with
              | true => rfl
              | false =>
                have h1 := HOn2.out.ok.tik _ (lof_mem.2 ⟨j, hj, e, rfl⟩)
                have h2 : now + (k : Int) < due.getD j 0 := h1.1
                have h3 := HTD.out j hj
                omega
            have HL0 : Hid ((Lof due dn2 th).length = 0) := by
              show (Lof due dn2 th).length = 0
              rw [List.length_eq_zero_iff, List.eq_nil_iff_forall_not_mem]
              intro x hx
              obtain ⟨j, hj, e, -⟩ := lof_mem.1 hx
              rw [HALL.out j hj] at e
              cases e
            have hdl : dn2.length = i := by rw [HOn2.out.len, HLI.out]
            have HDL : Hid (dn2.length = i) := hdl
            obtain ⟨od, cd, hv, -, -, -⟩ := own_form HOn2.out.rdn
            rw [hdl] at hv
            obtain ⟨w9, hw9⟩ : ∃ w9, w9 = wr := ⟨_, rfl⟩
            subst hw9
            subst hv
            clear hk hkP hdl
            go_wp2_with fail
            go_loopw [26] (fun jv wr => ∃ j : Nat, jv = .int .i64 (j : Int) ∧ j ≤ i ∧ wr = w9) (fun jv _ => i + 1 - (intOf jv).toNat)
            case atStart => exact ⟨0, rfl, Nat.zero_le _, rfl⟩
            case round =>
              obtain ⟨j, rfl, hj, rfl⟩ := hrel
              by_cases hji : j < i
              · obtain ⟨gd, cd', ud, ed, xd, c1, f1⟩ := row_at HOn2.out.rdn j (by rw [HDL.out]; exact hji)
                injection ed with ed1 ed2 ed3
                subst ed1
                have hid : j < dn2.length := by rw [HDL.out]; exact hji
                have e2 : ud = .bool true := by
                  rw [List.getElem?_map, List.getElem?_eq_getElem hid] at xd
                  have := HALL.out j (by rw [HLI.out]; exact hji)
                  rw [getD_at hid] at this
                  rw [← this]; simpa using xd.symm
                rw [e2] at c1
                have q30 : (j : Int) < (i : Int) := by omega
                have q31 : (0 : Int) ≤ (j : Int) := by omega
                have q32 : (j : Int) + 1 ≤ 9223372036854775807 := by omega
                clear xd e2 f1 ed2 ed3 hid
                go_wp2_with fail
                refine ⟨⟨j + 1, by simp, by omega, trivial⟩, ?_⟩
                simp only [intOf]; omega
              · have q30 : ¬ (j : Int) < (i : Int) := by omega
                obtain ⟨B, hw, hB⟩ := HOn2.out.wl
                have hln := len_any wr b B n _ _ _ hw
                rw [HL0.out] at hln
                have HBE : Hid (Below w.heap.size w wr) := HOn2.out.below
                clear hw hB hj
                go_wp2_with fail
                refine hln.mono ?_
                rintro e x0 ⟨rfl, hx0⟩
                rw [hx0]
                clear hx0 x0 hln
                go_wp2_with fail
                go_ret
                exact ⟨rfl, HBE.out⟩
    · have q0 : ¬ (i : Int) < (z1.length : Int) := by omega
      have hi5 : i ≤ 50 := hi50
      clear hc hiz hi50
      have HL50 : Hid (due.length ≤ 50) := by have := HLI.out; show due.length ≤ 50; omega
      obtain ⟨T, hT⟩ : ∃ T, T = now := ⟨_, rfl⟩
      have HTD : Hid (∀ k, k < due.length → due.getD k 0 ≤ T + 200) := fun k hk => by have := (HOn.out.db k hk).2; omega
      go_wp2_with fail
      go_loopw [24, 25] (fun kv _ wr => ∃ (k : Nat) (dn2 : List Bool), kv = .int .i64 (k : Int) ∧ k ≤ 201 ∧ Hid (On w wr b n due dn2 th (now + k) (due.length : Nat) u12 due u13 dn2)) (fun kv _ _ => 202 - (intOf kv).toNat)
      case atStart => exact ⟨0, dn, rfl, Nat.zero_le _, by rw [show now + ((0 : Nat) : Int) = now by omega]; exact HOn.out⟩
      case round =>
        obtain ⟨k, dn2, rfl, hk, HOn2⟩ := hrel
        by_cases hkP : k < 201
        · have q20 : (k : Int) < 201 := by omega
          have q21 : (k : Int) + 1 ≤ 9223372036854775807 := by omega
          go_wp2_with fail
          refine (comes_on w _ b n _ dn2 _ _ _ _ HOn2.out HL50.out (by omega)).mono ?_
          rintro e y3 ⟨rfl, dn3, hon3, -⟩
          have HOn3 : Hid (On w y3 b n due dn3 th (now + k + 1) (due.length : Nat) u12 due u13 dn3) := hon3
          clear hon3
          go_wp2_with fail
          refine ⟨⟨k + 1, dn3, by simp, by omega, by rw [show now + ((k + 1 : Nat) : Int) = now + k + 1 by omega]; exact HOn3.out⟩, ?_⟩
          simp only [intOf]; omega
        · have q20 : ¬ (k : Int) < 201 := by omega
          have HALL : Hid (∀ j, j < due.length → dn2.getD j true = true) := fun j hj => by
            cases e : dn2.getD j true with
            | true => rfl
            | false =>
              have h1 := HOn2.out.ok.tik _ (lof_mem.2 ⟨j, hj, e, rfl⟩)
              have h2 : now + (k : Int) < due.getD j 0 := h1.1
              have h3 := HTD.out j hj
              omega
          have HL0 : Hid ((Lof due dn2 th).length = 0) := by
            show (Lof due dn2 th).length = 0
            rw [List.length_eq_zero_iff, List.eq_nil_iff_forall_not_mem]
            intro x hx
            obtain ⟨j, hj, e, -⟩ := lof_mem.1 hx
            rw [HALL.out j hj] at e
            cases e
          have hdl : dn2.length = i := by rw [HOn2.out.len, HLI.out]
          have HDL : Hid (dn2.length = i) := hdl
          obtain ⟨od, cd, hv, -, -, -⟩ := own_form HOn2.out.rdn
          rw [hdl] at hv
          obtain ⟨w9, hw9⟩ : ∃ w9, w9 = wr := ⟨_, rfl⟩
          subst hw9
          subst hv
          clear hk hkP hdl
          go_wp2_with fail
          go_loopw [26] (fun jv wr => ∃ j : Nat, jv = .int .i64 (j : Int) ∧ j ≤ i ∧ wr = w9) (fun jv _ => i + 1 - (intOf jv).toNat)
          case atStart => exact ⟨0, rfl, Nat.zero_le _, rfl⟩
          case round =>
            obtain ⟨j, rfl, hj, rfl⟩ := hrel
            by_cases hji : j < i
            · obtain ⟨gd, cd', ud, ed, xd, c1, f1⟩ := row_at HOn2.out.rdn j (by rw [HDL.out]; exact hji)
              injection ed with ed1 ed2 ed3
              subst ed1
              have hid : j < dn2.length := by rw [HDL.out]; exact hji
              have e2 : ud = .bool true := by
                rw [List.getElem?_map, List.getElem?_eq_getElem hid] at xd
                have := HALL.out j (by rw [HLI.out]; exact hji)
                rw [getD_at hid] at this
                rw [← this]; simpa using xd.symm
              rw [e2] at c1
              have q30 : (j : Int) < (i : Int) := by omega
              have q31 : (0 : Int) ≤ (j : Int) := by omega
              have q32 : (j : Int) + 1 ≤ 9223372036854775807 := by omega
              clear xd e2 f1 ed2 ed3 hid
              go_wp2_with fail
              refine ⟨⟨j + 1, by simp, by omega, trivial⟩, ?_⟩
              simp only [intOf]; omega
            · have q30 : ¬ (j : Int) < (i : Int) := by omega
              obtain ⟨B, hw, hB⟩ := HOn2.out.wl
              have hln := len_any wr b B n _ _ _ hw
              rw [HL0.out] at hln
              have HBE : Hid (Below w.heap.size w wr) := HOn2.out.below
              clear hw hB hj
              go_wp2_with fail
              refine hln.mono ?_
              rintro e x0 ⟨rfl, hx0⟩
              rw [hx0]
              clear hx0 x0 hln
              go_wp2_with fail
              go_ret
              exact ⟨rfl, HBE.out⟩
end Go.Proofs.Ytdhljogcoooomaa.Ow
