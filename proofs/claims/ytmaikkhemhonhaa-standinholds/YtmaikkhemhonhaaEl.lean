/- StandinHolds: the walk. -/
import Derived.Test.YtmaikkhemhonhaaEk
import Derived.BigQuiet
namespace Go.Proofs.Ytmaikkhemhonhaa.El
set_option linter.unusedVariables false
set_option linter.unusedSimpArgs false
open Go.RowKit Go.Maps Lib0 Kb Xp Da Db Dc Dd De Df Dh Di Dj Dk Dl Dm Dn Dp Dq Dr Ds Dt Du Dv Dw Dy Dz Ea Eb Ec Ed Ee Ef Eg Eh Ei Ej Ek
attribute [local go_sem] Oper.semAt_some
theorem lmO_right (l : Lm) : isR (lmO l) = true := by
  have a1 := Pick.pick_lo l.single 300 (by omega)
  have a2 := Pick.pick_hi l.single 300 (by omega)
  have b1 := Pick.pick_lo l.count 8 (by omega)
  have b2 := Pick.pick_hi l.count 8 (by omega)
  have c1 := Pick.pick_lo l.sum 900 (by omega)
  have c2 := Pick.pick_hi l.sum 900 (by omega)
  have d1 := Pick.pick_lo l.window 40 (by omega)
  have d2 := Pick.pick_hi l.window 40 (by omega)
  unfold isR isA lmO
  simp only [Bool.and_eq_true, decide_eq_true_eq]
  exact ⟨⟨⟨⟨a1, by omega⟩, ⟨b1, by omega⟩⟩, ⟨c1, by omega⟩⟩, ⟨by omega, by omega⟩⟩
theorem tl_ne {s c : ByteArray} (hs : s ≠ c) : (s.toList == c.toList) = false := by
  rw [beq_eq_false_iff_ne]
  intro e
  rw [ByteArray.toList_eq, ByteArray.toList_eq] at e
  apply hs
  have : s.data = c.data := Array.ext' e
  cases s; cases c; simp_all
set_option maxRecDepth 100000 in
set_option maxHeartbeats 12800000 in
theorem walk (a0 b0 c0 d0 : Int) (v1 : Value) (z1 : List So.Opv) (w : World) (w0 : Ol.LimOk a0 b0 c0 d0) (wz : So.Lies w v1 z1 140737488351232) :
    Calls Try.prog 4 #[.agg #[.int .i64 a0, .int .i64 b0, .int .i64 c0, .int .i64 d0], v1] w fun e w' => e = .returned (.bool true) ∧ Below w.heap.size w w' := by
  obtain ⟨⟨oz, cz, rfl, hz⟩, hzl⟩ := wz
  have HZ : Hid (∀ i (h : i < z1.length), ∃ a : Addr, oz = some a ∧ So.At w a i z1[i] ∧ z1[i].Fine 140737488351232) := hz
  obtain ⟨N, HN0⟩ : ∃ N, Hid (z1.length = N) := ⟨_, rfl⟩
  rw [HN0.out] at hzl
  rw [HN0.out]
  have hlo : LmOk ⟨a0, b0, c0, d0⟩ := ⟨Ol.wf_i64 w0.1, Ol.wf_i64 w0.2.1, Ol.wf_i64 w0.2.2.1, Ol.wf_i64 w0.2.2.2⟩
  have HLI : Hid (∀ y, Calls Try.prog 12 #[.agg #[.int .i64 a0, .int .i64 b0, .int .i64 c0, .int .i64 d0]] y fun e w' => e = .returned (lmv (lmO ⟨a0, b0, c0, d0⟩)) ∧ Below y.heap.size y w') := fun y => limits_any ⟨a0, b0, c0, d0⟩ hlo y
  have HLR := lmO_right ⟨a0, b0, c0, d0⟩
  obtain ⟨l, hl⟩ : ∃ l, lmO ⟨a0, b0, c0, d0⟩ = l := ⟨_, rfl⟩
  have hls : 0 ≤ l.count ∧ 0 ≤ l.sum ∧ l.sum ≤ 900 ∧ 1 ≤ l.window ∧ l.window ≤ 40 := by
    rw [← hl]
    have b1 := Pick.pick_lo b0 8 (by omega)
    have c1 := Pick.pick_lo c0 900 (by omega)
    have c2 := Pick.pick_hi c0 900 (by omega)
    have d1 := Pick.pick_lo d0 40 (by omega)
    have d2 := Pick.pick_hi d0 40 (by omega)
    simp only [lmO]
    omega
  have HLS : Hid (0 ≤ l.count ∧ 0 ≤ l.sum ∧ l.sum ≤ 900 ∧ 1 ≤ l.window ∧ l.window ≤ 40) := hls
  rw [hl] at HLI HLR
  have HLRR : Hid (isR l = true) := HLR
  have HKN : Hid (∀ y, Calls Try.prog 7 #[] y fun e w' => e = .returned (.bool true) ∧ Below y.heap.size y w') := fun y => known_any y
  have HNW : Hid (∀ y, Calls Try.prog 8 #[.int .i64 10] y fun e w' => ∃ b, e = .returned (.tuple #[.pointer (some ⟨b, 0, none⟩), .int .i64 0]) ∧ Bk w' y.heap.size b ⟨10, 0, 0, []⟩ 0 ∧ Below y.heap.size y w') := fun y => new_any 10 (by omega) y
  have HB0 : Hid (Below w.heap.size w (w.alloc (.cells #[.int .i64 a0, .int .i64 b0, .int .i64 c0, .int .i64 d0] tLi))) := below_one _ _
  have HX0 : Hid ((w.alloc (.cells #[.int .i64 a0, .int .i64 b0, .int .i64 c0, .int .i64 d0] tLi)).heap[w.heap.size]? = some (.cells #[.int .i64 a0, .int .i64 b0, .int .i64 c0, .int .i64 d0] tLi)) := h1_0 _ _
  clear hz hlo hl hls HLR w0 hzl
  go_enter Try.func4, Try.ntmps4
  go_wp2_with fail
  refine (HKN.out _).mono ?_
  rintro e w1 ⟨rfl, hw1⟩
  have HW1 : Hid (Below w.heap.size w w1) := keepB HB0.out hw1
  have HX1 : Hid (w1.heap[w.heap.size]? = some (.cells #[.int .i64 a0, .int .i64 b0, .int .i64 c0, .int .i64 d0] tLi)) := kept hw1 HX0.out
  clear hw1
  go_wp2_with fail
  refine (HNW.out _).mono ?_
  rintro e w2 ⟨b, rfl, hbk, hw2⟩
  have HBK : Hid (Bk w2 w1.heap.size b ⟨10, 0, 0, []⟩ 0 ∧ Below w1.heap.size w1 w2) := ⟨hbk, hw2⟩
  obtain ⟨r0, r1, r2, r3⟩ := lim_cells (w := w) (kept hw2 HX1.out)
  clear hbk hw2
  go_wp2_with fail
  refine (HLI.out _).mono ?_
  rintro e w3 ⟨rfl, hw3⟩
  have HS0 : Hid (HS w w1 b w3.heap.size l ⟨10, 0, 0, []⟩ 0 (.slice none 0 0) (w3.alloc (.cells #[.int .i64 l.single, .int .i64 l.count, .int .i64 l.sum, .int .i64 l.window] tLi))) :=
    ⟨⟨(HBK.out.1.below hw3).below (below_one _ _), h1_0 _ _, keepB (keepB HBK.out.2 hw3) (below_one _ _)⟩, World.ownsRow_nil _ _ _ _, fun c t _ => ⟨HLS.out.1, HLS.out.2.1⟩, fun g hg => (by cases hg), rfl, rfl, keepB (keepB (keepB HW1.out HBK.out.2) hw3) (below_one _ _)⟩
  unfold lmv
  clear hw3 r0 r1 r2 r3
  go_wp2_with fail
  obtain ⟨lb, hlb⟩ : ∃ lb, w3.heap.size = lb := ⟨_, rfl⟩
  rw [hlb] at HS0
  rw [hlb]
  clear hlb
  have HWW : Hid (w.heap.size ≤ w1.heap.size) := HW1.out.size
  go_loopw [9, 10, 11, 12, 13, 14, 15, 16, 17, 18, 19, 20, 21, 22] (fun nv av iv _ _ _ _ _ _ _ _ _ _ _ wr => ∃ (i : Nat) (now : Int) (S : St) (m : Nat) (ol : Option Addr) (cl : Nat), iv = .int .i64 (i : Int) ∧ nv = .int .i64 now ∧ av = .slice ol S.G.length cl ∧ Hid (i ≤ 200 ∧ i ≤ N ∧ S.G.length ≤ i ∧ S.now ≤ now ∧ 0 ≤ now ∧ now ≤ 8 * (i : Int)) ∧ Hid (HS w w1 b lb l S m (.slice ol S.G.length cl) wr)) (fun _ _ iv _ _ _ _ _ _ _ _ _ _ _ _ => 201 - (intOf iv).toNat)
  case atStart => exact ⟨0, 0, ⟨10, 0, 0, []⟩, 0, none, 0, rfl, rfl, rfl, ⟨by omega, by omega, by simp, Int.le_refl _, Int.le_refl _, by omega⟩, HS0.out⟩
  case round =>
    obtain ⟨i, now, S, m, ol, cl, rfl, rfl, rfl, HI, HST⟩ := hrel
    by_cases hlt : i < N ∧ i < 200
    · have hiz : i < z1.length := by rw [HN0.out]; exact hlt.1
      obtain ⟨ad, rfl, hat, hfine⟩ := HZ.out i hiz
      obtain ⟨t0, t1, t2⟩ := So.at_below hat rfl HST.out.bel
      have hc1 := Ol.wf_i64 hfine.1
      have hc2 := Ol.wf_i64 hfine.2.1
      have hc3 := Ol.wf_i64 hfine.2.2
      obtain ⟨x, hx⟩ : ∃ x, z1[i] = x := ⟨_, rfl⟩
      rw [hx] at t0 t1 t2 hc1 hc2 hc3
      obtain ⟨xc, xu, xl⟩ := x
      dsimp only at t0 t1 t2 hc1 hc2 hc3
      rw [So.add_field _ _ _ (by decide)] at t1 t2
      have HCARD : Hid (∀ y, Calls Try.prog 13 #[.int .i64 xc, .int .i64 7] y fun e w' => e = .returned (.string (crd (Pick.pickOf xc 7))) ∧ Below y.heap.size y w') := fun y => card_any xc hc1 7 (by omega) (by omega) y
      have HPU : Hid (∀ y, Calls Try.prog 10 #[.int .i64 xu, .int .i64 320] y fun e w' => e = .returned (.int .i64 (Pick.pickOf xu 320)) ∧ w' = y) := fun y => Pick.pick_any _ _ y hc2.1 hc2.2 (by omega) (by omega)
      have HPL : Hid (∀ y, Calls Try.prog 10 #[.int .i64 xl, .int .i64 9] y fun e w' => e = .returned (.int .i64 (Pick.pickOf xl 9)) ∧ w' = y) := fun y => Pick.pick_any _ _ y hc3.1 hc3.2 (by omega) (by omega)
      have u0 := Pick.pick_lo xu 320 (by omega)
      have u1 := Pick.pick_hi xu 320 (by omega)
      have l0 := Pick.pick_lo xl 9 (by omega)
      have l1 := Pick.pick_hi xl 9 (by omega)
      have k0 := Pick.pick_lo xc 7 (by omega)
      have k1 := Pick.pick_hi xc 7 (by omega)
      have HCC : Hid (∃ k, k < 7 ∧ crd (Pick.pickOf xc 7) = crd ((k : Nat) : Int)) := ⟨(Pick.pickOf xc 7).toNat, by omega, by rw [Int.toNat_of_nonneg k0]⟩
      have HCS : Hid ((crd (Pick.pickOf xc 7)).size ≤ 1000000 ∧ (crd (Pick.pickOf xc 7)).toList.isEmpty = false) := ⟨by rw [crd_size]; omega, crd_ne _⟩
      generalize crd (Pick.pickOf xc 7) = c at *
      generalize Pick.pickOf xu 320 = u at *
      generalize Pick.pickOf xl 9 = d at *
      have q0 : (i : Int) < (N : Int) := by omega
      have q1 : (i : Int) < 200 := by omega
      have q2 : (0 : Int) ≤ (i : Int) := by omega
      have hnb := HI.out.2.2.2.2
      have q3 : now + d ≤ 9223372036854775807 := by omega
      have q4 : -9223372036854775808 ≤ now + d := by omega
      have q5 : (i : Int) + 1 ≤ 9223372036854775807 := by omega
      have HUB : Hid (0 ≤ u ∧ u < 320 ∧ 0 ≤ d ∧ d < 9 ∧ i < N ∧ i < 200) := ⟨u0, u1, l0, l1, hlt.1, hlt.2⟩
      clear hat hfine hx hc1 hc2 hc3 hlt hiz k0 k1 u0 u1 l0 l1 hnb
      go_wp2_with fail
      refine (HCARD.out _).mono ?_
      rintro e y1 ⟨rfl, hy1⟩
      have HS1 : Hid (HS w w1 b lb l S m (.slice ol S.G.length cl) y1) := HST.out.below hy1
      have kk : ∀ q v, wr.cell? q = some v → y1.cell? q = some v := fun q v hq => (hy1.cell (World.block_lt_of_cell? wr _ hq)).trans hq
      replace t1 := kk _ _ t1
      replace t2 := kk _ _ t2
      clear hy1 kk t0
      go_wp2_with fail
      refine (HPU.out _).mono ?_
      rintro e y2 ⟨rfl, rfl⟩
      go_wp2_with fail
      refine (HPL.out _).mono ?_
      rintro e y2 ⟨rfl, rfl⟩
      obtain ⟨nw, hnw⟩ : ∃ nw, now + d = nw := ⟨_, rfl⟩
      have HNW2 : Hid (now + d = nw) := hnw
      go_wp2_with fail
      clear hnw HST t1 t2 HPL HPU HCARD
      clear wr
      obtain ⟨LEN, HLEN⟩ : ∃ LEN, Hid (S.G.length = LEN) := ⟨_, rfl⟩
      rw [HLEN.out] at HS1
      rw [HLEN.out]
      have HNB : Hid (S.now ≤ nw ∧ 0 ≤ nw ∧ nw ≤ 8 * ((i : Int) + 1) ∧ LEN ≤ i ∧ i ≤ 200 ∧ i < N) := by
        have h1 := HI.out
        have h2 := HNW2.out
        have h3 := HUB.out
        rw [HLEN.out] at h1
        exact ⟨by omega, by omega, by omega, h1.2.2.1, h1.1, h3.2.2.2.2.1⟩
      obtain ⟨T, HT⟩ : ∃ T, Hid (nw - l.window + 1 = T) := ⟨_, rfl⟩
      go_loopw [14, 15, 16] (fun mv sv kv wr => ∃ (k : Nat) (mm ss : Int), mv = .int .i64 mm ∧ sv = .int .i64 ss ∧ kv = .int .i64 (k : Int) ∧ Hid (k ≤ LEN ∧ mm = cnt (S.G.take k) c T ∧ ss = smm (S.G.take k) c T) ∧ Hid (Below y2.heap.size y2 wr)) (fun _ _ kv _ => LEN + 1 - (intOf kv).toNat)
      case atStart => exact ⟨0, 0, 0, rfl, rfl, rfl, ⟨Nat.zero_le _, rfl, rfl⟩, Below.refl _ _⟩
      case round =>
        obtain ⟨k, mm, ss, rfl, rfl, rfl, HK, HBW⟩ := hrel
        by_cases hkl : k < LEN
        · have hkg : k < S.G.length := by rw [HLEN.out]; exact hkl
          have hst := HS1.out.below HBW.out
          rw [← HLEN.out] at hst
          obtain ⟨gr, cap, eav, d0, d1, d2⟩ := hst.cells k hkg
          injection eav with eo el ec
          subst eo
          obtain ⟨-, -, -, l3⟩ := lim_cells (w := w) hst.kn.li
          have hiv := hst.kn.bk.iv
          have htk := hiv.tk _ (List.getElem_mem hkg)
          have ham := hiv.am _ (List.getElem_mem hkg)
          have hc1 := cnt_le (S.G.take (k + 1)) c T
          have hc2 := smm_le (S.G.take (k + 1)) c T 999999999999 (by omega) (fun g hg => hiv.am g (List.mem_of_mem_take hg))
          have hlen1 : (S.G.take (k + 1)).length ≤ LEN := by rw [List.length_take, HLEN.out]; omega
          have ht1 : S.G.take (k + 1) = S.G.take k ++ [S.G[k]] := List.take_succ_eq_append_getElem hkg
          have e1 : cnt (S.G.take (k + 1)) c T = mm + (if one1 S.G[k] c T then 1 else 0) := by rw [ht1, cnt_snoc, HK.out.2.1]
          have e2 : smm (S.G.take (k + 1)) c T = ss + (if one1 S.G[k] c T then S.G[k].2.2.1 else 0) := by rw [ht1, smm_snoc, HK.out.2.2]
          have ho : one1 S.G[k] c T = (decide (S.G[k].1 = c) && decide (T ≤ S.G[k].2.2.2)) := rfl
          rw [e1] at hc1
          rw [e2] at hc2
          have hnb := HNB.out
          obtain ⟨g, hg⟩ : ∃ g, S.G[k] = g := ⟨_, rfl⟩
          rw [hg] at d0 d1 d2 htk ham e1 e2 ho hc1 hc2
          obtain ⟨s, num, gu, gt⟩ := g
          dsimp only at d0 d1 d2 htk ham e1 e2 ho hc1 hc2
          have q0 : (k : Int) < (LEN : Int) := by omega
          have q1 : (0 : Int) ≤ (k : Int) := by omega
          have q2 : (k : Int) + 1 ≤ 9223372036854775807 := by omega
          have hwr : IntKind.i64.wrap (nw - gt) = nw - gt := wrap_64 _ (by omega) (by omega)
          have HE : Hid (cnt (S.G.take (k + 1)) c T = mm + (if one1 (s, num, gu, gt) c T then 1 else 0) ∧ smm (S.G.take (k + 1)) c T = ss + (if one1 (s, num, gu, gt) c T then gu else 0)) := ⟨e1, e2⟩
          have HTT := HT.out
          have HKL : Hid (k < LEN) := hkl
          by_cases hs : s = c
          · subst hs
            by_cases hw : nw - gt < l.window
            · have ho1 : one1 (s, num, gu, gt) s T = true := by rw [ho]; simp; omega
              have HO : Hid (one1 (s, num, gu, gt) s T = true) := ho1
              rw [ho1] at hc1 hc2
              simp only [if_true] at hc1 hc2
              have q3 : mm + 1 ≤ 9223372036854775807 := by omega
              have q4 : -9223372036854775808 ≤ mm + 1 := by omega
              have q5 : ss + gu ≤ 9223372036854775807 := by omega
              have q6 : -9223372036854775808 ≤ ss + gu := by omega
              clear hst hiv htk ham hc1 hc2 hlen1 ht1 e1 e2 ho ho1 hnb hg HTT hkl hkg el ec
              go_wp2_with fail
              go_quiet (fail)
              have g1 : (wr.drewN nq).cell? ⟨gr, k * 3 + 1, none⟩ = some (.int .i64 gu) := ((below_drewN (Below.refl wr.heap.size wr) nq).cell (World.block_lt_of_cell? wr _ d1)).trans d1
              have HBN : Hid (Below y2.heap.size y2 (wr.drewN nq)) := below_drewN HBW.out nq
              go_wp2_with fail
              refine ⟨⟨k + 1, mm + 1, ss + gu, by first | rfl | simp, by first | rfl | simp, by simp, ⟨by have := HKL.out; omega, by rw [HE.out.1, HO.out]; simp, by rw [HE.out.2, HO.out]; simp⟩, HBN⟩, ?_⟩
              have := HKL.out
              simp only [intOf]; omega
            · have HO : Hid (one1 (s, num, gu, gt) s T = false) := by show one1 (s, num, gu, gt) s T = false; rw [ho]; simp; omega
              have hw2 : decide (nw - gt < l.window) = false := decide_eq_false hw
              clear hst hiv htk ham hc1 hc2 hlen1 ht1 e1 e2 ho hnb hg HTT hkl hkg el ec hw
              go_wp2_with fail
              go_quiet (fail)
              have HBN : Hid (Below y2.heap.size y2 (wr.drewN nq)) := below_drewN HBW.out nq
              go_wp2_with fail
              refine ⟨⟨k + 1, mm, ss, rfl, rfl, by simp, ⟨by have := HKL.out; omega, by rw [HE.out.1, HO.out]; simp, by rw [HE.out.2, HO.out]; simp⟩, HBN⟩, ?_⟩
              have := HKL.out
              simp only [intOf]; omega
          · have HO : Hid (one1 (s, num, gu, gt) c T = false) := by show one1 (s, num, gu, gt) c T = false; rw [ho]; simp [hs]
            have hs3 : (s.toList == c.toList) = false := tl_ne hs
            clear hs
            clear hst hiv htk ham hc1 hc2 hlen1 ht1 e1 e2 ho hnb hg HTT hkl hkg el ec
            go_wp2_with fail
            go_quiet (fail)
            have HBN : Hid (Below y2.heap.size y2 (wr.drewN nq)) := below_drewN HBW.out nq
            go_wp2_with fail
            refine ⟨⟨k + 1, mm, ss, rfl, rfl, by simp, ⟨by have := HKL.out; omega, by rw [HE.out.1, HO.out]; simp, by rw [HE.out.2, HO.out]; simp⟩, HBN⟩, ?_⟩
            have := HKL.out
            simp only [intOf]; omega
        · obtain rfl : k = LEN := by have := HK.out.1; omega
          have HMM : Hid (cnt S.G c T = mm ∧ smm S.G c T = ss) := by
            have h1 := HK.out
            rw [List.take_of_length_le (by rw [HLEN.out]; exact Nat.le_refl _)] at h1
            exact ⟨h1.2.1.symm, h1.2.2.symm⟩
          have HS2 : Hid (HS w w1 b lb l S m (.slice ol k cl) wr) := HS1.out.below HBW.out
          obtain ⟨l0, l1, l2, l3⟩ := lim_cells (w := w) HS2.out.kn.li
          have hcl := cnt_le S.G c T
          have hsl := smm_le S.G c T 999999999999 (by omega) (fun g hg => HS2.out.kn.bk.iv.am g hg)
          rw [HMM.out.1] at hcl
          rw [HMM.out.2] at hsl
          rw [HLEN.out] at hcl hsl
          have hnb := HNB.out
          have hub := HUB.out
          have HLIM : Hid (mm ≤ l.count ∧ ss ≤ l.sum) := by
            have := HS2.out.lim c T (by have := HT.out; omega)
            rw [HMM.out.1, HMM.out.2] at this
            exact this
          have HMB : Hid (0 ≤ mm ∧ mm ≤ 200 ∧ 0 ≤ ss ∧ ss ≤ 900) := ⟨hcl.1, by omega, hsl.1, by have := HLIM.out; have := HLS.out; omega⟩
          have q0 : ss + u ≤ 9223372036854775807 := by have := HMB.out; omega
          have q1 : -9223372036854775808 ≤ ss + u := by have := HMB.out; omega
          have q2 : mm + 1 ≤ 9223372036854775807 := by have := HMB.out; omega
          have q3 : -9223372036854775808 ≤ mm + 1 := by have := HMB.out; omega
          have HN1 : Hid (0 ≤ nw ∧ nw ≤ 9223372036854775807) := ⟨by omega, by omega⟩
          have HUA : Hid (isA u = true) := by show isA u = true; simp [isA]; omega
          have HUS : Hid (∀ y, HS w w1 b lb l S m (.slice ol k cl) y → Calls Try.prog 14 #[.pointer (some ⟨b, 0, none⟩), .agg #[.int .i64 l.single, .int .i64 l.count, .int .i64 l.sum, .int .i64 l.window], .string c, .int .i64 nw] y fun e z => e = .returned (.tuple #[.int .i64 mm, .int .i64 ss]) ∧ HS w w1 b lb l S m (.slice ol k cl) z) := fun y hy => by
            have := hy.used HLRR.out c HCS.out.1 nw HN1.out
            rw [HT.out, HMM.out.1, HMM.out.2] at this
            exact this
          have HBEY : Hid (bey S.G l c u nw = (decide (l.single < u) || decide (l.count ≤ mm) || decide (l.sum < ss + u))) := by
            show bey S.G l c u nw = _
            unfold bey
            rw [HT.out, HMM.out.1, HMM.out.2]
          have HASK : Hid (bey S.G l c u nw = false → ∀ y, HS w w1 b lb l S m (.slice ol k cl) y → Calls Try.prog 15 #[.pointer (some ⟨b, 0, none⟩), .agg #[.int .i64 l.single, .int .i64 l.count, .int .i64 l.sum, .int .i64 l.window], .string c, .int .i64 u, .int .i64 nw] y fun e z => e = .returned (.int .i64 0) ∧ ∃ m', HN w w1 b lb l S (giveS (nowS S nw) c u) m' (.slice ol k cl) z) := fun hb y hy => hy.ask HLRR.out c HCS.out.1 HCS.out.2 u nw HUA.out HNB.out.1 HN1.out.2 hb (by rw [HLEN.out]; have := HNB.out; omega) HWW.out
          have HREF : Hid (bey S.G l c u nw = true → ∀ y, HS w w1 b lb l S m (.slice ol k cl) y → Calls Try.prog 15 #[.pointer (some ⟨b, 0, none⟩), .agg #[.int .i64 l.single, .int .i64 l.count, .int .i64 l.sum, .int .i64 l.window], .string c, .int .i64 u, .int .i64 nw] y fun e z => e = .returned (.int .i64 210) ∧ HS w w1 b lb l S m (.slice ol k cl) z) := fun hb y hy => hy.no HLRR.out c HCS.out.1 HCS.out.2 u nw HUA.out HNB.out.1 HN1.out.2 hb
          have HUN : Hid (∀ m' y, HN w w1 b lb l S (giveS (nowS S nw) c u) m' (.slice ol k cl) y → Calls Try.prog 14 #[.pointer (some ⟨b, 0, none⟩), .agg #[.int .i64 l.single, .int .i64 l.count, .int .i64 l.sum, .int .i64 l.window], .string c, .int .i64 nw] y fun e z => e = .returned (.tuple #[.int .i64 (mm + 1), .int .i64 (ss + u)]) ∧ HN w w1 b lb l S (giveS (nowS S nw) c u) m' (.slice ol k cl) z) := fun m' y hy => by
            have := hy.used HLRR.out c HCS.out.1 nw HN1.out
            have eo : one1 (c, (S.gv + 1, u, nw)) c T = true := by simp [one1]; have := HT.out; have := HLS.out; omega
            have e1 : cnt (giveS (nowS S nw) c u).G c T = mm + 1 := by show cnt (S.G ++ [(c, (S.gv + 1, u, nw))]) c T = _; rw [cnt_snoc, eo, HMM.out.1]; rfl
            have e2 : smm (giveS (nowS S nw) c u).G c T = ss + u := by show smm (S.G ++ [(c, (S.gv + 1, u, nw))]) c T = _; rw [smm_snoc, eo, HMM.out.2]; rfl
            rw [HT.out, e1, e2] at this
            exact this
          have HEND : Hid (i < N ∧ i < 200) := ⟨hub.2.2.2.2.1, hub.2.2.2.2.2⟩
          clear hcl hsl hnb hub
          by_cases h1 : u ≤ l.single
          · by_cases h2 : mm < l.count
            · by_cases h3 : ss + u ≤ l.sum
              · have hbf : bey S.G l c u nw = false := by rw [HBEY.out]; simp; omega
                have HAS : Hid (∀ y, HS w w1 b lb l S m (.slice ol k cl) y → Calls Try.prog 15 #[.pointer (some ⟨b, 0, none⟩), .agg #[.int .i64 l.single, .int .i64 l.count, .int .i64 l.sum, .int .i64 l.window], .string c, .int .i64 u, .int .i64 nw] y fun e z => e = .returned (.int .i64 0) ∧ ∃ m', HN w w1 b lb l S (giveS (nowS S nw) c u) m' (.slice ol k cl) z) := HASK.out hbf
                have HLG : Hid (Lim (giveS (nowS S nw) c u) l) := lim_give HS2.out.lim c u nw HNB.out.1 (fun g hg => (HS2.out.kn.bk.iv.am g hg).1) HUB.out.1 hbf
                have HH : Hid (mm < l.count ∧ ss + u ≤ l.sum) := ⟨h2, h3⟩
                clear hbf
                go_wp2_with fail
                refine (HUS.out _ HS2.out).mono ?_
                rintro e y3 ⟨rfl, h5⟩
                obtain ⟨l0, l1, l2, l3⟩ := lim_cells (w := w) h5.kn.li
                have HS3 : Hid (HS w w1 b lb l S m (.slice ol k cl) y3) := h5
                clear h5
                go_wp2_with fail
                refine (HAS.out _ HS3.out).mono ?_
                rintro e y4 ⟨rfl, m', h4⟩
                obtain ⟨l0, l1, l2, l3⟩ := lim_cells (w := w) h4.kn.li
                have HS4 : Hid (HN w w1 b lb l S (giveS (nowS S nw) c u) m' (.slice ol k cl) y4) := h4
                clear h4
                go_wp2_with fail
                refine (HUN.out _ _ HS4.out).mono ?_
                rintro e y5 ⟨rfl, h5⟩
                have HS5 : Hid (HN w w1 b lb l S (giveS (nowS S nw) c u) m' (.slice ol k cl) y5) := h5
                obtain ⟨i0, hi0, hz0, hz1, hz2⟩ := infoGv
                have HRA : Hid ((y5.alloc (.cells #[.string c, .int .i64 u, .int .i64 nw] tGv)).ownsRow w1.heap.size tGv 3 (.slice ol k cl) k (gvc S.G) ∧ w1.heap.size ≤ y5.heap.size ∧ w1.heap.size ≤ (y5.alloc (.cells #[.string c, .int .i64 u, .int .i64 nw] tGv)).heap.size) := by
                  have h6 := h5.row
                  rw [HLEN.out] at h6
                  have h7 := h5.kn.bel.size
                  exact ⟨h6.alloc _, h7, by simp; omega⟩
                have p1 : decide (l.count < mm + 1) = false := decide_eq_false (by have := HH.out; omega)
                have p2 : decide (l.sum < ss + u) = false := decide_eq_false (by have := HH.out; omega)
                clear h5
                go_wp2_with (first | (at_builtin; refine wpList_append_lies _ rfl _ _ _ rfl w1.heap.size tGv i0 _ 3 32 Try.underlying46 hi0 hz0 hz1 hz2 rfl (by omega) _ k (gvc S.G) rfl HRA.out.1 ⟨y5.heap.size, 0, none⟩ 1 1 [.string c, .int .i64 u, .int .i64 nw] rfl (by rfl) (World.news_of_block (h1_0 y5 _)) (by simp [Value.oneCell']) (by omega) (by have := HNB.out; unfold maxLen; omega) (by have := HNB.out; omega) HRA.out.2.2 _ rfl ?_; intro gg cap2 z5 hown5 hgrow5 hat5 hlt5; have HPS : Hid (HS w w1 b lb l (giveS (nowS S nw) c u) m' (.slice (some ⟨gg, 0, none⟩) (k + 1) cap2) z5) := (by have hp := HN.push (g4 := gg) (cap := cap2) HS5.out HLG.out HS2.out.crd HCC.out HS2.out.gv HS2.out.most (by rw [HLEN.out]; exact hown5) hgrow5 HRA.out.2.1 HWW.out; rw [HLEN.out] at hp; exact hp); clear hown5 hgrow5 hat5 hlt5; obtain ⟨l0, l1, l2, l3⟩ := lim_cells (w := w) HPS.out.kn.li) | fail)
                have hGl : (giveS (nowS S nw) c u).G.length = k + 1 := by show (S.G ++ [(c, (S.gv + 1, u, nw))]).length = _; rw [List.length_append, HLEN.out]; rfl
                refine ⟨⟨i + 1, nw, giveS (nowS S nw) c u, m', some ⟨gg, 0, none⟩, cap2, by simp, rfl, by rw [hGl], ⟨by have := HEND.out; omega, by have := HEND.out; omega, by rw [hGl]; have := HNB.out; omega, Int.le_refl _, HNB.out.2.1, by have := HNB.out; omega⟩, by rw [hGl]; exact HPS.out⟩, ?_⟩
                have := HEND.out
                simp only [intOf]; omega
              · have b3 : decide (ss + u ≤ l.sum) = false := decide_eq_false h3
                have hbt : bey S.G l c u nw = true := by rw [HBEY.out]; simp; omega
                have HAS : Hid (∀ y, HS w w1 b lb l S m (.slice ol k cl) y → Calls Try.prog 15 #[.pointer (some ⟨b, 0, none⟩), .agg #[.int .i64 l.single, .int .i64 l.count, .int .i64 l.sum, .int .i64 l.window], .string c, .int .i64 u, .int .i64 nw] y fun e z => e = .returned (.int .i64 210) ∧ HS w w1 b lb l S m (.slice ol k cl) z) := HREF.out hbt
                clear hbt
                go_wp2_with fail
                refine (HUS.out _ HS2.out).mono ?_
                rintro e y3 ⟨rfl, h3⟩
                obtain ⟨l0, l1, l2, l3⟩ := lim_cells (w := w) h3.kn.li
                have HS3 : Hid (HS w w1 b lb l S m (.slice ol k cl) y3) := h3
                clear h3
                go_wp2_with fail
                refine (HAS.out _ HS3.out).mono ?_
                rintro e y4 ⟨rfl, h4⟩
                obtain ⟨l0, l1, l2, l3⟩ := lim_cells (w := w) h4.kn.li
                have HS4 : Hid (HS w w1 b lb l S m (.slice ol k cl) y4) := h4
                clear h4
                go_wp2_with fail
                refine (HUS.out _ HS4.out).mono ?_
                rintro e y5 ⟨rfl, h5⟩
                obtain ⟨l0, l1, l2, l3⟩ := lim_cells (w := w) h5.kn.li
                have HS5 : Hid (HS w w1 b lb l S m (.slice ol k cl) y5) := h5
                have p1 : decide (l.count < mm) = false := decide_eq_false (by have := HLIM.out; omega)
                have p2 : decide (l.sum < ss) = false := decide_eq_false (by have := HLIM.out; omega)
                clear h5
                go_wp2_with fail
                refine ⟨⟨i + 1, nw, S, m, ol, cl, by simp, rfl, by rw [HLEN.out], ⟨by have := HEND.out; omega, by have := HEND.out; omega, by rw [HLEN.out]; have := HNB.out; omega, HNB.out.1, HNB.out.2.1, by have := HNB.out; omega⟩, by rw [HLEN.out]; exact HS5.out⟩, ?_⟩
                have := HEND.out
                simp only [intOf]; omega
            · have b2 : decide (mm < l.count) = false := decide_eq_false h2
              have hbt : bey S.G l c u nw = true := by rw [HBEY.out]; simp; omega
              have HAS : Hid (∀ y, HS w w1 b lb l S m (.slice ol k cl) y → Calls Try.prog 15 #[.pointer (some ⟨b, 0, none⟩), .agg #[.int .i64 l.single, .int .i64 l.count, .int .i64 l.sum, .int .i64 l.window], .string c, .int .i64 u, .int .i64 nw] y fun e z => e = .returned (.int .i64 210) ∧ HS w w1 b lb l S m (.slice ol k cl) z) := HREF.out hbt
              clear hbt
              go_wp2_with fail
              refine (HUS.out _ HS2.out).mono ?_
              rintro e y3 ⟨rfl, h3⟩
              obtain ⟨l0, l1, l2, l3⟩ := lim_cells (w := w) h3.kn.li
              have HS3 : Hid (HS w w1 b lb l S m (.slice ol k cl) y3) := h3
              clear h3
              go_wp2_with fail
              refine (HAS.out _ HS3.out).mono ?_
              rintro e y4 ⟨rfl, h4⟩
              obtain ⟨l0, l1, l2, l3⟩ := lim_cells (w := w) h4.kn.li
              have HS4 : Hid (HS w w1 b lb l S m (.slice ol k cl) y4) := h4
              clear h4
              go_wp2_with fail
              refine (HUS.out _ HS4.out).mono ?_
              rintro e y5 ⟨rfl, h5⟩
              obtain ⟨l0, l1, l2, l3⟩ := lim_cells (w := w) h5.kn.li
              have HS5 : Hid (HS w w1 b lb l S m (.slice ol k cl) y5) := h5
              have p1 : decide (l.count < mm) = false := decide_eq_false (by have := HLIM.out; omega)
              have p2 : decide (l.sum < ss) = false := decide_eq_false (by have := HLIM.out; omega)
              clear h5
              go_wp2_with fail
              refine ⟨⟨i + 1, nw, S, m, ol, cl, by simp, rfl, by rw [HLEN.out], ⟨by have := HEND.out; omega, by have := HEND.out; omega, by rw [HLEN.out]; have := HNB.out; omega, HNB.out.1, HNB.out.2.1, by have := HNB.out; omega⟩, by rw [HLEN.out]; exact HS5.out⟩, ?_⟩
              have := HEND.out
              simp only [intOf]; omega
          · have b1 : decide (u ≤ l.single) = false := decide_eq_false h1
            have hbt : bey S.G l c u nw = true := by rw [HBEY.out]; simp; omega
            have HAS : Hid (∀ y, HS w w1 b lb l S m (.slice ol k cl) y → Calls Try.prog 15 #[.pointer (some ⟨b, 0, none⟩), .agg #[.int .i64 l.single, .int .i64 l.count, .int .i64 l.sum, .int .i64 l.window], .string c, .int .i64 u, .int .i64 nw] y fun e z => e = .returned (.int .i64 210) ∧ HS w w1 b lb l S m (.slice ol k cl) z) := HREF.out hbt
            clear hbt
            go_wp2_with fail
            refine (HUS.out _ HS2.out).mono ?_
            rintro e y3 ⟨rfl, h3⟩
            obtain ⟨l0, l1, l2, l3⟩ := lim_cells (w := w) h3.kn.li
            have HS3 : Hid (HS w w1 b lb l S m (.slice ol k cl) y3) := h3
            clear h3
            go_wp2_with fail
            refine (HAS.out _ HS3.out).mono ?_
            rintro e y4 ⟨rfl, h4⟩
            obtain ⟨l0, l1, l2, l3⟩ := lim_cells (w := w) h4.kn.li
            have HS4 : Hid (HS w w1 b lb l S m (.slice ol k cl) y4) := h4
            clear h4
            go_wp2_with fail
            refine (HUS.out _ HS4.out).mono ?_
            rintro e y5 ⟨rfl, h5⟩
            obtain ⟨l0, l1, l2, l3⟩ := lim_cells (w := w) h5.kn.li
            have HS5 : Hid (HS w w1 b lb l S m (.slice ol k cl) y5) := h5
            have p1 : decide (l.count < mm) = false := decide_eq_false (by have := HLIM.out; omega)
            have p2 : decide (l.sum < ss) = false := decide_eq_false (by have := HLIM.out; omega)
            clear h5
            go_wp2_with fail
            refine ⟨⟨i + 1, nw, S, m, ol, cl, by simp, rfl, by rw [HLEN.out], ⟨by have := HEND.out; omega, by have := HEND.out; omega, by rw [HLEN.out]; have := HNB.out; omega, HNB.out.1, HNB.out.2.1, by have := HNB.out; omega⟩, by rw [HLEN.out]; exact HS5.out⟩, ?_⟩
            have := HEND.out
            simp only [intOf]; omega
    · have HNL : Hid (¬ (i < N ∧ i < 200)) := hlt
      have q2 : (0 : Int) ≤ (i : Int) := by omega
      by_cases hN : i < N
      · have b1 : (i : Int) < (N : Int) := by omega
        have b2 : decide ((i : Int) < 200) = false := decide_eq_false (by omega)
        clear hlt hN
        go_wp2_with fail
        go_ret
        exact ⟨rfl, HST.out.bel⟩
      · have b1 : decide ((i : Int) < (N : Int)) = false := decide_eq_false (by omega)
        have b2 : ¬ (i : Int) < (N : Int) := by omega
        clear hlt hN
        go_wp2_with fail
        all_goals first | (exfalso; have := HNL.out; omega) | (go_ret; exact ⟨rfl, HST.out.bel⟩)
