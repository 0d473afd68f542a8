/- StanBack: its walk. -/
import Derived.Test.YtmnoplaepjaokaaGreatDoorBg
namespace Go.Proofs.YtmnoplaepjaokaaGreatDoor.Bh
set_option linter.unusedVariables false
set_option linter.unusedSimpArgs false
open Go.RowKit Go.Maps Lib0 Kb Xp Ic Ix If Ig Yg Za Zb Zc Zd Ze Zg Zh Zi Zj Ba Bb Bc Bd Be Bf Bg
/-- Restore of what was saved, whether or not something is kept -/
theorem restore_any {w : World} {b mb : Nat} {z : List Int} {kf : KF} {sz c : Nat} (h : Ec w b mb z kf sz c) (n : Int) (hnb : -9223372036854775808 ≤ n ∧ n ≤ 9223372036854775807) (l : List Fl) (hk : kf n = some l) (mti : ByteArray) (v : Value) (L : List Fl) (hM : Ms w mti v L) (hw : (Hr.rt mti && snF 0 L) = true) :
    Calls Tryz.prog 32 #[.pointer (some ⟨b, 0, none⟩), .int .i64 n, .agg #[.string mti, v]] w fun e w' => ∃ T, T.Perm (Zc.kp z false L ++ l) ∧ T.Pairwise (fun x y => x.1 ≤ y.1) ∧ PostR w mti T true e w' := by
  by_cases hl : 0 < l.length
  · exact restore_ok h n hnb l hk hl mti v L hM hw
  · have e : l = [] := List.eq_nil_of_length_eq_zero (by omega)
    subst e
    rw [List.append_nil]
    exact Zl.restore_empty h n hnb hk mti v L hM hw
set_option maxRecDepth 100000 in
set_option maxHeartbeats 3200000 in
theorem walk (v0 v1 v2 : Value) (raw one two : List Int) (num : Int) (va ot : ByteArray) (w : World) (hT : Tb w) (h0 : RowI w v0 raw) (h1 : RowI w v1 one) (h2 : RowI w v2 two) (b0 : ∀ x ∈ raw, -9223372036854775808 ≤ x ∧ x ≤ 9223372036854775807) (b1 : ∀ x ∈ one, -9223372036854775808 ≤ x ∧ x ≤ 9223372036854775807) (b2 : ∀ x ∈ two, -9223372036854775808 ≤ x ∧ x ≤ 9223372036854775807) (bn : -9223372036854775808 ≤ num ∧ num ≤ 9223372036854775807) (sv : (va.size : Int) ≤ 9223372036854775807) (so : (ot.size : Int) ≤ 9223372036854775807) :
    Calls Tryz.prog 8 #[v0, v1, v2, .int .i64 num, .string va, .string ot] w fun e w' => e = .returned (.bool true) ∧ Below w.heap.size w w' := by
  have HK := Zk.known_any w hT
  have HF : Hid (∀ y, Below w.heap.size w y → Calls Tryz.prog 29 #[v0] y fun e w' => ∃ v', e = .returned v' ∧ w'.ownsRow y.heap.size 3 1 v' (fsL (raw.take 40)).length (numV (fsL (raw.take 40))) ∧ Below y.heap.size y w') := fun y hy => fields_any v0 raw y (rowi_below h0 hy) b0
  have HM1 : Hid (va.size ≤ 2000 → ∀ y, Below w.heap.size w y → Calls Tryz.prog 30 #[.string m0, v1, .string va] y (PostM y m0 (ml one va 127))) := fun hs y hy => message_any m0 v1 one va hs y (rowi_below h1 hy) b1
  have HM2 : Hid (ot.size ≤ 2000 → ∀ y, Below w.heap.size w y → Calls Tryz.prog 30 #[.string m1, v2, .string ot] y (PostM y m1 (ml two ot 127))) := fun hs y hy => message_any m1 v2 two ot hs y (rowi_below h2 hy) b2
  have HGD : Hid (Gd (fsL (raw.take 40))) := (gf_take raw 40).gd (by decide)
  have HPI : Hid (∀ y, Calls Tryz.prog 12 #[.int .i64 num, .int .i64 999999] y fun e w' => e = .returned (.int .i64 (Pick.pickOf num 999999)) ∧ w' = y) := fun y => Pick.pick_any num 999999 y bn.1 bn.2 (by decide) (by decide)
  have HP0 : Hid (0 ≤ Pick.pickOf num 999999 ∧ Pick.pickOf num 999999 < 999999) := ⟨Pick.pick_lo num 999999 (by decide), Pick.pick_hi num 999999 (by decide)⟩
  generalize Pick.pickOf num 999999 = pk at *
  generalize fsL (raw.take 40) = z at *
  clear h0 h1 h2 b0 b1 b2 bn hT
  go_enter Tryz.func8, Tryz.ntmps8
  go_wp2_with fail
  refine HK.mono ?_
  rintro e y1 ⟨rfl, hb1⟩
  have HB1 : Hid (Below w.heap.size w y1) := hb1
  clear HK hb1
  go_wp2_with fail
  refine (HF.out _ HB1.out).mono ?_
  rintro e y2 ⟨lv, rfl, ho2, hb2⟩
  have HB2 : Hid (Below w.heap.size w y2) := keepB HB1.out hb2
  have HRI : Hid (RowI y2 lv z) := Bc.rowi_own ho2
  obtain ⟨g, cap, hlv, hcap, hcs⟩ : ∃ g cap, lv = .slice (some ⟨g, 0, none⟩) z.length cap ∧ z.length ≤ cap ∧ ∀ j, j < z.length → y2.cell? ⟨g, 0 + j, none⟩ = some (.int .i64 (z.getD j 0)) := by
    rcases ho2.2 with ⟨_, e0⟩ | ⟨g, cap, cur, e1, hgb, hg, hc, hc2, hsz, htk⟩
    · have := HGD.out.pos; omega
    · refine ⟨g, cap, e1, hc, fun j hj => ?_⟩
      rw [cell_of_row y2 g _ _ _ (0, 0) hg, Nat.zero_add]
      have e2 : (numV z)[j]? = some (.int .i64 (z.getD j 0)) := by simp [numV, hj]
      rw [← htk, List.getElem?_take, if_pos (by omega)] at e2
      rw [← Array.getElem?_toList]; exact e2
  have HNE := newEcho_ok g cap z y2 HGD.out hcap hcs
  rw [← hlv] at HNE
  clear hlv hcap hcs ho2 hb2 HF HB1
  go_wp2_with fail
  refine HNE.mono ?_
  rintro e y3 ⟨b, mb, rfl, he3, hb3, hbb, hmb⟩
  have HE3 : Hid (Ec y3 b mb z nof 0 0) := he3
  have HB3 : Hid (Below w.heap.size w y3) := keepB HB2.out hb3
  have HR3 : Hid (RowI y3 lv z) := rowi_below HRI.out hb3
  have HMBL : Hid (w.heap.size ≤ mb) := Nat.le_trans HB2.out.size hmb
  clear HNE he3 hb3 hbb hmb HRI HB2
  by_cases hbig : 2000 < va.size ∨ 2000 < ot.size
  · by_cases hv : 2000 < va.size
    · have q1 : (2000 : Int) < (va.size : Int) := by omega
      clear hbig
      go_wp2_with fail
      go_ret
      exact ⟨rfl, HB3.out⟩
    · have q2 : (2000 : Int) < (ot.size : Int) := by omega
      have q1 : (va.size : Int) ≤ 2000 := by omega
      clear hbig hv
      go_wp2_with fail
      go_ret
      exact ⟨rfl, HB3.out⟩
  · have q1 : (va.size : Int) ≤ 2000 := by omega
    have q2 : (ot.size : Int) ≤ 2000 := by omega
    replace HM1 : Hid _ := HM1.out (by omega)
    replace HM2 : Hid _ := HM2.out (by omega)
    have p0 := HP0.out.1
    have p1 := HP0.out.2
    clear hbig sv so
    go_wp2_with fail
    refine (HPI.out _).mono ?_
    rintro e y ⟨rfl, hy⟩
    rw [hy]
    clear hy HPI
    have hs1 : va.size ≤ 2000 := by omega
    have hs2 : ot.size ≤ 2000 := by omega
    have HFO1 : Hid (Fo (ml one va 127)) := ml_fo one va hs1
    have HFO2 : Hid (Fo (ml two ot 127)) := ml_fo two ot hs2
    have HSN1 : Hid (snF 0 (ml one va 127) = true) := ml_snF one va
    have HSN2 : Hid (snF 0 (ml two ot 127) = true) := ml_snF two ot
    have HUP1 : Hid (Up (ml one va 127)) := ml_up one va 127
    have HUP2 : Hid (Up (ml two ot 127)) := ml_up two ot 127
    have HRG1 : Hid (∀ x ∈ ml one va 127, 2 ≤ x.1 ∧ x.1 < 129) := fun x hx => ⟨(ml_mem one va 127 x hx).1, (ml_mem one va 127 x hx).2.1⟩
    have HRG2 : Hid (∀ x ∈ ml two ot 127, 2 ≤ x.1 ∧ x.1 < 129) := fun x hx => ⟨(ml_mem two ot 127 x hx).1, (ml_mem two ot 127 x hx).2.1⟩
    have HLN1 : Hid ((ml one va 127).length ≤ 127) := ml_len one va 127
    have HLN2 : Hid ((ml two ot 127).length ≤ 127) := ml_len two ot 127
    generalize ml one va 127 = m at *
    generalize ml two ot 127 = x at *
    clear q1 q2 hs1 hs2
    go_wp2_with fail
    refine (HM1.out _ HB3.out).mono ?_
    rintro e y4 ⟨vm, rfl, ho4, -, hb4⟩
    obtain ⟨o4, n4, c4, hvm⟩ := Ms.slice (w := y4) (mti := m0) (v := vm) (L := m) ⟨by decide, rowf_own ho4, HFO1.out⟩
    subst hvm
    have HB4 : Hid (Below w.heap.size w (y4.alloc (.cells #[.string m0, .slice o4 n4 c4] tG))) := (keepB HB3.out hb4).alloc (keepB HB3.out hb4).size _
    have hb4' := Kb.below_one y4 (.cells #[.string m0, .slice o4 n4 c4] tG)
    have HE4 : Hid (Ec (y4.alloc (.cells #[.string m0, .slice o4 n4 c4] tG)) b mb z nof 0 0) := Ec.below (Ec.below HE3.out hb4) hb4'
    have HR4 : Hid (RowI (y4.alloc (.cells #[.string m0, .slice o4 n4 c4] tG)) lv z) := rowi_below (rowi_below HR3.out hb4) hb4'
    have HX4 : Hid ((y4.alloc (.cells #[.string m0, .slice o4 n4 c4] tG)).heap[y4.heap.size]? = some (.cells #[.string m0, .slice o4 n4 c4] tG)) := h1_0 _ _
    have HS4 : Hid (Ms (y4.alloc (.cells #[.string m0, .slice o4 n4 c4] tG)) m0 (.slice o4 n4 c4) m) := Ms.below ⟨by decide, rowf_own ho4, HFO1.out⟩ hb4'
    clear ho4 hb4 hb4' HM1 HB3 HE3 HR3
    go_wp2_with fail
    obtain ⟨gm, HGM⟩ : ∃ g, Hid (y4.heap.size = g) := ⟨_, rfl⟩
    rw [HGM.out] at HX4 ⊢
    generalize y4.alloc (.cells #[.string m0, .slice o4 n4 c4] tG) = y5 at *
    clear HGM
    refine (HM2.out _ HB4.out).mono ?_
    rintro e y6 ⟨vx, rfl, ho6, -, hb6⟩
    obtain ⟨o6, n6, c6, hvx⟩ := Ms.slice (w := y6) (mti := m1) (v := vx) (L := x) ⟨by decide, rowf_own ho6, HFO2.out⟩
    subst hvx
    have hb6' := Kb.below_one y6 (.cells #[.string m1, .slice o6 n6 c6] tG)
    have HBK0 : Hid (Bk w (y6.alloc (.cells #[.string m1, .slice o6 n6 c6] tG)) b mb gm y6.heap.size lv (.slice o4 n4 c4) (.slice o6 n6 c6) z nof 0 0 m x) := ⟨Ec.below (Ec.below HE4.out hb6) hb6', rowi_below (rowi_below HR4.out hb6) hb6', kept hb6' (kept hb6 HX4.out), h1_0 _ _, (HS4.out.below hb6).below hb6', Ms.below ⟨by decide, rowf_own ho6, HFO2.out⟩ hb6', keepB (keepB HB4.out hb6) hb6', HMBL.out⟩
    clear ho6 hb6 hb6' HM2 HB4 HE4 HR4 HX4 HS4
    have HNU : Hid (Yc.isNum (1 + pk) = true) := by show _ = true; simp [Yc.isNum]; omega
    have n0 : (1 : Int) ≤ 1 + pk := by omega
    have n1 : 1 + pk ≤ 999999 := by omega
    obtain ⟨⟨e1, e2⟩, ⟨e3, e4⟩⟩ := HBK0.out.cells
    go_wp2_with fail
    clear e1 e2 e3 e4 p0 p1
    obtain ⟨gx, HGX⟩ : ∃ g, Hid (y6.heap.size = g) := ⟨_, rfl⟩
    rw [HGX.out] at HBK0 ⊢
    generalize y6.alloc (.cells #[.string m1, .slice o6 n6 c6] tG) = y7 at *
    clear HGX
    obtain ⟨n, Hnn⟩ : ∃ n : Int, Hid (1 + pk = n) := ⟨_, rfl⟩
    rw [Hnn.out] at HNU n0 n1 ⊢
    clear Hnn HP0
    have HNB : Hid (-9223372036854775808 ≤ n ∧ n ≤ 9223372036854775807) := by show _ ∧ _; omega
    refine (Zi.save_ok HBK0.out.ec (by decide) n HNU.out rfl m0 _ m HBK0.out.mm (by rw [rt0, HSN1.out]; rfl)).mono ?_
    rintro e y8 ⟨rfl, he8, hf8⟩
    have HBK1 : Hid (Bk w y8 b mb gm gx lv (.slice o4 n4 c4) (.slice o6 n6 c6) z (kput nof n (some (Zc.kp z true m))) 1 1 m x) := HBK0.out.turn hf8 he8
    obtain ⟨⟨e1, e2⟩, ⟨e3, e4⟩⟩ := HBK1.out.cells
    clear he8 hf8 HBK0
    go_wp2_with fail
    clear e1 e2 e3 e4
    have HKN : Hid ((kput nof n (some (Zc.kp z true m))) n = some (Zc.kp z true m)) := by show _ = _; simp [kput]
    have HKO : Hid (((kput nof n (some (Zc.kp z true m))) (n % 999999 + 1)).isSome = false) := by
      have : n % 999999 + 1 ≠ n := by omega
      show _ = false
      simp [kput, nof, this]
    refine (Zi.save_twice HBK1.out.ec n HNU.out (by rw [HKN.out]; rfl) m1 _ x HBK1.out.mx).mono ?_
    rintro e y9 ⟨rfl, hb9⟩
    have HBK2 : Hid (Bk w y9 b mb gm gx lv (.slice o4 n4 c4) (.slice o6 n6 c6) z (kput nof n (some (Zc.kp z true m))) 1 1 m x) := HBK1.out.below hb9
    obtain ⟨⟨e1, e2⟩, ⟨e3, e4⟩⟩ := HBK2.out.cells
    clear hb9 HBK1
    go_wp2_with fail
    clear e1 e2 e3 e4
    refine (restore_any HBK2.out.ec n HNB.out _ HKN.out m0 _ m HBK2.out.mm (by rw [rt0, HSN1.out]; rfl)).mono ?_
    rintro e y10 ⟨T, hp, hs, v', rfl, ho, hb⟩
    obtain rfl : T = m := back_same z HUP1.out hp hs
    clear hp hs
    have HMA : Hid (Ms y10 m0 v' T) := ⟨by decide, rowf_own ho, HFO1.out⟩
    obtain ⟨o7, n7, c7, hv7⟩ := HMA.out.slice
    subst hv7
    have HBK3 : Hid (Bk w (y10.alloc (.cells #[.string m0, .slice o7 n7 c7] tG)) b mb gm gx lv (.slice o4 n4 c4) (.slice o6 n6 c6) z (kput nof n (some (Zc.kp z true T))) 1 1 T x) := (HBK2.out.below hb).below (Kb.below_one _ _)
    have HA3 : Hid ((y10.alloc (.cells #[.string m0, .slice o7 n7 c7] tG)).heap[y10.heap.size]? = some (.cells #[.string m0, .slice o7 n7 c7] tG)) := h1_0 _ _
    have HMA3 : Hid (Ms (y10.alloc (.cells #[.string m0, .slice o7 n7 c7] tG)) m0 (.slice o7 n7 c7) T) := HMA.out.below (Kb.below_one _ _)
    obtain ⟨⟨e1, e2⟩, ⟨e3, e4⟩⟩ := HBK3.out.cells
    clear HMA ho hb HBK2
    go_wp2_with fail
    clear e1 e2 e3 e4
    obtain ⟨ga, HGA⟩ : ∃ g, Hid (y10.heap.size = g) := ⟨_, rfl⟩
    rw [HGA.out] at HA3 ⊢
    generalize y10.alloc (.cells #[.string m0, .slice o7 n7 c7] tG) = y11 at *
    clear HGA
    refine (restore_any HBK3.out.ec n HNB.out _ HKN.out m1 _ x HBK3.out.mx (by rw [rt1, HSN2.out]; rfl)).mono ?_
    rintro e y12 ⟨R, hp, hs, v', rfl, ho, hb⟩
    have HRU : Hid (Up R) := up_of hp hs (mix_nodup z HUP2.out HUP1.out)
    have HRM : Hid (∀ q, q ∈ R ↔ q ∈ (if z.contains q.1 then T else x)) := mem_mix z hp
    have HRL : Hid (R.length ≤ 254) := by
      have e := hp.length_eq
      rw [List.length_append] at e
      have e1 := kp_len z false x
      have e2 := kp_len z true T
      have e3 := HLN1.out
      have e4 := HLN2.out
      show _ ≤ _
      omega
    have hrf := rowf_own ho
    obtain ⟨o8, c8, hv8, -⟩ := id hrf
    subst hv8
    have HRF : Hid (RowF y12 (.slice o8 R.length c8) R) := hrf
    obtain ⟨NR, HNR⟩ : ∃ N, Hid (R.length = N) := ⟨_, rfl⟩
    rw [HNR.out] at HRF ⊢
    have HBK4 : Hid (Bk w (y12.alloc (.cells #[.string m1, .slice o8 NR c8] tG)) b mb gm gx lv (.slice o4 n4 c4) (.slice o6 n6 c6) z (kput nof n (some (Zc.kp z true T))) 1 1 T x) := (HBK3.out.below hb).below (Kb.below_one _ _)
    have HA4 : Hid ((y12.alloc (.cells #[.string m1, .slice o8 NR c8] tG)).heap[ga]? = some (.cells #[.string m0, .slice o7 n7 c7] tG)) := kept (Kb.below_one _ _) (kept hb HA3.out)
    have HX4 : Hid ((y12.alloc (.cells #[.string m1, .slice o8 NR c8] tG)).heap[y12.heap.size]? = some (.cells #[.string m1, .slice o8 NR c8] tG)) := h1_0 _ _
    have HMA4 : Hid (Ms (y12.alloc (.cells #[.string m1, .slice o8 NR c8] tG)) m0 (.slice o7 n7 c7) T) := (HMA3.out.below hb).below (Kb.below_one _ _)
    have HRF4 : Hid (RowF (y12.alloc (.cells #[.string m1, .slice o8 NR c8] tG)) (.slice o8 NR c8) R) := rowf_below HRF.out (Kb.below_one _ _)
    obtain ⟨⟨e1, e2⟩, ⟨e3, e4⟩⟩ := HBK4.out.cells
    clear hp hs ho hb hrf HRF HBK3 HMA3 HA3
    go_wp2_with fail
    clear e1 e2 e3 e4
    obtain ⟨gb, HGB⟩ : ∃ g, Hid (y12.heap.size = g) := ⟨_, rfl⟩
    rw [HGB.out] at HX4 ⊢
    generalize y12.alloc (.cells #[.string m1, .slice o8 NR c8] tG) = y13 at *
    clear HGB
    refine (Zj.restore_none HBK4.out.ec (n % 999999 + 1) (by omega) HKO.out m1 _ x HBK4.out.mx).mono ?_
    rintro e y14 ⟨v', rfl, ho, hb⟩
    obtain ⟨o9, c9, hv9, -⟩ := rowf_own ho
    subst hv9
    obtain ⟨NX, HNX⟩ : ∃ N, Hid (x.length = N) := ⟨_, rfl⟩
    rw [HNX.out]
    have hb' : Below y13.heap.size y13 (y14.alloc (.cells #[.string m1, .slice o9 NX c9] tG)) := keepB hb (Kb.below_one _ _)
    have HBK5 : Hid (Bk w (y14.alloc (.cells #[.string m1, .slice o9 NX c9] tG)) b mb gm gx lv (.slice o4 n4 c4) (.slice o6 n6 c6) z (kput nof n (some (Zc.kp z true T))) 1 1 T x) := HBK4.out.below hb'
    have HA5 : Hid ((y14.alloc (.cells #[.string m1, .slice o9 NX c9] tG)).heap[ga]? = some (.cells #[.string m0, .slice o7 n7 c7] tG)) := kept hb' HA4.out
    have HX5 : Hid ((y14.alloc (.cells #[.string m1, .slice o9 NX c9] tG)).heap[gb]? = some (.cells #[.string m1, .slice o8 NR c8] tG)) := kept hb' HX4.out
    have HMA5 : Hid (Ms (y14.alloc (.cells #[.string m1, .slice o9 NX c9] tG)) m0 (.slice o7 n7 c7) T) := HMA4.out.below hb'
    have HRF5 : Hid (RowF (y14.alloc (.cells #[.string m1, .slice o9 NX c9] tG)) (.slice o8 NR c8) R) := rowf_below HRF4.out hb'
    obtain ⟨⟨e1, e2⟩, ⟨e3, e4⟩⟩ := HBK5.out.cells
    have a1 : (y14.alloc (.cells #[.string m1, .slice o9 NX c9] tG)).cell? ⟨ga, 0, none⟩ = some (.string m0) := by have := HA5.out; simp [World.cell?, this]
    have a2 : (y14.alloc (.cells #[.string m1, .slice o9 NX c9] tG)).cell? ⟨ga, 1, none⟩ = some (.slice o7 n7 c7) := by have := HA5.out; simp [World.cell?, this]
    clear ho hb hb' HBK4 HA4 HX4 HMA4 HRF4
    go_wp2_with fail
    clear e1 e2 e3 e4 a1 a2
    generalize y14.alloc (.cells #[.string m1, .slice o9 NX c9] tG) = y15 at *
    refine (same_yes m0 _ _ T _ HMA5.out.row HBK5.out.mm.row HFO1.out.len).mono ?_
    rintro e y16 ⟨rfl, hb⟩
    have HBK6 : Hid (Bk w y16 b mb gm gx lv (.slice o4 n4 c4) (.slice o6 n6 c6) z (kput nof n (some (Zc.kp z true T))) 1 1 T x) := HBK5.out.below hb
    have HX6 : Hid (y16.heap[gb]? = some (.cells #[.string m1, .slice o8 NR c8] tG)) := kept hb HX5.out
    have HRF6 : Hid (RowF y16 (.slice o8 NR c8) R) := rowf_below HRF5.out hb
    have x1 : y16.cell? ⟨gb, 0, none⟩ = some (.string m1) := by have := HX6.out; simp [World.cell?, this]
    have x2 : y16.cell? ⟨gb, 1, none⟩ = some (.slice o8 NR c8) := by have := HX6.out; simp [World.cell?, this]
    have HLE : Hid (Calls Tryz.prog 34 #[.pointer (some ⟨b, 0, none⟩)] y16 fun e w' => e = .returned (.int .i64 1) ∧ w' = y16) := len_e HBK6.out.ec
    clear hb HBK5 HA5 HX5 HMA5 HRF5
    go_wp2_with fail
    refine HLE.out.mono ?_
    rintro e y ⟨rfl, hy⟩
    rw [hy]
    clear hy HLE
    go_wp2_with fail
    clear x1 x2
    have HST : Hid (Bk w y16 b mb gm gx lv (.slice o4 n4 c4) (.slice o6 n6 c6) z (kput nof n (some (Zc.kp z true T))) 1 1 T x ∧ y16.heap[gb]? = some (.cells #[.string m1, .slice o8 NR c8] tG) ∧ RowF y16 (.slice o8 NR c8) R) := ⟨HBK6.out, HX6.out, HRF6.out⟩
    clear HBK6 HX6 HRF6
    have HZL : Hid (z.length ≤ 100000) := HGD.out.len
    go_loopw [29, 30] (fun la iv wr => ∃ (i : Nat) (l : Int), iv = .int .i64 (i : Int) ∧ i ≤ NR ∧ la = .int .i64 l ∧ Hid (∀ j (h : j < R.length), i ≤ j → l < R[j].1) ∧ Hid (Bk w wr b mb gm gx lv (.slice o4 n4 c4) (.slice o6 n6 c6) z (kput nof n (some (Zc.kp z true T))) 1 1 T x ∧ wr.heap[gb]? = some (.cells #[.string m1, .slice o8 NR c8] tG) ∧ RowF wr (.slice o8 NR c8) R)) (fun _ iv _ => NR + 1 - (intOf iv).toNat)
    case atStart => exact ⟨0, 0, rfl, Nat.zero_le _, rfl, (fun j h _ => by
        have h1 := (HRM.out R[j]).1 (List.getElem_mem h)
        split at h1
        · have := (HRG1.out _ h1).1; omega
        · have := (HRG2.out _ h1).1; omega), HST⟩
    case round =>
      obtain ⟨i, l, rfl, hi, rfl, HLA, HS⟩ := hrel
      have q1 : (0 : Int) ≤ (i : Int) := by omega
      have x2 : wr.cell? ⟨gb, 1, none⟩ = some (.slice o8 NR c8) := by have := HS.out.2.1; simp [World.cell?, this]
      by_cases hlt : i < NR
      · have hi2 : i < R.length := by rw [HNR.out]; exact hlt
        obtain ⟨o8', c8', hv8, hcs⟩ := id HS.out.2.2
        have ho8 : o8 = o8' := by injection hv8
        subst ho8
        obtain ⟨a, rfl, c0, c1, -⟩ := hcs i hi2
        have q0 : (i : Int) < (NR : Int) := by omega
        have q3 : (i : Int) + 1 ≤ 9223372036854775807 := by have := HRL.out; rw [HNR.out] at this; omega
        have hll := HLA.out i hi2 (Nat.le_refl _)
        have hmem := (HRM.out R[i]).1 (List.getElem_mem hi2)
        have HLA2 : Hid (∀ j (h : j < R.length), i + 1 ≤ j → (R[i]'hi2).1 < R[j].1) := fun j h hj => List.pairwise_iff_getElem.1 HRU.out i j hi2 h (by omega)
        obtain ⟨q, HQ⟩ : ∃ q : Fl, Hid (R[i]'hi2 = q) := ⟨R[i]'hi2, rfl⟩
        rw [HQ.out] at c0 c1 hll hmem HLA2
        obtain ⟨k, s⟩ := q
        dsimp only at c0 c1 hll hmem HLA2
        have HHA : Hid (Calls Tryz.prog 35 #[lv, .int .i64 k] wr fun e w' => e = .returned (.bool (z.contains k)) ∧ w' = wr) := has_any lv z k wr HS.out.1.row HZL.out
        have HIN : Hid (i < NR) := hlt
        have HMEM : Hid ((k, s) ∈ (if z.contains k = true then T else x)) := hmem
        have HKL : Hid (decide (k ≤ l) = false) := by show _ = false; simp; omega
        clear hi hlt hi2 hv8 hcs hll hmem HQ
        go_wp2_with fail
        refine HHA.out.mono ?_
        rintro e y ⟨rfl, hy⟩
        rw [hy]
        clear hy HHA
        obtain ⟨⟨e1, e2⟩, ⟨e3, e4⟩⟩ := HS.out.1.cells
        have HCA : Hid (∀ y, Below wr.heap.size wr y → y.cell? ⟨gb, 1, none⟩ = some (.slice (some a) NR c8) ∧ y.cell? ⟨(a.add (i * 3)).block, (a.add (i * 3)).off + 1, none⟩ = some (.string s) ∧ Hid (Bk w y b mb gm gx lv (.slice o4 n4 c4) (.slice o6 n6 c6) z (kput nof n (some (Zc.kp z true T))) 1 1 T x ∧ y.heap[gb]? = some (.cells #[.string m1, .slice (some a) NR c8] tG) ∧ RowF y (.slice (some a) NR c8) R)) := fun y hy => by
          have h1 := kept hy HS.out.2.1
          refine ⟨by simp [World.cell?, h1], (hy.cell (World.block_lt_of_cell? wr _ c1)).trans c1, HS.out.1.below hy, h1, rowf_below HS.out.2.2 hy⟩
        cases hz : z.contains k
        · have hm := HMEM.out
          rw [hz, if_neg (by simp)] at hm
          have HGET : Hid (Calls Tryz.prog 36 #[.agg #[.string m1, .slice o6 n6 c6], .int .i64 k] (wr.alloc (.cells #[.string m1, .slice o6 n6 c6] tG)) fun e w' => e = .returned (.tuple #[.string s, .bool true]) ∧ Below (wr.alloc (.cells #[.string m1, .slice o6 n6 c6] tG)).heap.size (wr.alloc (.cells #[.string m1, .slice o6 n6 c6] tG)) w') := by
            have := get_flat m1 (.slice o6 n6 c6) x k (wr.alloc (.cells #[.string m1, .slice o6 n6 c6] tG)) (rowf_below HS.out.1.mx.row (Kb.below_one _ _)) HFO2.out.len
            rwa [gt_mem HUP2.out hm] at this
          have HNX2 : Hid (∀ y, Below (wr.alloc (.cells #[.string m1, .slice o6 n6 c6] tG)).heap.size (wr.alloc (.cells #[.string m1, .slice o6 n6 c6] tG)) y → y.cell? ⟨gb, 1, none⟩ = some (.slice (some a) NR c8) ∧ y.cell? ⟨(a.add (i * 3)).block, (a.add (i * 3)).off + 1, none⟩ = some (.string s) ∧ Hid (Bk w y b mb gm gx lv (.slice o4 n4 c4) (.slice o6 n6 c6) z (kput nof n (some (Zc.kp z true T))) 1 1 T x ∧ y.heap[gb]? = some (.cells #[.string m1, .slice (some a) NR c8] tG) ∧ RowF y (.slice (some a) NR c8) R)) := fun y hy => HCA.out y (keepB (Kb.below_one _ _) hy)
          clear hm c0 c1 HMEM HCA HS x2
          go_wp2_with fail
          refine HGET.out.mono ?_
          rintro e y2 ⟨rfl, hb⟩
          obtain ⟨f1, f2, HS2⟩ := HNX2.out y2 hb
          clear hb HGET HNX2
          have hkl := HKL.out
          go_wp2_with fail
          have := HIN.out
          refine ⟨⟨i + 1, k, by simp, by omega, rfl, HLA2, HS2⟩, ?_⟩
          simp only [intOf]
          omega
        · have hm := HMEM.out
          rw [hz, if_pos rfl] at hm
          obtain ⟨y1, HY1⟩ : ∃ y1, Hid (wr.alloc (.cells #[.string m0, .slice o4 n4 c4] tG) = y1) := ⟨_, rfl⟩
          have HB1 : Hid (Below wr.heap.size wr y1) := HY1.out ▸ Kb.below_one wr _
          have hb0 := Kb.below_one wr (.cells #[.string m1, .slice o6 n6 c6] tG)
          have r1 := keepC hb0 e1 (World.block_lt_of_cell? wr _ e1)
          have r2 := keepC hb0 e2 (World.block_lt_of_cell? wr _ e2)
          have HGET : Hid (Calls Tryz.prog 36 #[.agg #[.string m0, .slice o4 n4 c4], .int .i64 k] y1 fun e w' => e = .returned (.tuple #[.string s, .bool true]) ∧ Below y1.heap.size y1 w') := by
            have := get_flat m0 (.slice o4 n4 c4) T k y1 (rowf_below HS.out.1.mm.row HB1.out) HFO1.out.len
            rwa [gt_mem HUP1.out hm] at this
          have HNX2 : Hid (∀ y, Below y1.heap.size y1 y → y.cell? ⟨gb, 1, none⟩ = some (.slice (some a) NR c8) ∧ y.cell? ⟨(a.add (i * 3)).block, (a.add (i * 3)).off + 1, none⟩ = some (.string s) ∧ Hid (Bk w y b mb gm gx lv (.slice o4 n4 c4) (.slice o6 n6 c6) z (kput nof n (some (Zc.kp z true T))) 1 1 T x ∧ y.heap[gb]? = some (.cells #[.string m1, .slice (some a) NR c8] tG) ∧ RowF y (.slice (some a) NR c8) R)) := fun y hy => HCA.out y (keepB HB1.out hy)
          clear hm c0 c1 HMEM HCA HS x2 hb0
          go_wp2_with fail
          rw [HY1.out]
          refine HGET.out.mono ?_
          rintro e y2 ⟨rfl, hb⟩
          obtain ⟨f1, f2, HS2⟩ := HNX2.out y2 hb
          clear hb HGET HNX2
          have hkl := HKL.out
          go_wp2_with fail
          have := HIN.out
          refine ⟨⟨i + 1, k, by simp, by omega, rfl, HLA2, HS2⟩, ?_⟩
          simp only [intOf]
          omega
      · obtain rfl : i = NR := by omega
        have q0 : ¬ (i : Int) < (i : Int) := by omega
        clear hi hlt HLA
        have HS1 : Hid (Bk w wr b mb gm gx lv (.slice o4 n4 c4) (.slice o6 n6 c6) z (kput nof n (some (Zc.kp z true T))) 1 1 T x ∧ wr.heap[gb]? = some (.cells #[.string m1, .slice o8 i c8] tG)) := ⟨HS.out.1, HS.out.2.1⟩
        clear HS
        go_wp2_with fail
        clear x2
        obtain ⟨wo, HWO⟩ : ∃ wo : World, Hid (wo = wr) := ⟨_, rfl⟩
        go_loopw [36, 37] (fun mv iv wr => ∃ (k c : Nat), iv = .int .i64 (k : Int) ∧ 2 ≤ k ∧ k ≤ 129 ∧ mv = .int .i64 (c : Int) ∧ Hid (cn R (k : Int) = c) ∧ Hid (Bk w wr b mb gm gx lv (.slice o4 n4 c4) (.slice o6 n6 c6) z (kput nof n (some (Zc.kp z true T))) 1 1 T x ∧ wr.heap[gb]? = some (.cells #[.string m1, .slice o8 i c8] tG))) (fun _ iv _ => 130 - (intOf iv).toNat)
        case atStart => exact ⟨2, 0, rfl, by omega, by omega, rfl, cn_start (T := R) (n := 2) (fun q hqR => by
          have h1 := (HRM.out q).1 hqR
          split at h1
          · exact (HRG1.out _ h1).1
          · exact (HRG2.out _ h1).1), HS1.out⟩
        case round =>
          obtain ⟨k, cc, rfl, hk2, hk3, rfl, HCC, HS2⟩ := hrel
          have hcl : cc ≤ 254 := by
            have h1 := HRL.out
            have h2 : cn R (k : Int) ≤ R.length := List.length_filter_le _ _
            have h3 := HCC.out
            omega
          by_cases hkl : k ≤ 128
          · have HHA : Hid (Calls Tryz.prog 35 #[lv, .int .i64 (k : Int)] wr fun e w' => e = .returned (.bool (z.contains (k : Int))) ∧ w' = wr) := has_any lv z (k : Int) wr HS2.out.1.row HZL.out
            obtain ⟨⟨e1, e2⟩, ⟨e3, e4⟩⟩ := HS2.out.1.cells
            have q2 : (k : Int) ≤ 128 := by omega
            have q4 : (k : Int) + 1 ≤ 9223372036854775807 := by omega
            have q5 : (cc : Int) + 1 ≤ 9223372036854775807 := by omega
            have HKK : Hid (2 ≤ k ∧ k ≤ 128) := ⟨hk2, hkl⟩
            clear hk2 hk3 hkl hcl
            go_wp2_with fail
            refine HHA.out.mono ?_
            rintro e y ⟨rfl, hy⟩
            rw [hy]
            clear hy HHA y
            have hb0 := Kb.below_one wr (.cells #[.string m1, .slice o6 n6 c6] tG)
            have r1 := keepC hb0 e1 (World.block_lt_of_cell? wr _ e1)
            have r2 := keepC hb0 e2 (World.block_lt_of_cell? wr _ e2)
            clear hb0
            cases hz : z.contains (k : Int)
            · by_cases hq : ∃ q ∈ R, q.1 = (k : Int)
              · obtain ⟨q, hqR, hqk⟩ := hq
                have hm := (HRM.out q).1 hqR
                rw [hqk, hz, if_neg (by simp)] at hm
                have hcn := cn_hit HRU.out hqR
                rw [hqk] at hcn
                have hgt := gt_mem HUP2.out hm
                rw [hqk] at hgt
                have HCN : Hid _ := hcn
                have HGET : Hid (Calls Tryz.prog 36 #[.agg #[.string m1, .slice o6 n6 c6], .int .i64 (k : Int)] (wr.alloc (.cells #[.string m1, .slice o6 n6 c6] tG)) fun e w' => e = .returned (.tuple #[.string q.2, .bool true]) ∧ Below (wr.alloc (.cells #[.string m1, .slice o6 n6 c6] tG)).heap.size (wr.alloc (.cells #[.string m1, .slice o6 n6 c6] tG)) w') := by
                  have := get_flat m1 (.slice o6 n6 c6) x (k : Int) (wr.alloc (.cells #[.string m1, .slice o6 n6 c6] tG)) (rowf_below HS2.out.1.mx.row (Kb.below_one _ _)) HFO2.out.len
                  rwa [hgt] at this
                clear hcn hgt
                generalize cn R ((k : Nat) : Int) = CN at *
                go_wp2_with fail
                refine HGET.out.mono ?_
                rintro e y2 ⟨rfl, hb⟩
                have HS3 : Hid (Bk w y2 b mb gm gx lv (.slice o4 n4 c4) (.slice o6 n6 c6) z (kput nof n (some (Zc.kp z true T))) 1 1 T x ∧ y2.heap[gb]? = some (.cells #[.string m1, .slice o8 i c8] tG)) := ⟨HS2.out.1.below (keepB (Kb.below_one _ _) hb), kept hb (kept (Kb.below_one _ _) HS2.out.2)⟩
                clear hb HGET HS2
                go_wp2_with fail
                have hk9 := HKK.out
                refine ⟨⟨k + 1, cc + 1, by simp, by omega, by omega, by simp, ?_, HS3⟩, ?_⟩
                · rw [show ((k + 1 : Nat) : Int) = (k : Int) + 1 by simp]
                  exact HCN.out.trans (by rw [HCC.out])
                · simp only [intOf]
                  omega
              · have hcn := cn_miss (T := R) (n := (k : Int)) (fun q hqR e => hq ⟨q, hqR, e⟩)
                have hgt := gt_none (L := x) (n := (k : Int)) (fun q hqL e => hq ⟨q, (HRM.out q).2 (by rw [e, hz, if_neg (by simp)]; exact hqL), e⟩)
                have HCN : Hid _ := hcn
                have HGET : Hid (Calls Tryz.prog 36 #[.agg #[.string m1, .slice o6 n6 c6], .int .i64 (k : Int)] (wr.alloc (.cells #[.string m1, .slice o6 n6 c6] tG)) fun e w' => e = .returned (.tuple #[.string ⟨#[]⟩, .bool false]) ∧ Below (wr.alloc (.cells #[.string m1, .slice o6 n6 c6] tG)).heap.size (wr.alloc (.cells #[.string m1, .slice o6 n6 c6] tG)) w') := by
                  have := get_flat m1 (.slice o6 n6 c6) x (k : Int) (wr.alloc (.cells #[.string m1, .slice o6 n6 c6] tG)) (rowf_below HS2.out.1.mx.row (Kb.below_one _ _)) HFO2.out.len
                  rwa [hgt] at this
                clear hcn hgt
                generalize cn R ((k : Nat) : Int) = CN at *
                go_wp2_with fail
                refine HGET.out.mono ?_
                rintro e y2 ⟨rfl, hb⟩
                have HS3 : Hid (Bk w y2 b mb gm gx lv (.slice o4 n4 c4) (.slice o6 n6 c6) z (kput nof n (some (Zc.kp z true T))) 1 1 T x ∧ y2.heap[gb]? = some (.cells #[.string m1, .slice o8 i c8] tG)) := ⟨HS2.out.1.below (keepB (Kb.below_one _ _) hb), kept hb (kept (Kb.below_one _ _) HS2.out.2)⟩
                clear hb HGET HS2
                go_wp2_with fail
                have hk9 := HKK.out
                refine ⟨⟨k + 1, cc, by simp, by omega, by omega, rfl, ?_, HS3⟩, ?_⟩
                · rw [show ((k + 1 : Nat) : Int) = (k : Int) + 1 by simp]
                  exact HCN.out.trans (by rw [HCC.out])
                · simp only [intOf]
                  omega
            · by_cases hq : ∃ q ∈ R, q.1 = (k : Int)
              · obtain ⟨q, hqR, hqk⟩ := hq
                have hm := (HRM.out q).1 hqR
                rw [hqk, hz, if_pos rfl] at hm
                have hcn := cn_hit HRU.out hqR
                rw [hqk] at hcn
                have hgt := gt_mem HUP1.out hm
                rw [hqk] at hgt
                have HCN : Hid _ := hcn
                have HGET : Hid (Calls Tryz.prog 36 #[.agg #[.string m0, .slice o4 n4 c4], .int .i64 (k : Int)] (wr.alloc (.cells #[.string m0, .slice o4 n4 c4] tG)) fun e w' => e = .returned (.tuple #[.string q.2, .bool true]) ∧ Below (wr.alloc (.cells #[.string m0, .slice o4 n4 c4] tG)).heap.size (wr.alloc (.cells #[.string m0, .slice o4 n4 c4] tG)) w') := by
                  have := get_flat m0 (.slice o4 n4 c4) T (k : Int) (wr.alloc (.cells #[.string m0, .slice o4 n4 c4] tG)) (rowf_below HS2.out.1.mm.row (Kb.below_one _ _)) HFO1.out.len
                  rwa [hgt] at this
                clear hcn hgt
                generalize cn R ((k : Nat) : Int) = CN at *
                go_wp2_with fail
                refine HGET.out.mono ?_
                rintro e y2 ⟨rfl, hb⟩
                have HS3 : Hid (Bk w y2 b mb gm gx lv (.slice o4 n4 c4) (.slice o6 n6 c6) z (kput nof n (some (Zc.kp z true T))) 1 1 T x ∧ y2.heap[gb]? = some (.cells #[.string m1, .slice o8 i c8] tG)) := ⟨HS2.out.1.below (keepB (Kb.below_one _ _) hb), kept hb (kept (Kb.below_one _ _) HS2.out.2)⟩
                clear hb HGET HS2
                go_wp2_with fail
                have hk9 := HKK.out
                refine ⟨⟨k + 1, cc + 1, by simp, by omega, by omega, by simp, ?_, HS3⟩, ?_⟩
                · rw [show ((k + 1 : Nat) : Int) = (k : Int) + 1 by simp]
                  exact HCN.out.trans (by rw [HCC.out])
                · simp only [intOf]
                  omega
              · have hcn := cn_miss (T := R) (n := (k : Int)) (fun q hqR e => hq ⟨q, hqR, e⟩)
                have hgt := gt_none (L := T) (n := (k : Int)) (fun q hqL e => hq ⟨q, (HRM.out q).2 (by rw [e, hz, if_pos rfl]; exact hqL), e⟩)
                have HCN : Hid _ := hcn
                have HGET : Hid (Calls Tryz.prog 36 #[.agg #[.string m0, .slice o4 n4 c4], .int .i64 (k : Int)] (wr.alloc (.cells #[.string m0, .slice o4 n4 c4] tG)) fun e w' => e = .returned (.tuple #[.string ⟨#[]⟩, .bool false]) ∧ Below (wr.alloc (.cells #[.string m0, .slice o4 n4 c4] tG)).heap.size (wr.alloc (.cells #[.string m0, .slice o4 n4 c4] tG)) w') := by
                  have := get_flat m0 (.slice o4 n4 c4) T (k : Int) (wr.alloc (.cells #[.string m0, .slice o4 n4 c4] tG)) (rowf_below HS2.out.1.mm.row (Kb.below_one _ _)) HFO1.out.len
                  rwa [hgt] at this
                clear hcn hgt
                generalize cn R ((k : Nat) : Int) = CN at *
                go_wp2_with fail
                refine HGET.out.mono ?_
                rintro e y2 ⟨rfl, hb⟩
                have HS3 : Hid (Bk w y2 b mb gm gx lv (.slice o4 n4 c4) (.slice o6 n6 c6) z (kput nof n (some (Zc.kp z true T))) 1 1 T x ∧ y2.heap[gb]? = some (.cells #[.string m1, .slice o8 i c8] tG)) := ⟨HS2.out.1.below (keepB (Kb.below_one _ _) hb), kept hb (kept (Kb.below_one _ _) HS2.out.2)⟩
                clear hb HGET HS2
                go_wp2_with fail
                have hk9 := HKK.out
                refine ⟨⟨k + 1, cc, by simp, by omega, by omega, rfl, ?_, HS3⟩, ?_⟩
                · rw [show ((k + 1 : Nat) : Int) = (k : Int) + 1 by simp]
                  exact HCN.out.trans (by rw [HCC.out])
                · simp only [intOf]
                  omega
          · obtain rfl : k = 129 := by omega
            have hcc : cc = i := by
              rw [← HCC.out, ← HNR.out]
              exact cn_end (fun q hqR => by
                have h1 := (HRM.out q).1 hqR
                split at h1
                · exact (HRG1.out _ h1).2
                · exact (HRG2.out _ h1).2)
            subst hcc
            have hq9 : ¬ ((129 : Nat) : Int) ≤ 128 := by omega
            have HD1 := drop_e HS2.out.1.ec n HNB.out
            rw [HKN.out] at HD1
            simp only [Option.isSome_some, if_true] at HD1
            clear hk2 hk3 hkl hcl HCC
            go_wp2_with fail
            refine HD1.mono ?_
            rintro e y2 ⟨rfl, he, hf⟩
            have HS3 : Hid (Bk w y2 b mb gm gx lv (.slice o4 n4 c4) (.slice o6 n6 c6) z (kput (kput nof n (some (Zc.kp z true T))) n none) 0 1 T x ∧ y2.heap[gb]? = some (.cells #[.string m1, .slice o8 cc c8] tG)) := ⟨HS2.out.1.turn hf he, fr_blk HS2.out.1.ec hf HS2.out.2⟩
            clear he hf HD1 HS2
            have HKZ : Hid ((kput (kput nof n (some (Zc.kp z true T))) n none) n = none) := by show _ = _; simp [kput]
            have HD2 := drop_e HS3.out.1.ec n HNB.out
            rw [HKZ.out] at HD2
            simp only [Option.isSome_none, Bool.false_eq_true, if_false] at HD2
            go_wp2_with fail
            refine HD2.mono ?_
            rintro e y3 ⟨rfl, he, hf⟩
            have HS4 : Hid (Bk w y3 b mb gm gx lv (.slice o4 n4 c4) (.slice o6 n6 c6) z (kput (kput (kput nof n (some (Zc.kp z true T))) n none) n none) 0 1 T x ∧ y3.heap[gb]? = some (.cells #[.string m1, .slice o8 cc c8] tG)) := ⟨HS3.out.1.turn hf he, fr_blk HS3.out.1.ec hf HS3.out.2⟩
            clear he hf HD2 HS3
            have HKY : Hid (((kput (kput (kput nof n (some (Zc.kp z true T))) n none) n none) n).isSome = false) := by show _ = false; simp [kput]
            obtain ⟨⟨e1, e2⟩, ⟨e3, e4⟩⟩ := HS4.out.1.cells
            go_wp2_with fail
            clear e1 e2 e3 e4
            refine (Zj.restore_none HS4.out.1.ec n HNB.out HKY.out m1 _ x HS4.out.1.mx).mono ?_
            rintro e y4 ⟨v', rfl, ho, hb⟩
            obtain ⟨o9, c9, hv9, -⟩ := rowf_own ho
            subst hv9
            rw [HNX.out]
            have hb' : Below y3.heap.size y3 (y4.alloc (.cells #[.string m1, .slice o9 NX c9] tG)) := keepB hb (Kb.below_one _ _)
            have HS5 : Hid (Bk w (y4.alloc (.cells #[.string m1, .slice o9 NX c9] tG)) b mb gm gx lv (.slice o4 n4 c4) (.slice o6 n6 c6) z (kput (kput (kput nof n (some (Zc.kp z true T))) n none) n none) 0 1 T x ∧ (y4.alloc (.cells #[.string m1, .slice o9 NX c9] tG)).heap[gb]? = some (.cells #[.string m1, .slice o8 cc c8] tG)) := ⟨HS4.out.1.below hb', kept hb' HS4.out.2⟩
            have x9 : (y4.alloc (.cells #[.string m1, .slice o9 NX c9] tG)).cell? ⟨gb, 1, none⟩ = some (.slice o8 cc c8) := by have := HS5.out.2; simp [World.cell?, this]
            have HLE : Hid (Calls Tryz.prog 34 #[.pointer (some ⟨b, 0, none⟩)] (y4.alloc (.cells #[.string m1, .slice o9 NX c9] tG)) fun e w' => e = .returned (.int .i64 0) ∧ w' = (y4.alloc (.cells #[.string m1, .slice o9 NX c9] tG))) := len_e HS5.out.1.ec
            clear ho hb hb' HS4
            go_wp2_with fail
            refine HLE.out.mono ?_
            rintro e y ⟨rfl, hy⟩
            rw [hy]
            clear hy HLE
            go_wp2_with fail
            go_ret
            exact ⟨rfl, HS5.out.1.bel⟩
end Go.Proofs.YtmnoplaepjaokaaGreatDoor.Bh
