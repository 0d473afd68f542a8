/- TlvParses: the law out of the contracts; the frame of the row. -/
import Derived.Test.YtgidjfhlooggkaaRows
import Derived.WalkKit
import Derived.ProofKit
import Derived.OpenShut
import Derived.ShutString
import Derived.ChangeOld
import Derived.Below
import Derived.JoinedCond
import Derived.Carry
import Derived.SizedLaws
import Derived.Test.YtgidjfhlooggkaaKn
import Derived.Test.YtgidjfhlooggkaaSa
import Derived.Test.YtgidjfhlooggkaaRp
import Derived.Test.YtgidjfhlooggkaaBt
namespace Go.Proofs.Ytgidjfhlooggkaa.tlvParses
open Go.ChangeShapes Go.WideShapes Go.ChangeAt Go.RowKit
open Go.ChangeMaps (open_string shut_string)
set_option linter.unusedVariables false

theorem own : ownKnob Try.prog.godebug = none := by kernel_rfl

set_option maxRecDepth 100000 in
set_option maxHeartbeats 6400000 in
theorem walk (a0 : ByteArray) (w : World) (w0 : a0.size ≤ maxLen) (k0 : a0.size ≤ 140737488351232) :
    Calls Try.prog 3 #[.string a0] w fun e w' => e = .returned (.bool true) ∧ Below w.heap.size w w' := by
  have kn := Kn.known_any
  by_cases hbig : a0.size ≤ 12000
  case pos =>
    obtain ⟨s, HS, hs⟩ : ∃ s, Hid (a0 = s) ∧ s.size ≤ 12000 := ⟨_, rfl, by omega⟩
    obtain ⟨R, HR⟩ : ∃ R, Hid (Go_.parseR s = R) := ⟨_, rfl⟩
    have ps : ∀ y, Calls Try.prog 10 #[.string s] y (Bt.PostU y R) := fun y => by
      rw [← HR.out]
      exact (Go_.parse_any s y (by omega)).mono fun _ _ h => Bt.uni h
    have pd : ∀ y, Calls Try.prog 11 #[.string s] y (Bt.PostU y R) := fun y => by
      rw [← HR.out]
      exact (Rp.parse_doc s y (by omega)).mono fun _ _ h => Bt.uni h
    have HC : Hid (Ag.cnt (Bt.trs R) ≤ 500) := by show _ ≤ _; rw [← HR.out]; exact Bt.cnt_parse s
    have hbig' : ¬ 12000 < (a0.size : Int) := by omega
    obtain rfl := HS.out
    clear HS hbig
    clear hs HR
    go_enter Try.func3, Try.ntmps3
    go_wp2_with fail
    refine (kn _).mono ?_
    rintro e y0 ⟨rfl, h0⟩
    have H0 : Hid (Below w.heap.size w y0) := h0
    clear h0
    go_wp2_with fail
    refine (ps y0).mono ?_
    rintro _ y1 ⟨v1, a1, rfl, he1, ho1, h1⟩
    obtain ⟨o1, c1, rfl⟩ := ho1.form
    obtain ⟨n1, HN1⟩ : ∃ n, Hid (a1.length = n) := ⟨_, rfl⟩
    rw [HN1.out] at ho1 ⊢
    have HO1 : Hid (Nt.Own y1 y0.heap.size (.slice o1 n1 c1) a1) := ho1
    have HE1 : Hid (Nt.er a1 = Bt.trs R) := he1
    have H1 : Hid (Below y0.heap.size y0 y1) := h1
    clear ho1 he1 h1
    go_wp2_with fail
    refine (ps y1).mono ?_
    rintro _ y2 ⟨v2, a2, rfl, he2, ho2, h2⟩
    obtain ⟨o2, c2, rfl⟩ := ho2.form
    obtain ⟨n2, HN2⟩ : ∃ n, Hid (a2.length = n) := ⟨_, rfl⟩
    rw [HN2.out] at ho2 ⊢
    have HO2 : Hid (Nt.Own y2 y1.heap.size (.slice o2 n2 c2) a2) := ho2
    have HE2 : Hid (Nt.er a2 = Bt.trs R) := he2
    have H2 : Hid (Below y1.heap.size y1 y2) := h2
    clear ho2 he2 h2
    go_wp2_with fail
    refine (pd y2).mono ?_
    rintro _ y3 ⟨v3, a3, rfl, he3, ho3, h3⟩
    obtain ⟨o3, c3, rfl⟩ := ho3.form
    obtain ⟨n3, HN3⟩ : ∃ n, Hid (a3.length = n) := ⟨_, rfl⟩
    rw [HN3.out] at ho3 ⊢
    have HO3 : Hid (Nt.Own y3 y2.heap.size (.slice o3 n3 c3) a3) := ho3
    have HE3 : Hid (Nt.er a3 = Bt.trs R) := he3
    have H3 : Hid (Below y2.heap.size y2 y3) := h3
    clear ho3 he3 h3
    go_wp2_with fail
    have k13 := Sa.same_any a1 a3 _ _ y3 (HO1.out.reads.below (Kb.keepB H2.out H3.out)) HO3.out.reads
    rw [(Sa.smB_er a1 a3).2 (HE1.out.trans HE3.out.symm)] at k13
    refine k13.mono ?_
    clear k13
    rintro _ y4 ⟨rfl, Hy4⟩
    replace Hy4 : Hid (Below y3.heap.size y3 y4) := Hy4
    go_wp2_with fail
    have k23 := Sa.same_any a2 a3 _ _ y4 (HO2.out.reads.below (Kb.keepB H3.out Hy4.out)) (HO3.out.reads.below Hy4.out)
    rw [(Sa.smB_er a2 a3).2 (HE2.out.trans HE3.out.symm)] at k23
    refine k23.mono ?_
    clear k23
    rintro _ y5 ⟨rfl, Hy5⟩
    replace Hy5 : Hid (Below y4.heap.size y4 y5) := Hy5
    go_wp2_with fail
    have hc1 : (Li.lsK a1).length ≤ 500 := by rw [Bt.ls_cnt, HE1.out]; exact HC.out
    have hc2 : (Li.lsK a2).length ≤ 500 := by rw [Bt.ls_cnt, HE2.out]; exact HC.out
    have H35 : Below y3.heap.size y3 y5 := Kb.keepB Hy4.out Hy5.out
    have H25 := Kb.keepB H3.out H35
    have H15 := Kb.keepB H2.out H25
    have B67 := Kb.below_two y5 (.cells #[.slice none 0 0, .slice none 0 0] 32) (.cells #[.slice o1 n1 c1, .slice o2 n2 c2] 23)
    have HCH : Bt.Ch ((y5.alloc (.cells #[.slice none 0 0, .slice none 0 0] 32)).alloc (.cells #[.slice o1 n1 c1, .slice o2 n2 c2] 23)) y0.heap.size [(.slice o1 n1 c1, a1), (.slice o2 n2 c2, a2)] :=
      ⟨y0.heap.size, y1.heap.size, Nat.le_refl _, H1.out.size, HO1.out.below (Kb.keepB H15 B67), fun q hq => (HO1.out.lt q hq).2, y1.heap.size, y2.heap.size, Nat.le_refl _, H2.out.size, HO2.out.below (Kb.keepB H25 B67), fun q hq => (HO2.out.lt q hq).2, trivial⟩
    have ow := Bq.owns_any (Bt.ins_of (g0 := y5.heap.size) (ta := ⟨y5.heap.size + 1, 0, none⟩) HCH (Kb.h2_0 _ _ _) (fun i hi => by
        have hR := Kb.h2_1 y5 (.cells #[.slice none 0 0, .slice none 0 0] 32) (.cells #[.slice o1 n1 c1, .slice o2 n2 c2] 23)
        match i, hi with
        | 0, _ => rw [Nt.add0]; exact (Bp.cells2 hR).1.1
        | 1, _ => rw [Nt.add0]; exact (Bp.cells2 hR).1.2) (by simp only [Bq.alls, List.length_append, List.length_cons, List.length_nil]; omega)) 2 (by simp)
    have HFL : Hid (∀ b ∈ y5.heap.size :: Bo.obs (Bq.alls [(.slice o1 n1 c1, a1), (.slice o2 n2 c2, a2)]), y0.heap.size ≤ b ∧ (b < y2.heap.size ∨ y3.heap.size ≤ b)) := fun b hb => by
      have e0 := Bt.obs_ch HCH (g0 := y5.heap.size) (by have := H15.size; have := H1.out.size; omega) b hb
      refine ⟨e0, ?_⟩
      rcases List.mem_cons.1 hb with rfl | hb
      · exact .inr H35.size
      · rw [Bt.obs_alls, Bt.obs_alls] at hb
        rcases List.mem_append.1 hb with hb | hb
        · have := (HO1.out.lt b hb).2; have := H2.out.size; exact .inl (by omega)
        · rcases List.mem_append.1 hb with hb | hb
          · exact .inl (HO2.out.lt b hb).2
          · simp [Bq.alls, Bo.obs] at hb
    have HO3' : Hid (Nt.Own ((y5.alloc (.cells #[.slice none 0 0, .slice none 0 0] 32)).alloc (.cells #[.slice o1 n1 c1, .slice o2 n2 c2] 23)) y2.heap.size (.slice o3 n3 c3) a3) := HO3.out.below (Kb.keepB H35 B67)
    have HW7 : Hid (Below w.heap.size w ((y5.alloc (.cells #[.slice none 0 0, .slice none 0 0] 32)).alloc (.cells #[.slice o1 n1 c1, .slice o2 n2 c2] 23))) := Kb.keepB (Kb.keepB (Kb.keepB H0.out H1.out) H15) B67
    have h37 : y3.heap.size ≤ ((y5.alloc (.cells #[.slice none 0 0, .slice none 0 0] 32)).alloc (.cells #[.slice o1 n1 c1, .slice o2 n2 c2] 23)).heap.size := by have := H35.size; have := B67.size; omega
    have h2y : y2.heap.size ≤ y3.heap.size := H3.out.size
    have hw0 : w.heap.size ≤ y0.heap.size := H0.out.size
    have HOW : Hid (Calls _ _ _ _ _) := ow
    have HB3 : Hid (∀ q ∈ (Value.slice o3 n3 c3).ownBlock.toList ++ Nt.fp a3, q < y3.heap.size) := fun q hq => (HO3.out.lt q hq).2
    clear ow HCH B67 H15 H25 H35 hc1 hc2 HO1 HO2 HO3
    generalize (y5.alloc (.cells #[.slice none 0 0, .slice none 0 0] 32)).alloc (.cells #[.slice o1 n1 c1, .slice o2 n2 c2] 23) = y7 at *
    refine HOW.out.mono ?_
    clear HOW
    intro e y8 hout
    obtain ⟨rfl, ⟨E, lv, mv, hh⟩, hfr⟩ := Bt.held_of hout
    have HO8 : Hid (Nt.Own y8 y2.heap.size (.slice o3 n3 c3) a3) := Bt.own_fr' HO3'.out HB3.out hfr HFL.out
    have HW8 : Hid (Below w.heap.size w y8) := Bt.fr_below HW7.out HW7.out.size hfr fun b hb => Nat.le_trans hw0 (HFL.out b hb).1
    have ks := Bs.still_any hh
    clear hout hfr HO3' HW7 HFL hh h37
    go_wp2_with fail
    refine ks.mono ?_
    rintro _ y9 ⟨rfl, H9⟩
    replace H9 : Hid (Below y8.heap.size y8 y9) := H9
    clear ks
    go_wp2_with fail
    refine (ps y9).mono ?_
    rintro _ y10 ⟨v10, a10, rfl, he10, ho10, h10⟩
    obtain ⟨o10, c10, rfl⟩ := ho10.form
    obtain ⟨n10, HN10⟩ : ∃ n, Hid (a10.length = n) := ⟨_, rfl⟩
    rw [HN10.out] at ho10 ⊢
    have HO10 : Hid (Nt.Own y10 y9.heap.size (.slice o10 n10 c10) a10) := ho10
    have HE10 : Hid (Nt.er a10 = Bt.trs R) := he10
    have H10 : Hid (Below y9.heap.size y9 y10) := h10
    clear ho10 he10 h10
    go_wp2_with fail
    have k103 := Sa.same_any a10 a3 _ _ y10 HO10.out.reads (HO8.out.reads.below (Kb.keepB H9.out H10.out))
    rw [(Sa.smB_er a10 a3).2 (HE10.out.trans HE3.out.symm)] at k103
    refine k103.mono ?_
    clear k103
    rintro _ y11 ⟨rfl, Hy11⟩
    replace Hy11 : Hid (Below y10.heap.size y10 y11) := Hy11
    go_wp2_with fail
    go_ret
    exact ⟨by simp, Kb.keepB (Kb.keepB (Kb.keepB HW8.out H9.out) H10.out) Hy11.out⟩
  obtain ⟨s, HS, hs⟩ : ∃ s, Hid (a0.extract 0 12000 = s) ∧ s.size ≤ 12000 := ⟨_, rfl, by rw [ByteArray.size_extract]; omega⟩
  obtain ⟨R, HR⟩ : ∃ R, Hid (Go_.parseR s = R) := ⟨_, rfl⟩
  have ps : ∀ y, Calls Try.prog 10 #[.string s] y (Bt.PostU y R) := fun y => by
    rw [← HR.out]
    exact (Go_.parse_any s y (by omega)).mono fun _ _ h => Bt.uni h
  have pd : ∀ y, Calls Try.prog 11 #[.string s] y (Bt.PostU y R) := fun y => by
    rw [← HR.out]
    exact (Rp.parse_doc s y (by omega)).mono fun _ _ h => Bt.uni h
  have HC : Hid (Ag.cnt (Bt.trs R) ≤ 500) := by show _ ≤ _; rw [← HR.out]; exact Bt.cnt_parse s
  have hbig' : 12000 < (a0.size : Int) := by omega
  clear hbig
  clear hs HR
  go_enter Try.func3, Try.ntmps3
  go_wp2_with fail
  refine (kn _).mono ?_
  rintro e y0 ⟨rfl, h0⟩
  have H0 : Hid (Below w.heap.size w y0) := h0
  clear h0
  go_wp2_with fail
  rw [HS.out]
  refine (ps y0).mono ?_
  rintro _ y1 ⟨v1, a1, rfl, he1, ho1, h1⟩
  obtain ⟨o1, c1, rfl⟩ := ho1.form
  obtain ⟨n1, HN1⟩ : ∃ n, Hid (a1.length = n) := ⟨_, rfl⟩
  rw [HN1.out] at ho1 ⊢
  have HO1 : Hid (Nt.Own y1 y0.heap.size (.slice o1 n1 c1) a1) := ho1
  have HE1 : Hid (Nt.er a1 = Bt.trs R) := he1
  have H1 : Hid (Below y0.heap.size y0 y1) := h1
  clear ho1 he1 h1
  go_wp2_with fail
  refine (ps y1).mono ?_
  rintro _ y2 ⟨v2, a2, rfl, he2, ho2, h2⟩
  obtain ⟨o2, c2, rfl⟩ := ho2.form
  obtain ⟨n2, HN2⟩ : ∃ n, Hid (a2.length = n) := ⟨_, rfl⟩
  rw [HN2.out] at ho2 ⊢
  have HO2 : Hid (Nt.Own y2 y1.heap.size (.slice o2 n2 c2) a2) := ho2
  have HE2 : Hid (Nt.er a2 = Bt.trs R) := he2
  have H2 : Hid (Below y1.heap.size y1 y2) := h2
  clear ho2 he2 h2
  go_wp2_with fail
  refine (pd y2).mono ?_
  rintro _ y3 ⟨v3, a3, rfl, he3, ho3, h3⟩
  obtain ⟨o3, c3, rfl⟩ := ho3.form
  obtain ⟨n3, HN3⟩ : ∃ n, Hid (a3.length = n) := ⟨_, rfl⟩
  rw [HN3.out] at ho3 ⊢
  have HO3 : Hid (Nt.Own y3 y2.heap.size (.slice o3 n3 c3) a3) := ho3
  have HE3 : Hid (Nt.er a3 = Bt.trs R) := he3
  have H3 : Hid (Below y2.heap.size y2 y3) := h3
  clear ho3 he3 h3
  go_wp2_with fail
  have k13 := Sa.same_any a1 a3 _ _ y3 (HO1.out.reads.below (Kb.keepB H2.out H3.out)) HO3.out.reads
  rw [(Sa.smB_er a1 a3).2 (HE1.out.trans HE3.out.symm)] at k13
  refine k13.mono ?_
  clear k13
  rintro _ y4 ⟨rfl, Hy4⟩
  replace Hy4 : Hid (Below y3.heap.size y3 y4) := Hy4
  go_wp2_with fail
  have k23 := Sa.same_any a2 a3 _ _ y4 (HO2.out.reads.below (Kb.keepB H3.out Hy4.out)) (HO3.out.reads.below Hy4.out)
  rw [(Sa.smB_er a2 a3).2 (HE2.out.trans HE3.out.symm)] at k23
  refine k23.mono ?_
  clear k23
  rintro _ y5 ⟨rfl, Hy5⟩
  replace Hy5 : Hid (Below y4.heap.size y4 y5) := Hy5
  go_wp2_with fail
  have hc1 : (Li.lsK a1).length ≤ 500 := by rw [Bt.ls_cnt, HE1.out]; exact HC.out
  have hc2 : (Li.lsK a2).length ≤ 500 := by rw [Bt.ls_cnt, HE2.out]; exact HC.out
  have H35 : Below y3.heap.size y3 y5 := Kb.keepB Hy4.out Hy5.out
  have H25 := Kb.keepB H3.out H35
  have H15 := Kb.keepB H2.out H25
  have B67 := Kb.below_two y5 (.cells #[.slice none 0 0, .slice none 0 0] 32) (.cells #[.slice o1 n1 c1, .slice o2 n2 c2] 23)
  have HCH : Bt.Ch ((y5.alloc (.cells #[.slice none 0 0, .slice none 0 0] 32)).alloc (.cells #[.slice o1 n1 c1, .slice o2 n2 c2] 23)) y0.heap.size [(.slice o1 n1 c1, a1), (.slice o2 n2 c2, a2)] :=
    ⟨y0.heap.size, y1.heap.size, Nat.le_refl _, H1.out.size, HO1.out.below (Kb.keepB H15 B67), fun q hq => (HO1.out.lt q hq).2, y1.heap.size, y2.heap.size, Nat.le_refl _, H2.out.size, HO2.out.below (Kb.keepB H25 B67), fun q hq => (HO2.out.lt q hq).2, trivial⟩
  have ow := Bq.owns_any (Bt.ins_of (g0 := y5.heap.size) (ta := ⟨y5.heap.size + 1, 0, none⟩) HCH (Kb.h2_0 _ _ _) (fun i hi => by
      have hR := Kb.h2_1 y5 (.cells #[.slice none 0 0, .slice none 0 0] 32) (.cells #[.slice o1 n1 c1, .slice o2 n2 c2] 23)
      match i, hi with
      | 0, _ => rw [Nt.add0]; exact (Bp.cells2 hR).1.1
      | 1, _ => rw [Nt.add0]; exact (Bp.cells2 hR).1.2) (by simp only [Bq.alls, List.length_append, List.length_cons, List.length_nil]; omega)) 2 (by simp)
  have HFL : Hid (∀ b ∈ y5.heap.size :: Bo.obs (Bq.alls [(.slice o1 n1 c1, a1), (.slice o2 n2 c2, a2)]), y0.heap.size ≤ b ∧ (b < y2.heap.size ∨ y3.heap.size ≤ b)) := fun b hb => by
    have e0 := Bt.obs_ch HCH (g0 := y5.heap.size) (by have := H15.size; have := H1.out.size; omega) b hb
    refine ⟨e0, ?_⟩
    rcases List.mem_cons.1 hb with rfl | hb
    · exact .inr H35.size
    · rw [Bt.obs_alls, Bt.obs_alls] at hb
      rcases List.mem_append.1 hb with hb | hb
      · have := (HO1.out.lt b hb).2; have := H2.out.size; exact .inl (by omega)
      · rcases List.mem_append.1 hb with hb | hb
        · exact .inl (HO2.out.lt b hb).2
        · simp [Bq.alls, Bo.obs] at hb
  have HO3' : Hid (Nt.Own ((y5.alloc (.cells #[.slice none 0 0, .slice none 0 0] 32)).alloc (.cells #[.slice o1 n1 c1, .slice o2 n2 c2] 23)) y2.heap.size (.slice o3 n3 c3) a3) := HO3.out.below (Kb.keepB H35 B67)
  have HW7 : Hid (Below w.heap.size w ((y5.alloc (.cells #[.slice none 0 0, .slice none 0 0] 32)).alloc (.cells #[.slice o1 n1 c1, .slice o2 n2 c2] 23))) := Kb.keepB (Kb.keepB (Kb.keepB H0.out H1.out) H15) B67
  have h37 : y3.heap.size ≤ ((y5.alloc (.cells #[.slice none 0 0, .slice none 0 0] 32)).alloc (.cells #[.slice o1 n1 c1, .slice o2 n2 c2] 23)).heap.size := by have := H35.size; have := B67.size; omega
  have h2y : y2.heap.size ≤ y3.heap.size := H3.out.size
  have hw0 : w.heap.size ≤ y0.heap.size := H0.out.size
  have HOW : Hid (Calls _ _ _ _ _) := ow
  have HB3 : Hid (∀ q ∈ (Value.slice o3 n3 c3).ownBlock.toList ++ Nt.fp a3, q < y3.heap.size) := fun q hq => (HO3.out.lt q hq).2
  clear ow HCH B67 H15 H25 H35 hc1 hc2 HO1 HO2 HO3
  generalize (y5.alloc (.cells #[.slice none 0 0, .slice none 0 0] 32)).alloc (.cells #[.slice o1 n1 c1, .slice o2 n2 c2] 23) = y7 at *
  refine HOW.out.mono ?_
  clear HOW
  intro e y8 hout
  obtain ⟨rfl, ⟨E, lv, mv, hh⟩, hfr⟩ := Bt.held_of hout
  have HO8 : Hid (Nt.Own y8 y2.heap.size (.slice o3 n3 c3) a3) := Bt.own_fr' HO3'.out HB3.out hfr HFL.out
  have HW8 : Hid (Below w.heap.size w y8) := Bt.fr_below HW7.out HW7.out.size hfr fun b hb => Nat.le_trans hw0 (HFL.out b hb).1
  have ks := Bs.still_any hh
  clear hout hfr HO3' HW7 HFL hh h37
  go_wp2_with fail
  refine ks.mono ?_
  rintro _ y9 ⟨rfl, H9⟩
  replace H9 : Hid (Below y8.heap.size y8 y9) := H9
  clear ks
  go_wp2_with fail
  refine (ps y9).mono ?_
  rintro _ y10 ⟨v10, a10, rfl, he10, ho10, h10⟩
  obtain ⟨o10, c10, rfl⟩ := ho10.form
  obtain ⟨n10, HN10⟩ : ∃ n, Hid (a10.length = n) := ⟨_, rfl⟩
  rw [HN10.out] at ho10 ⊢
  have HO10 : Hid (Nt.Own y10 y9.heap.size (.slice o10 n10 c10) a10) := ho10
  have HE10 : Hid (Nt.er a10 = Bt.trs R) := he10
  have H10 : Hid (Below y9.heap.size y9 y10) := h10
  clear ho10 he10 h10
  go_wp2_with fail
  have k103 := Sa.same_any a10 a3 _ _ y10 HO10.out.reads (HO8.out.reads.below (Kb.keepB H9.out H10.out))
  rw [(Sa.smB_er a10 a3).2 (HE10.out.trans HE3.out.symm)] at k103
  refine k103.mono ?_
  clear k103
  rintro _ y11 ⟨rfl, Hy11⟩
  replace Hy11 : Hid (Below y10.heap.size y10 y11) := Hy11
  go_wp2_with fail
  go_ret
  exact ⟨by simp, Kb.keepB (Kb.keepB (Kb.keepB HW8.out H9.out) H10.out) Hy11.out⟩

set_option maxRecDepth 100000 in
theorem contract (H : Type) (enc : TypeId × Value → H) (W : World) (base : Nat) (args : Array Value) (ds gs : List (DataW H)) (before : List MemPlace)
    (hval : ∀ (j : Nat) t v, Try.f3.params[j]? = some t → args[j]? = some v → Value.okWide Try.prog W .any base t v)
    (hW : DataW.Whole enc Try.prog Try.f3.params.toList Rows.tlvParsesSpec.vars false W args.toList ds gs before) (hsz : (DataW.weightsEach Try.prog (Try.f3.params.toList ++ Rows.tlvParsesSpec.plain.varTypes Try.prog) (ds ++ gs)).all (· ≤ reachBytes) = true) :
    Calls Try.prog 3 args W fun e W' => ∃ v, e = .returned v ∧ Rows.tlvParsesSpec.post enc Try.prog Try.f3 false true false false W args v W' := by
  have hW' := hW
  obtain ⟨p, q, hA0, hV, rfl, hfz, hnd⟩ := hW
  have hA : DataW.TrodAll enc Try.prog W 0 (fun _ => true) true Try.f3.params.toList args.toList ds p := hA0
  rw [Try.params3] at hA hval
  obtain ⟨v0, vs0, d0, ds0, p0, q0, hargs, rfl, rfl, h0, r0⟩ := trodAll_cons hA
  obtain ⟨rfl, rfl, rfl⟩ := trodAll_nil r0
  obtain rfl : args = #[v0] := by cases args; simp_all
  obtain ⟨rfl, rfl⟩ := trodVars_none hV
  obtain ⟨a0, rfl, rfl, rfl, w0⟩ := open_string Try.underlying9 (hval 0 9 v0 rfl rfl) h0
  clear hA0
  have e0 : a0.data.toList.length = a0.size := by rw [Array.length_toList]; rfl
  have g0 : a0.data.toList.length ≤ 140737488351232 := sized_string hsz (j := 0) (t := 9) rfl rfl
  refine (walk a0 W w0 (by omega)).mono fun e W' ⟨he, bel⟩ => ?_
  subst he
  exact ⟨_, rfl, _, _, _, [], _, [], hW', trodAll_mk1 (shut_bool Try.underlying4 _), (trodAll_cons_mk (shut_string Try.underlying9 w0) trodAll_mk0), rfl, bel.frame _, fun h => by cases h⟩

set_option maxRecDepth 100000 in
theorem lifted (os : Os) (started : os.Started) (H : Type) (enc : TypeId × Value → H) :
    ReturnsInHanded {} Try.checked os 3 .any (Rows.tlvParsesSpec.pre6 enc Try.prog Try.f3 Rows.tlvParsesRow.domain false) (Rows.tlvParsesSpec.post enc Try.prog Try.f3 false true false false) := by
  refine returnsInHanded_of_change_sized (C := Try.checked) own started (by kernel_rfl) Try.func3
    (ChangeSpec.witness6 (enc := enc) (C := Try.checked) false ⟨#[], #[.string .empty], []⟩ 8 (by kernel_rfl) (by kernel_rfl) (by kernel_rfl) (by kernel_rfl)) ?_
  intro W base args ds gs before hval hW _ hsz _
  exact contract H enc W base args ds gs before hval hW hsz

theorem proved : Rows.TlvParsesSaid :=
  OpenClaim.holds_of_wide 3 Try.f3 rfl rfl rfl rfl rfl rfl rfl ⟨rfl, rfl, rfl, rfl, rfl⟩ rfl rfl rfl rfl rfl (by kernel_rfl) Try.func3 (by kernel_rfl)
    (of_decide_eq_true (by kernel_rfl)) (by unfold Func.isWrapper; first | (rw [if_pos (by decide +kernel)]; kernel_rfl) | (rw [if_neg (by decide +kernel)]; exact ⟨rfl, rfl⟩))
    (fun os started H enc _ => lifted os started H enc)
#print axioms proved
end Go.Proofs.Ytgidjfhlooggkaa.tlvParses
