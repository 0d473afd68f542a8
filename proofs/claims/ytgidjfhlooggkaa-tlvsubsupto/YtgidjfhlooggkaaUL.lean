/- TlvSubs: the law out of the contracts; the frame of the row. -/
import Derived.Test.YtgidjfhlooggkaaRows
import Derived.WalkKit
import Derived.ProofKit
import Derived.OpenShut
import Derived.ShutString
import Derived.ChangeOld
import Derived.Below
import Derived.JoinedCond
import Derived.Carry
import Derived.SizedLaws
import Derived.Test.YtgidjfhlooggkaaKn
import Derived.Test.YtgidjfhlooggkaaSa
import Derived.Test.YtgidjfhlooggkaaBt
import Derived.Test.YtgidjfhlooggkaaOn
import Derived.Test.YtgidjfhlooggkaaFt
import Derived.Test.YtgidjfhlooggkaaLc
import Derived.Test.YtgidjfhlooggkaaRv
namespace Go.Proofs.Ytgidjfhlooggkaa.tlvSubs
open Go.ChangeShapes Go.WideShapes Go.ChangeAt Go.RowKit
open Go.ChangeMaps (open_string shut_string)
set_option linter.unusedVariables false

theorem own : ownKnob Try.prog.godebug = none := by kernel_rfl

set_option maxRecDepth 100000 in
set_option maxHeartbeats 6400000 in
theorem walk (a0 : ByteArray) (v1 : Value) (ts1 : List Nt.AT) (w : World) (w0 : a0.size ≤ maxLen) (w1 : Nt.Rdn w v1 ts1) (k0 : a0.size ≤ 1048576) :
    Calls Try.prog 5 #[.string a0, v1] w fun e w' => e = .returned (.bool true) ∧ Below w.heap.size w w' := by
  have kn := Kn.known_any
  have HLL : Hid (Nt.Rdn w v1 ts1) := w1
  obtain ⟨lo, lc, el, hlN, -⟩ := w1.row
  obtain ⟨NL, HNL⟩ : ∃ N, Hid (ts1.length = N) := ⟨_, rfl⟩
  rw [HNL.out] at el
  subst el
  have HL : Hid (Nt.Rdn w (.slice lo NL lc) ts1) := HLL.out
  clear HLL w1 hlN
  by_cases hbig : a0.size ≤ 12000
  case pos =>
    obtain ⟨s, HS, hs⟩ : ∃ s, Hid (a0 = s) ∧ s.size ≤ 12000 := ⟨_, rfl, by omega⟩
    obtain ⟨R, HR⟩ : ∃ R, Hid (Go_.parseS s = R) := ⟨_, rfl⟩
    have ps : ∀ y, Calls Try.prog 20 #[.string s] y (Bt.PostU y R) := fun y => by
      rw [← HR.out]
      exact (Go_.parseSub_any s y (by omega)).mono fun _ _ h => Bt.uni h
    have pd : ∀ y, Calls Try.prog 21 #[.string s] y (Bt.PostU y R) := fun y => by
      rw [← HR.out]
      exact (Rt.parseSub_doc s y (by omega)).mono fun _ _ h => Bt.uni h
    have HC : Hid (Ag.cnt (Bt.trs R) ≤ 500) := by show _ ≤ _; rw [← HR.out]; exact Lc.cnt_subs s
    have hbig' : ¬ 12000 < (a0.size : Int) := by omega
    obtain rfl := HS.out
    clear HS hbig
    clear hs HR
    go_enter Try.func5, Try.ntmps5
    go_wp2_with fail
    refine (kn _).mono ?_
    rintro e y0 ⟨rfl, h0⟩
    have H0 : Hid (Below w.heap.size w y0) := h0
    clear h0
    go_wp2_with fail
    refine (Ft.small_any ts1 _ y0 (HL.out.below H0.out)).mono ?_
    rintro _ yS ⟨fit, rfl, hS, HFT⟩
    have HS0 : Hid (Below w.heap.size w yS) := Kb.keepB H0.out hS
    clear hS HFT H0 y0
    cases fit with
    | false =>
      go_wp2
      go_ret
      exact ⟨rfl, HS0.out⟩
    | true =>
      go_wp2_with fail
      refine (ps yS).mono ?_
      rintro _ y1 ⟨v11_, a11_, rfl, he11_, ho11_, h11_⟩
      obtain ⟨o11_, c11_, rfl⟩ := ho11_.form
      obtain ⟨n11_, HN11_⟩ : ∃ n, Hid (a11_.length = n) := ⟨_, rfl⟩
      rw [HN11_.out] at ho11_ ⊢
      have HO11_ : Hid (Nt.Own y1 yS.heap.size (.slice o11_ n11_ c11_) a11_) := ho11_
      have HE11_ : Hid (Nt.er a11_ = Bt.trs R) := he11_
      have H11_ : Hid (Below yS.heap.size yS y1) := h11_
      clear ho11_ he11_ h11_
      go_wp2_with fail
      refine (ps y1).mono ?_
      rintro _ y2 ⟨v12_, a12_, rfl, he12_, ho12_, h12_⟩
      obtain ⟨o12_, c12_, rfl⟩ := ho12_.form
      obtain ⟨n12_, HN12_⟩ : ∃ n, Hid (a12_.length = n) := ⟨_, rfl⟩
      rw [HN12_.out] at ho12_ ⊢
      have HO12_ : Hid (Nt.Own y2 y1.heap.size (.slice o12_ n12_ c12_) a12_) := ho12_
      have HE12_ : Hid (Nt.er a12_ = Bt.trs R) := he12_
      have H12_ : Hid (Below y1.heap.size y1 y2) := h12_
      clear ho12_ he12_ h12_
      go_wp2_with fail
      refine (pd y2).mono ?_
      rintro _ y3 ⟨v13_, a13_, rfl, he13_, ho13_, h13_⟩
      obtain ⟨o13_, c13_, rfl⟩ := ho13_.form
      obtain ⟨n13_, HN13_⟩ : ∃ n, Hid (a13_.length = n) := ⟨_, rfl⟩
      rw [HN13_.out] at ho13_ ⊢
      have HO13_ : Hid (Nt.Own y3 y2.heap.size (.slice o13_ n13_ c13_) a13_) := ho13_
      have HE13_ : Hid (Nt.er a13_ = Bt.trs R) := he13_
      have H13_ : Hid (Below y2.heap.size y2 y3) := h13_
      clear ho13_ he13_ h13_
      go_wp2_with fail
      have k13 := Sa.same_any a11_ a13_ _ _ y3 (HO11_.out.reads.below (Kb.keepB H12_.out H13_.out)) HO13_.out.reads
      rw [(Sa.smB_er a11_ a13_).2 (HE11_.out.trans HE13_.out.symm)] at k13
      refine k13.mono ?_
      clear k13
      rintro _ y4 ⟨rfl, Hy4⟩
      replace Hy4 : Hid (Below y3.heap.size y3 y4) := Hy4
      go_wp2_with fail
      have k23 := Sa.same_any a12_ a13_ _ _ y4 (HO12_.out.reads.below (Kb.keepB H13_.out Hy4.out)) (HO13_.out.reads.below Hy4.out)
      rw [(Sa.smB_er a12_ a13_).2 (HE12_.out.trans HE13_.out.symm)] at k23
      refine k23.mono ?_
      clear k23
      rintro _ y5 ⟨rfl, Hy5⟩
      replace Hy5 : Hid (Below y4.heap.size y4 y5) := Hy5
      go_wp2_with fail
      have hc1 : (Li.lsK a11_).length ≤ 500 := by rw [Bt.ls_cnt, HE11_.out]; exact HC.out
      have hc2 : (Li.lsK a12_).length ≤ 500 := by rw [Bt.ls_cnt, HE12_.out]; exact HC.out
      have H35 : Below y3.heap.size y3 y5 := Kb.keepB Hy4.out Hy5.out
      have H25 := Kb.keepB H13_.out H35
      have H15 := Kb.keepB H12_.out H25
      have B67 := Kb.below_two y5 (.cells #[.slice none 0 0, .slice none 0 0] 32) (.cells #[.slice o11_ n11_ c11_, .slice o12_ n12_ c12_] 23)
      have HCH : Bt.Ch ((y5.alloc (.cells #[.slice none 0 0, .slice none 0 0] 32)).alloc (.cells #[.slice o11_ n11_ c11_, .slice o12_ n12_ c12_] 23)) yS.heap.size [(.slice o11_ n11_ c11_, a11_), (.slice o12_ n12_ c12_, a12_)] :=
        ⟨yS.heap.size, y1.heap.size, Nat.le_refl _, H11_.out.size, HO11_.out.below (Kb.keepB H15 B67), fun q hq => (HO11_.out.lt q hq).2, y1.heap.size, y2.heap.size, Nat.le_refl _, H12_.out.size, HO12_.out.below (Kb.keepB H25 B67), fun q hq => (HO12_.out.lt q hq).2, trivial⟩
      have ow := Bq.owns_any (Bt.ins_of (g0 := y5.heap.size) (ta := ⟨y5.heap.size + 1, 0, none⟩) HCH (Kb.h2_0 _ _ _) (fun i hi => by
          have hR := Kb.h2_1 y5 (.cells #[.slice none 0 0, .slice none 0 0] 32) (.cells #[.slice o11_ n11_ c11_, .slice o12_ n12_ c12_] 23)
          match i, hi with
          | 0, _ => rw [Nt.add0]; exact (Bp.cells2 hR).1.1
          | 1, _ => rw [Nt.add0]; exact (Bp.cells2 hR).1.2) (by simp only [Bq.alls, List.length_append, List.length_cons, List.length_nil]; omega)) 2 (by simp)
      have HFL : Hid (∀ b ∈ y5.heap.size :: Bo.obs (Bq.alls [(.slice o11_ n11_ c11_, a11_), (.slice o12_ n12_ c12_, a12_)]), yS.heap.size ≤ b ∧ (b < y2.heap.size ∨ y3.heap.size ≤ b)) := fun b hb => by
        have e0 := Bt.obs_ch HCH (g0 := y5.heap.size) (by have := H15.size; have := H11_.out.size; omega) b hb
        refine ⟨e0, ?_⟩
        rcases List.mem_cons.1 hb with rfl | hb
        · exact .inr H35.size
        · rw [Bt.obs_alls, Bt.obs_alls] at hb
          rcases List.mem_append.1 hb with hb | hb
          · have := (HO11_.out.lt b hb).2; have := H12_.out.size; exact .inl (by omega)
          · rcases List.mem_append.1 hb with hb | hb
            · exact .inl (HO12_.out.lt b hb).2
            · simp [Bq.alls, Bo.obs] at hb
      have HO13_' : Hid (Nt.Own ((y5.alloc (.cells #[.slice none 0 0, .slice none 0 0] 32)).alloc (.cells #[.slice o11_ n11_ c11_, .slice o12_ n12_ c12_] 23)) y2.heap.size (.slice o13_ n13_ c13_) a13_) := HO13_.out.below (Kb.keepB H35 B67)
      have HW7 : Hid (Below w.heap.size w ((y5.alloc (.cells #[.slice none 0 0, .slice none 0 0] 32)).alloc (.cells #[.slice o11_ n11_ c11_, .slice o12_ n12_ c12_] 23))) := Kb.keepB (Kb.keepB (Kb.keepB HS0.out H11_.out) H15) B67
      have h37 : y3.heap.size ≤ ((y5.alloc (.cells #[.slice none 0 0, .slice none 0 0] 32)).alloc (.cells #[.slice o11_ n11_ c11_, .slice o12_ n12_ c12_] 23)).heap.size := by have := H35.size; have := B67.size; omega
      have h2y : y2.heap.size ≤ y3.heap.size := H13_.out.size
      have hw0 : w.heap.size ≤ yS.heap.size := HS0.out.size
      have HOW : Hid (Calls _ _ _ _ _) := ow
      have HB3 : Hid (∀ q ∈ (Value.slice o13_ n13_ c13_).ownBlock.toList ++ Nt.fp a13_, q < y3.heap.size) := fun q hq => (HO13_.out.lt q hq).2
      clear ow HCH B67 H15 H25 H35 hc1 hc2 HO11_ HO12_ HO13_
      generalize (y5.alloc (.cells #[.slice none 0 0, .slice none 0 0] 32)).alloc (.cells #[.slice o11_ n11_ c11_, .slice o12_ n12_ c12_] 23) = y7 at *
      refine HOW.out.mono ?_
      clear HOW
      intro e y8 hout
      obtain ⟨rfl, ⟨E, lv, mv, hh⟩, hfr⟩ := Bt.held_of hout
      have HO8 : Hid (Nt.Own y8 y2.heap.size (.slice o13_ n13_ c13_) a13_) := Bt.own_fr' HO13_'.out HB3.out hfr HFL.out
      have HW8 : Hid (Below w.heap.size w y8) := Bt.fr_below HW7.out HW7.out.size hfr fun b hb => Nat.le_trans hw0 (HFL.out b hb).1
      have ks := Bs.still_any hh
      clear hout hfr HO13_' HW7 HFL hh h37
      go_wp2_with fail
      refine ks.mono ?_
      rintro _ y9 ⟨rfl, H9⟩
      replace H9 : Hid (Below y8.heap.size y8 y9) := H9
      clear ks
      go_wp2_with fail
      refine (ps y9).mono ?_
      rintro _ y10 ⟨v20_, a20_, rfl, he20_, ho20_, h20_⟩
      obtain ⟨o20_, c20_, rfl⟩ := ho20_.form
      obtain ⟨n20_, HN20_⟩ : ∃ n, Hid (a20_.length = n) := ⟨_, rfl⟩
      rw [HN20_.out] at ho20_ ⊢
      have HO20_ : Hid (Nt.Own y10 y9.heap.size (.slice o20_ n20_ c20_) a20_) := ho20_
      have HE20_ : Hid (Nt.er a20_ = Bt.trs R) := he20_
      have H20_ : Hid (Below y9.heap.size y9 y10) := h20_
      clear ho20_ he20_ h20_
      go_wp2_with fail
      have k103 := Sa.same_any a20_ a13_ _ _ y10 HO20_.out.reads (HO8.out.reads.below (Kb.keepB H9.out H20_.out))
      rw [(Sa.smB_er a20_ a13_).2 (HE20_.out.trans HE13_.out.symm)] at k103
      refine k103.mono ?_
      clear k103
      rintro _ y11 ⟨rfl, Hy11⟩
      replace Hy11 : Hid (Below y10.heap.size y10 y11) := Hy11
      go_wp2_with fail
      have HWT : Hid (Below w.heap.size w y11) := Kb.keepB (Kb.keepB (Kb.keepB HW8.out H9.out) H20_.out) Hy11.out
      clear HW8 H9 H20_ Hy11 HO20_ HO8 HE20_ HE13_ HE11_ HE12_ HN11_ HN12_ HN13_ HN20_ ps pd HC
      refine (Lw.lend_any ts1 _ y11 (HL.out.below HWT.out)).mono ?_
      rintro _ z1 ⟨v5, a5, rfl, he5, hl5, hb5⟩
      obtain ⟨g5, cap5, e5, -⟩ := hl5.row
      obtain ⟨N5, HN5⟩ : ∃ N, Hid (a5.length = N) := ⟨_, rfl⟩
      rw [HN5.out] at e5
      subst e5
      have HL5 : Hid (Le.Lnt z1 y11.heap.size (.slice (some ⟨g5, 0, none⟩) N5 cap5) a5) := hl5
      have HB5 : Hid (Below w.heap.size w z1) := Kb.keepB HWT.out hb5
      have HE5 : Hid (Nt.er a5 = Nt.er ts1) := he5
      have hn5 : N5 ≤ 1048576 := by
        obtain ⟨_, _, _, _, hf⟩ := hl5.row
        rw [← HN5.out]; exact hf
      have hg5 : w.heap.size ≤ y11.heap.size := HWT.out.size
      have c5 := Sb.buildSub_any a5 (.slice (some ⟨g5, 0, none⟩) N5 cap5) z1 hl5.reads
      rw [(Lc.bs_er he5).1, (Lc.bs_er he5).2] at c5
      have c6 := fun y (hy : Below w.heap.size w y) => Rv.buildSub_doc ts1 (.slice lo NL lc) y (HL.out.below hy)
      generalize Sb.bsS ts1 = S5 at c5 c6
      generalize Sb.bsE ts1 = E5 at c5 c6
      clear hl5 hb5 he5
      go_wp2_with fail
      refine c5.mono ?_
      clear c5
      rintro _ z2 ⟨rfl, h2⟩
      have HB6 : Hid (Below w.heap.size w z2) := Kb.keepB HB5.out h2
      go_wp2_with fail
      refine (c6 z2 HB6.out).mono ?_
      clear c6
      rintro _ z3 ⟨rfl, h3⟩
      have HB7 : Hid (Below w.heap.size w z3) := Kb.keepB HB6.out h3
      replace HL5 : Hid (Le.Lnt z3 y11.heap.size (.slice (some ⟨g5, 0, none⟩) N5 cap5) a5) := HL5.out.below (Kb.keepB h2 h3)
      have c7 := Ke.kept_any a5 ts1 (.slice (some ⟨g5, 0, none⟩) N5 cap5) (.slice lo NL lc) z3 _ HL5.out (HL.out.below HB7.out) HE5.out
      clear h2 h3 HB6 HB5
      go_wp2_with fail
      refine c7.mono ?_
      clear c7
      rintro _ z4 ⟨rfl, h4⟩
      have HB8 : Hid (Below w.heap.size w z4) := Kb.keepB HB7.out h4
      replace HL5 : Hid (Le.Lnt z4 y11.heap.size (.slice (some ⟨g5, 0, none⟩) N5 cap5) a5) := HL5.out.below h4
      clear h4 HB7
      by_cases hn0 : 0 < N5
      · have hn0' : 0 < (N5 : Int) := by omega
        obtain ⟨M5, HM5⟩ : ∃ M : Nat, Hid (N5 / 2 = M) := ⟨_, rfl⟩
        have hm5 := HM5.out
        have em5 : (N5 : Int) / 2 = (M5 : Int) := by omega
        have hml : (M5 : Int) < (N5 : Int) := by omega
        have hma : M5 < a5.length := by rw [HN5.out]; omega
        obtain ⟨tq, vq, kq, q0, q1, q2, qf, qb, ql⟩ := Lc.Lnt.cells HN5.out HL5.out (i := M5) (by omega)
        have f1 := qf (M5 * 3 + 1)
        have RD : Nt.Rdn (z4.setCell ⟨g5, M5 * 3 + 1, none⟩ (.string ⟨#[99, 104, 97, 110, 103, 101, 100]⟩)) (.slice (some ⟨g5, 0, none⟩) N5 cap5) (a5.set M5 (Lc.setV a5[M5] ⟨#[99, 104, 97, 110, 103, 101, 100]⟩)) := (Lc.Lnt.setv HN5.out HL5.out hma ⟨#[99, 104, 97, 110, 103, 101, 100]⟩ (by decide)).reads
        have BZ : Below w.heap.size w (z4.setCell ⟨g5, M5 * 3 + 1, none⟩ (.string ⟨#[99, 104, 97, 110, 103, 101, 100]⟩)) := Lw.bset HB8.out (by omega) _ _
        clear qf hm5
        have c8 := Rv.buildSub_doc (a5.set M5 (Lc.setV a5[M5] ⟨#[99, 104, 97, 110, 103, 101, 100]⟩)) (.slice (some ⟨g5, 0, none⟩) N5 cap5) (z4.setCell ⟨g5, M5 * 3 + 1, none⟩ (.string ⟨#[99, 104, 97, 110, 103, 101, 100]⟩)) RD
        have c9 := fun y (hy : Below (z4.setCell ⟨g5, M5 * 3 + 1, none⟩ (.string ⟨#[99, 104, 97, 110, 103, 101, 100]⟩)).heap.size (z4.setCell ⟨g5, M5 * 3 + 1, none⟩ (.string ⟨#[99, 104, 97, 110, 103, 101, 100]⟩)) y) => Sb.buildSub_any (a5.set M5 (Lc.setV a5[M5] ⟨#[99, 104, 97, 110, 103, 101, 100]⟩)) (.slice (some ⟨g5, 0, none⟩) N5 cap5) y (Nt.Rdn.below RD hy)
        generalize Sb.bsS (a5.set M5 (Lc.setV a5[M5] ⟨#[99, 104, 97, 110, 103, 101, 100]⟩)) = S8 at c8 c9
        generalize Sb.bsE (a5.set M5 (Lc.setV a5[M5] ⟨#[99, 104, 97, 110, 103, 101, 100]⟩)) = E8 at c8 c9
        clear HL5
        go_wp2_with fail
        refine c8.mono ?_
        rintro _ z8 ⟨rfl, h8⟩
        go_wp2_with fail
        refine (c9 z8 h8).mono ?_
        rintro _ z9 ⟨rfl, h9⟩
        go_wp2
        go_ret
        exact ⟨by simp, Kb.keepB (Kb.keepB BZ h8) h9⟩
      · have hn0' : ¬ 0 < (N5 : Int) := by omega
        have RD : Nt.Rdn z4 (.slice (some ⟨g5, 0, none⟩) N5 cap5) a5 := HL5.out.reads
        have c8 := Rv.buildSub_doc (a5) (.slice (some ⟨g5, 0, none⟩) N5 cap5) z4 RD
        have c9 := fun y (hy : Below z4.heap.size z4 y) => Sb.buildSub_any (a5) (.slice (some ⟨g5, 0, none⟩) N5 cap5) y (Nt.Rdn.below RD hy)
        generalize Sb.bsS (a5) = S8 at c8 c9
        generalize Sb.bsE (a5) = E8 at c8 c9
        clear HL5
        go_wp2_with fail
        refine c8.mono ?_
        rintro _ z8 ⟨rfl, h8⟩
        go_wp2_with fail
        refine (c9 z8 h8).mono ?_
        rintro _ z9 ⟨rfl, h9⟩
        go_wp2
        go_ret
        exact ⟨by simp, Kb.keepB (Kb.keepB HB8.out h8) h9⟩
  obtain ⟨s, HS, hs⟩ : ∃ s, Hid (a0.extract 0 12000 = s) ∧ s.size ≤ 12000 := ⟨_, rfl, by rw [ByteArray.size_extract]; omega⟩
  obtain ⟨R, HR⟩ : ∃ R, Hid (Go_.parseS s = R) := ⟨_, rfl⟩
  have ps : ∀ y, Calls Try.prog 20 #[.string s] y (Bt.PostU y R) := fun y => by
    rw [← HR.out]
    exact (Go_.parseSub_any s y (by omega)).mono fun _ _ h => Bt.uni h
  have pd : ∀ y, Calls Try.prog 21 #[.string s] y (Bt.PostU y R) := fun y => by
    rw [← HR.out]
    exact (Rt.parseSub_doc s y (by omega)).mono fun _ _ h => Bt.uni h
  have HC : Hid (Ag.cnt (Bt.trs R) ≤ 500) := by show _ ≤ _; rw [← HR.out]; exact Lc.cnt_subs s
  have hbig' : 12000 < (a0.size : Int) := by omega
  clear hbig
  clear hs HR
  go_enter Try.func5, Try.ntmps5
  go_wp2_with fail
  refine (kn _).mono ?_
  rintro e y0 ⟨rfl, h0⟩
  have H0 : Hid (Below w.heap.size w y0) := h0
  clear h0
  go_wp2_with fail
  refine (Ft.small_any ts1 _ y0 (HL.out.below H0.out)).mono ?_
  rintro _ yS ⟨fit, rfl, hS, HFT⟩
  have HS0 : Hid (Below w.heap.size w yS) := Kb.keepB H0.out hS
  clear hS HFT H0 y0
  cases fit with
  | false =>
    go_wp2
    go_ret
    exact ⟨rfl, HS0.out⟩
  | true =>
    go_wp2_with fail
    rw [HS.out]
    refine (ps yS).mono ?_
    rintro _ y1 ⟨v11_, a11_, rfl, he11_, ho11_, h11_⟩
    obtain ⟨o11_, c11_, rfl⟩ := ho11_.form
    obtain ⟨n11_, HN11_⟩ : ∃ n, Hid (a11_.length = n) := ⟨_, rfl⟩
    rw [HN11_.out] at ho11_ ⊢
    have HO11_ : Hid (Nt.Own y1 yS.heap.size (.slice o11_ n11_ c11_) a11_) := ho11_
    have HE11_ : Hid (Nt.er a11_ = Bt.trs R) := he11_
    have H11_ : Hid (Below yS.heap.size yS y1) := h11_
    clear ho11_ he11_ h11_
    go_wp2_with fail
    refine (ps y1).mono ?_
    rintro _ y2 ⟨v12_, a12_, rfl, he12_, ho12_, h12_⟩
    obtain ⟨o12_, c12_, rfl⟩ := ho12_.form
    obtain ⟨n12_, HN12_⟩ : ∃ n, Hid (a12_.length = n) := ⟨_, rfl⟩
    rw [HN12_.out] at ho12_ ⊢
    have HO12_ : Hid (Nt.Own y2 y1.heap.size (.slice o12_ n12_ c12_) a12_) := ho12_
    have HE12_ : Hid (Nt.er a12_ = Bt.trs R) := he12_
    have H12_ : Hid (Below y1.heap.size y1 y2) := h12_
    clear ho12_ he12_ h12_
    go_wp2_with fail
    refine (pd y2).mono ?_
    rintro _ y3 ⟨v13_, a13_, rfl, he13_, ho13_, h13_⟩
    obtain ⟨o13_, c13_, rfl⟩ := ho13_.form
    obtain ⟨n13_, HN13_⟩ : ∃ n, Hid (a13_.length = n) := ⟨_, rfl⟩
    rw [HN13_.out] at ho13_ ⊢
    have HO13_ : Hid (Nt.Own y3 y2.heap.size (.slice o13_ n13_ c13_) a13_) := ho13_
    have HE13_ : Hid (Nt.er a13_ = Bt.trs R) := he13_
    have H13_ : Hid (Below y2.heap.size y2 y3) := h13_
    clear ho13_ he13_ h13_
    go_wp2_with fail
    have k13 := Sa.same_any a11_ a13_ _ _ y3 (HO11_.out.reads.below (Kb.keepB H12_.out H13_.out)) HO13_.out.reads
    rw [(Sa.smB_er a11_ a13_).2 (HE11_.out.trans HE13_.out.symm)] at k13
    refine k13.mono ?_
    clear k13
    rintro _ y4 ⟨rfl, Hy4⟩
    replace Hy4 : Hid (Below y3.heap.size y3 y4) := Hy4
    go_wp2_with fail
    have k23 := Sa.same_any a12_ a13_ _ _ y4 (HO12_.out.reads.below (Kb.keepB H13_.out Hy4.out)) (HO13_.out.reads.below Hy4.out)
    rw [(Sa.smB_er a12_ a13_).2 (HE12_.out.trans HE13_.out.symm)] at k23
    refine k23.mono ?_
    clear k23
    rintro _ y5 ⟨rfl, Hy5⟩
    replace Hy5 : Hid (Below y4.heap.size y4 y5) := Hy5
    go_wp2_with fail
    have hc1 : (Li.lsK a11_).length ≤ 500 := by rw [Bt.ls_cnt, HE11_.out]; exact HC.out
    have hc2 : (Li.lsK a12_).length ≤ 500 := by rw [Bt.ls_cnt, HE12_.out]; exact HC.out
    have H35 : Below y3.heap.size y3 y5 := Kb.keepB Hy4.out Hy5.out
    have H25 := Kb.keepB H13_.out H35
    have H15 := Kb.keepB H12_.out H25
    have B67 := Kb.below_two y5 (.cells #[.slice none 0 0, .slice none 0 0] 32) (.cells #[.slice o11_ n11_ c11_, .slice o12_ n12_ c12_] 23)
    have HCH : Bt.Ch ((y5.alloc (.cells #[.slice none 0 0, .slice none 0 0] 32)).alloc (.cells #[.slice o11_ n11_ c11_, .slice o12_ n12_ c12_] 23)) yS.heap.size [(.slice o11_ n11_ c11_, a11_), (.slice o12_ n12_ c12_, a12_)] :=
      ⟨yS.heap.size, y1.heap.size, Nat.le_refl _, H11_.out.size, HO11_.out.below (Kb.keepB H15 B67), fun q hq => (HO11_.out.lt q hq).2, y1.heap.size, y2.heap.size, Nat.le_refl _, H12_.out.size, HO12_.out.below (Kb.keepB H25 B67), fun q hq => (HO12_.out.lt q hq).2, trivial⟩
    have ow := Bq.owns_any (Bt.ins_of (g0 := y5.heap.size) (ta := ⟨y5.heap.size + 1, 0, none⟩) HCH (Kb.h2_0 _ _ _) (fun i hi => by
        have hR := Kb.h2_1 y5 (.cells #[.slice none 0 0, .slice none 0 0] 32) (.cells #[.slice o11_ n11_ c11_, .slice o12_ n12_ c12_] 23)
        match i, hi with
        | 0, _ => rw [Nt.add0]; exact (Bp.cells2 hR).1.1
        | 1, _ => rw [Nt.add0]; exact (Bp.cells2 hR).1.2) (by simp only [Bq.alls, List.length_append, List.length_cons, List.length_nil]; omega)) 2 (by simp)
    have HFL : Hid (∀ b ∈ y5.heap.size :: Bo.obs (Bq.alls [(.slice o11_ n11_ c11_, a11_), (.slice o12_ n12_ c12_, a12_)]), yS.heap.size ≤ b ∧ (b < y2.heap.size ∨ y3.heap.size ≤ b)) := fun b hb => by
      have e0 := Bt.obs_ch HCH (g0 := y5.heap.size) (by have := H15.size; have := H11_.out.size; omega) b hb
      refine ⟨e0, ?_⟩
      rcases List.mem_cons.1 hb with rfl | hb
      · exact .inr H35.size
      · rw [Bt.obs_alls, Bt.obs_alls] at hb
        rcases List.mem_append.1 hb with hb | hb
        · have := (HO11_.out.lt b hb).2; have := H12_.out.size; exact .inl (by omega)
        · rcases List.mem_append.1 hb with hb | hb
          · exact .inl (HO12_.out.lt b hb).2
          · simp [Bq.alls, Bo.obs] at hb
    have HO13_' : Hid (Nt.Own ((y5.alloc (.cells #[.slice none 0 0, .slice none 0 0] 32)).alloc (.cells #[.slice o11_ n11_ c11_, .slice o12_ n12_ c12_] 23)) y2.heap.size (.slice o13_ n13_ c13_) a13_) := HO13_.out.below (Kb.keepB H35 B67)
    have HW7 : Hid (Below w.heap.size w ((y5.alloc (.cells #[.slice none 0 0, .slice none 0 0] 32)).alloc (.cells #[.slice o11_ n11_ c11_, .slice o12_ n12_ c12_] 23))) := Kb.keepB (Kb.keepB (Kb.keepB HS0.out H11_.out) H15) B67
    have h37 : y3.heap.size ≤ ((y5.alloc (.cells #[.slice none 0 0, .slice none 0 0] 32)).alloc (.cells #[.slice o11_ n11_ c11_, .slice o12_ n12_ c12_] 23)).heap.size := by have := H35.size; have := B67.size; omega
    have h2y : y2.heap.size ≤ y3.heap.size := H13_.out.size
    have hw0 : w.heap.size ≤ yS.heap.size := HS0.out.size
    have HOW : Hid (Calls _ _ _ _ _) := ow
    have HB3 : Hid (∀ q ∈ (Value.slice o13_ n13_ c13_).ownBlock.toList ++ Nt.fp a13_, q < y3.heap.size) := fun q hq => (HO13_.out.lt q hq).2
    clear ow HCH B67 H15 H25 H35 hc1 hc2 HO11_ HO12_ HO13_
    generalize (y5.alloc (.cells #[.slice none 0 0, .slice none 0 0] 32)).alloc (.cells #[.slice o11_ n11_ c11_, .slice o12_ n12_ c12_] 23) = y7 at *
    refine HOW.out.mono ?_
    clear HOW
    intro e y8 hout
    obtain ⟨rfl, ⟨E, lv, mv, hh⟩, hfr⟩ := Bt.held_of hout
    have HO8 : Hid (Nt.Own y8 y2.heap.size (.slice o13_ n13_ c13_) a13_) := Bt.own_fr' HO13_'.out HB3.out hfr HFL.out
    have HW8 : Hid (Below w.heap.size w y8) := Bt.fr_below HW7.out HW7.out.size hfr fun b hb => Nat.le_trans hw0 (HFL.out b hb).1
    have ks := Bs.still_any hh
    clear hout hfr HO13_' HW7 HFL hh h37
    go_wp2_with fail
    refine ks.mono ?_
    rintro _ y9 ⟨rfl, H9⟩
    replace H9 : Hid (Below y8.heap.size y8 y9) := H9
    clear ks
    go_wp2_with fail
    refine (ps y9).mono ?_
    rintro _ y10 ⟨v20_, a20_, rfl, he20_, ho20_, h20_⟩
    obtain ⟨o20_, c20_, rfl⟩ := ho20_.form
    obtain ⟨n20_, HN20_⟩ : ∃ n, Hid (a20_.length = n) := ⟨_, rfl⟩
    rw [HN20_.out] at ho20_ ⊢
    have HO20_ : Hid (Nt.Own y10 y9.heap.size (.slice o20_ n20_ c20_) a20_) := ho20_
    have HE20_ : Hid (Nt.er a20_ = Bt.trs R) := he20_
    have H20_ : Hid (Below y9.heap.size y9 y10) := h20_
    clear ho20_ he20_ h20_
    go_wp2_with fail
    have k103 := Sa.same_any a20_ a13_ _ _ y10 HO20_.out.reads (HO8.out.reads.below (Kb.keepB H9.out H20_.out))
    rw [(Sa.smB_er a20_ a13_).2 (HE20_.out.trans HE13_.out.symm)] at k103
    refine k103.mono ?_
    clear k103
    rintro _ y11 ⟨rfl, Hy11⟩
    replace Hy11 : Hid (Below y10.heap.size y10 y11) := Hy11
    go_wp2_with fail
    have HWT : Hid (Below w.heap.size w y11) := Kb.keepB (Kb.keepB (Kb.keepB HW8.out H9.out) H20_.out) Hy11.out
    clear HW8 H9 H20_ Hy11 HO20_ HO8 HE20_ HE13_ HE11_ HE12_ HN11_ HN12_ HN13_ HN20_ ps pd HC
    refine (Lw.lend_any ts1 _ y11 (HL.out.below HWT.out)).mono ?_
    rintro _ z1 ⟨v5, a5, rfl, he5, hl5, hb5⟩
    obtain ⟨g5, cap5, e5, -⟩ := hl5.row
    obtain ⟨N5, HN5⟩ : ∃ N, Hid (a5.length = N) := ⟨_, rfl⟩
    rw [HN5.out] at e5
    subst e5
    have HL5 : Hid (Le.Lnt z1 y11.heap.size (.slice (some ⟨g5, 0, none⟩) N5 cap5) a5) := hl5
    have HB5 : Hid (Below w.heap.size w z1) := Kb.keepB HWT.out hb5
    have HE5 : Hid (Nt.er a5 = Nt.er ts1) := he5
    have hn5 : N5 ≤ 1048576 := by
      obtain ⟨_, _, _, _, hf⟩ := hl5.row
      rw [← HN5.out]; exact hf
    have hg5 : w.heap.size ≤ y11.heap.size := HWT.out.size
    have c5 := Sb.buildSub_any a5 (.slice (some ⟨g5, 0, none⟩) N5 cap5) z1 hl5.reads
    rw [(Lc.bs_er he5).1, (Lc.bs_er he5).2] at c5
    have c6 := fun y (hy : Below w.heap.size w y) => Rv.buildSub_doc ts1 (.slice lo NL lc) y (HL.out.below hy)
    generalize Sb.bsS ts1 = S5 at c5 c6
    generalize Sb.bsE ts1 = E5 at c5 c6
    clear hl5 hb5 he5
    go_wp2_with fail
    refine c5.mono ?_
    clear c5
    rintro _ z2 ⟨rfl, h2⟩
    have HB6 : Hid (Below w.heap.size w z2) := Kb.keepB HB5.out h2
    go_wp2_with fail
    refine (c6 z2 HB6.out).mono ?_
    clear c6
    rintro _ z3 ⟨rfl, h3⟩
    have HB7 : Hid (Below w.heap.size w z3) := Kb.keepB HB6.out h3
    replace HL5 : Hid (Le.Lnt z3 y11.heap.size (.slice (some ⟨g5, 0, none⟩) N5 cap5) a5) := HL5.out.below (Kb.keepB h2 h3)
    have c7 := Ke.kept_any a5 ts1 (.slice (some ⟨g5, 0, none⟩) N5 cap5) (.slice lo NL lc) z3 _ HL5.out (HL.out.below HB7.out) HE5.out
    clear h2 h3 HB6 HB5
    go_wp2_with fail
    refine c7.mono ?_
    clear c7
    rintro _ z4 ⟨rfl, h4⟩
    have HB8 : Hid (Below w.heap.size w z4) := Kb.keepB HB7.out h4
    replace HL5 : Hid (Le.Lnt z4 y11.heap.size (.slice (some ⟨g5, 0, none⟩) N5 cap5) a5) := HL5.out.below h4
    clear h4 HB7
    by_cases hn0 : 0 < N5
    · have hn0' : 0 < (N5 : Int) := by omega
      obtain ⟨M5, HM5⟩ : ∃ M : Nat, Hid (N5 / 2 = M) := ⟨_, rfl⟩
      have hm5 := HM5.out
      have em5 : (N5 : Int) / 2 = (M5 : Int) := by omega
      have hml : (M5 : Int) < (N5 : Int) := by omega
      have hma : M5 < a5.length := by rw [HN5.out]; omega
      obtain ⟨tq, vq, kq, q0, q1, q2, qf, qb, ql⟩ := Lc.Lnt.cells HN5.out HL5.out (i := M5) (by omega)
      have f1 := qf (M5 * 3 + 1)
      have RD : Nt.Rdn (z4.setCell ⟨g5, M5 * 3 + 1, none⟩ (.string ⟨#[99, 104, 97, 110, 103, 101, 100]⟩)) (.slice (some ⟨g5, 0, none⟩) N5 cap5) (a5.set M5 (Lc.setV a5[M5] ⟨#[99, 104, 97, 110, 103, 101, 100]⟩)) := (Lc.Lnt.setv HN5.out HL5.out hma ⟨#[99, 104, 97, 110, 103, 101, 100]⟩ (by decide)).reads
      have BZ : Below w.heap.size w (z4.setCell ⟨g5, M5 * 3 + 1, none⟩ (.string ⟨#[99, 104, 97, 110, 103, 101, 100]⟩)) := Lw.bset HB8.out (by omega) _ _
      clear qf hm5
      have c8 := Rv.buildSub_doc (a5.set M5 (Lc.setV a5[M5] ⟨#[99, 104, 97, 110, 103, 101, 100]⟩)) (.slice (some ⟨g5, 0, none⟩) N5 cap5) (z4.setCell ⟨g5, M5 * 3 + 1, none⟩ (.string ⟨#[99, 104, 97, 110, 103, 101, 100]⟩)) RD
      have c9 := fun y (hy : Below (z4.setCell ⟨g5, M5 * 3 + 1, none⟩ (.string ⟨#[99, 104, 97, 110, 103, 101, 100]⟩)).heap.size (z4.setCell ⟨g5, M5 * 3 + 1, none⟩ (.string ⟨#[99, 104, 97, 110, 103, 101, 100]⟩)) y) => Sb.buildSub_any (a5.set M5 (Lc.setV a5[M5] ⟨#[99, 104, 97, 110, 103, 101, 100]⟩)) (.slice (some ⟨g5, 0, none⟩) N5 cap5) y (Nt.Rdn.below RD hy)
      generalize Sb.bsS (a5.set M5 (Lc.setV a5[M5] ⟨#[99, 104, 97, 110, 103, 101, 100]⟩)) = S8 at c8 c9
      generalize Sb.bsE (a5.set M5 (Lc.setV a5[M5] ⟨#[99, 104, 97, 110, 103, 101, 100]⟩)) = E8 at c8 c9
      clear HL5
      go_wp2_with fail
      refine c8.mono ?_
      rintro _ z8 ⟨rfl, h8⟩
      go_wp2_with fail
      refine (c9 z8 h8).mono ?_
      rintro _ z9 ⟨rfl, h9⟩
      go_wp2
      go_ret
      exact ⟨by simp, Kb.keepB (Kb.keepB BZ h8) h9⟩
    · have hn0' : ¬ 0 < (N5 : Int) := by omega
      have RD : Nt.Rdn z4 (.slice (some ⟨g5, 0, none⟩) N5 cap5) a5 := HL5.out.reads
      have c8 := Rv.buildSub_doc (a5) (.slice (some ⟨g5, 0, none⟩) N5 cap5) z4 RD
      have c9 := fun y (hy : Below z4.heap.size z4 y) => Sb.buildSub_any (a5) (.slice (some ⟨g5, 0, none⟩) N5 cap5) y (Nt.Rdn.below RD hy)
      generalize Sb.bsS (a5) = S8 at c8 c9
      generalize Sb.bsE (a5) = E8 at c8 c9
      clear HL5
      go_wp2_with fail
      refine c8.mono ?_
      rintro _ z8 ⟨rfl, h8⟩
      go_wp2_with fail
      refine (c9 z8 h8).mono ?_
      rintro _ z9 ⟨rfl, h9⟩
      go_wp2
      go_ret
      exact ⟨by simp, Kb.keepB (Kb.keepB HB8.out h8) h9⟩

set_option maxRecDepth 100000 in
theorem contract (H : Type) (enc : TypeId × Value → H) (W : World) (base : Nat) (args : Array Value) (ds gs : List (DataW H)) (before : List MemPlace)
    (hval : ∀ (j : Nat) t v, Try.f5.params[j]? = some t → args[j]? = some v → Value.okWide Try.prog W .any base t v)
    (hW : DataW.Whole enc Try.prog Try.f5.params.toList Rows.tlvSubsSpec.vars false W args.toList ds gs before) (hk : Rows.uptoSmall H (ds ++ gs) = true) :
    Calls Try.prog 5 args W fun e W' => ∃ v, e = .returned v ∧ Rows.tlvSubsSpec.post enc Try.prog Try.f5 false true false false W args v W' := by
  have hW' := hW
  obtain ⟨p, q, hA0, hV, rfl, hfz, hnd⟩ := hW
  have hA : DataW.TrodAll enc Try.prog W 0 (fun _ => true) true Try.f5.params.toList args.toList ds p := hA0
  rw [Try.params5] at hA hval
  obtain ⟨v0, vs0, d0, ds0, p0, q0, hargs, rfl, rfl, h0, r0⟩ := trodAll_cons hA
  obtain ⟨v1, vs1, d1, ds1, p1, q1, rfl, rfl, rfl, h1, r1⟩ := trodAll_cons r0
  obtain ⟨rfl, rfl, rfl⟩ := trodAll_nil r1
  obtain rfl : args = #[v0, v1] := by cases args; simp_all
  obtain ⟨rfl, rfl⟩ := trodVars_none hV
  obtain ⟨a0, rfl, rfl, rfl, w0⟩ := open_string Try.underlying9 (hval 0 9 v0 rfl rfl) h0
  clear hA0
  simp only [List.append_nil] at hk
  have hk1 := of_decide_eq_true hk
  simp only [Rows.uptoBulkAll, Rows.uptoBulk] at hk1
  obtain ⟨ts1, w1, lt1⟩ := On.open_nodes (hval 1 23 v1 rfl rfl) h1 (by omega)
  have e0 : a0.data.toList.length = a0.size := by rw [Array.length_toList]; rfl
  refine (walk a0 v1 ts1 W w0 w1 (by omega)).mono fun e W' ⟨he, bel⟩ => ?_
  subst he
  exact ⟨_, rfl, _, _, _, [], _, [], hW', trodAll_mk1 (shut_bool Try.underlying4 _), (trodAll_cons_mk (shut_string Try.underlying9 w0) (trodAll_cons_mk (Below.trod (by kernel_rfl) (by kernel_rfl) (of_decide_eq_true (by kernel_rfl)) h1 bel lt1) trodAll_mk0)), rfl, bel.frame _, fun h => by cases h⟩

set_option maxRecDepth 100000 in
theorem lifted (os : Os) (started : os.Started) (H : Type) (enc : TypeId × Value → H) (F : Stop.Interp) :
    ReturnsInHanded {} Try.checked os 5 .any ((Rows.OpenSpec.upto Rows.tlvSubsSpec).pre6 enc Try.prog Try.f5 Rows.tlvSubsUptoRow.domain false) (((Rows.OpenSpec.upto Rows.tlvSubsSpec).at F).post enc Try.prog Try.f5 false true false false) := by
  refine returnsInHanded_of_cond (C := Try.checked) (s := Rows.OpenSpec.upto Rows.tlvSubsSpec) (k := Rows.uptoSmall) rfl own started (by kernel_rfl) Try.func5
    (OpenSpec.witness (enc := enc) (C := Try.checked) (s := Rows.OpenSpec.upto Rows.tlvSubsSpec) (k := Rows.uptoSmall) rfl false ⟨#[], #[.string .empty, .slice none 0 0], []⟩ 8 (by kernel_rfl) (by kernel_rfl) (by kernel_rfl)
      (x := ([.lit (.string []), .nil], [], [])) (by kernel_rfl) rfl (by kernel_rfl)) ?_
  intro W base args ds gs before hval hW _ hk _
  exact contract H enc W base args ds gs before hval hW hk

theorem proved : Rows.TlvSubsUptoSaid :=
  OpenClaim.holds_of_cond 5 Try.f5 rfl rfl rfl rfl rfl rfl rfl ⟨rfl, rfl, rfl, rfl, rfl⟩ rfl rfl rfl rfl rfl (by kernel_rfl) Try.func5 (by kernel_rfl)
    (of_decide_eq_true (by kernel_rfl)) (by unfold Func.isWrapper; first | (rw [if_pos (by decide +kernel)]; kernel_rfl) | (rw [if_neg (by decide +kernel)]; exact ⟨rfl, rfl⟩))
    (fun os started H enc _ F => lifted os started H enc F)
#print axioms proved
end Go.Proofs.Ytgidjfhlooggkaa.tlvSubs
