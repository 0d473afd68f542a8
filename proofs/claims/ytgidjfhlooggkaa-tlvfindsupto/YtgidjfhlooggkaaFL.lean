/- TlvFinds: the law out of the contracts; the frame of the row. -/
import Derived.Test.YtgidjfhlooggkaaRows
import Derived.WalkKit
import Derived.ProofKit
import Derived.OpenShut
import Derived.ShutString
import Derived.ChangeOld
import Derived.Below
import Derived.JoinedCond
import Derived.Carry
import Derived.SizedLaws
import Derived.Test.YtgidjfhlooggkaaKn
import Derived.Test.YtgidjfhlooggkaaSa
import Derived.Test.YtgidjfhlooggkaaBt
import Derived.Test.YtgidjfhlooggkaaOn
import Derived.Test.YtgidjfhlooggkaaFt
import Derived.Test.YtgidjfhlooggkaaLc
import Derived.Test.YtgidjfhlooggkaaFy
namespace Go.Proofs.Ytgidjfhlooggkaa.tlvFinds
open Go.ChangeShapes Go.WideShapes Go.ChangeAt Go.RowKit
open Go.ChangeMaps (open_string shut_string)
set_option linter.unusedVariables false

theorem own : ownKnob Try.prog.godebug = none := by kernel_rfl

set_option maxRecDepth 100000 in
set_option maxHeartbeats 6400000 in
theorem walk (v0 : Value) (ts0 : List Nt.AT) (v1 : Value) (z1 : List Int) (a2 : ByteArray) (w : World) (w0 : Nt.Rdn w v0 ts0) (w1 : Sl.Lies w v1 z1) (w2 : a2.size ≤ maxLen) (k2 : a2.size ≤ 1048576) (k1 : z1.length ≤ 1048576) :
    Calls Try.prog 7 #[v0, v1, .string a2] w fun e w' => e = .returned (.bool true) ∧ Below w.heap.size w w' := by
  have kn := Kn.known_any
  have HLL : Hid (Nt.Rdn w v0 ts0) := w0
  obtain ⟨lo, lc, el, hlN, -⟩ := w0.row
  obtain ⟨NL, HNL⟩ : ∃ N, Hid (ts0.length = N) := ⟨_, rfl⟩
  rw [HNL.out] at el
  subst el
  have HL : Hid (Nt.Rdn w (.slice lo NL lc) ts0) := HLL.out
  have HK2 : Hid (a2.size ≤ 1048576) := k2
  have HIN : Hid (Fd.ints w v1 z1) := Fy.lies_ints w1 k1
  obtain ⟨po, pc, ep, -, -⟩ := Fy.lies_ints w1 k1
  obtain ⟨PN, HZL⟩ : ∃ N, Hid (z1.length = N) := ⟨_, rfl⟩
  rw [HZL.out] at ep k1
  subst ep
  obtain ⟨im, him, hzm0, hzm1, hzm2⟩ := info_parts Bq.infoI
  clear HLL w0 w1 hlN
  go_enter Try.func7, Try.ntmps7
  go_wp2_with fail
  refine (kn _).mono ?_
  rintro e y0 ⟨rfl, h0⟩
  have H0 : Hid (Below w.heap.size w y0) := h0
  clear h0
  go_wp2_with fail
  refine (Ft.small_any ts0 _ y0 (HL.out.below H0.out)).mono ?_
  rintro _ yS ⟨fit, rfl, hS, HFT⟩
  have HWT : Hid (Below w.heap.size w yS) := Kb.keepB H0.out hS
  clear hS H0 y0
  cases fit with
  | false =>
    go_wp2
    go_ret
    exact ⟨rfl, HWT.out⟩
  | true =>
    obtain ⟨hft1, hft2⟩ := HFT.out rfl
    have HF : Hid ((Li.lsK ts0).length ≤ 700 ∧ Wk.dep ts0 ≤ 20) := ⟨hft1, hft2⟩
    clear hft1 hft2 HFT
    go_wp2
    go_loopw [9, 10] (fun vw vi wx => ∃ j : Nat, j ≤ PN ∧ j ≤ 30 ∧ vi = .int .i64 (j : Int) ∧ wx.ownsRow yS.heap.size 3 1 vw j (Fy.iv (z1.take j)) ∧ Below yS.heap.size yS wx) (fun _ vi _ => 31 - (intOf vi).toNat)
    case atStart => exact ⟨0, Nat.zero_le _, by omega, rfl, by simp only [List.take_zero, Fy.iv, List.map_nil]; exact World.ownsRow_nil _ _ _ _, Below.refl _ _⟩
    case round =>
      obtain ⟨j, hjP, hj30, rfl, how, hwx⟩ := hrel
      rename World => wx
      obtain ⟨wo, wc, rfl⟩ := Li.formL how
      have HOW : Hid (World.ownsRow wx yS.heap.size 3 1 (.slice wo j wc) j (Fy.iv (z1.take j))) := how
      have HWX : Hid (Below yS.heap.size yS wx) := hwx
      have hsx := hwx.size
      clear how
      by_cases hgo : j < PN ∧ j < 30
      · have q1 : (j : Int) < (PN : Int) := by omega
        have q2 : (j : Int) < 30 := by omega
        have hjz : j < z1.length := by rw [HZL.out]; omega
        obtain ⟨po', pc', ep', _, hcp⟩ := Fd.ints_below (Kb.keepB HWT.out hwx) HIN.out
        obtain ⟨pa, epa, cpz⟩ := hcp j hjz
        rw [HZL.out] at ep'
        obtain ⟨rfl, rfl⟩ : po = po' ∧ pc = pc' := by simpa using ep'
        subst epa
        have hiv := Fy.iv_take z1 j hjz
        replace hiv : Hid (Fy.iv (z1.take (j + 1)) = Fy.iv (z1.take j) ++ [.int .i64 z1[j]]) := hiv
        generalize z1[j] = zj at *
        clear hcp ep' hgo hwx
        go_wp2_with (at_builtin; refine Bq.halt ?_)
        intro _
        refine wpList_append_lies _ rfl _ _ _ rfl yS.heap.size 3 im _ 1 8 Try.underlying30 him hzm0 hzm1 hzm2 rfl (by omega) _ j _ rfl (HOW.out.alloc _) ⟨wx.heap.size, 0, Option.none⟩ 1 1 _ rfl (by rfl) (World.news_of_block (heap_alloc_new wx _)) (by simp [Value.oneCell']) (by omega) (by unfold maxLen; omega) (by omega) (by simp; omega) (wx.heap.size + 1) (by simp) ?_
        intro g1 c1 u1 own1 gr1 hat1 hlt1
        clear cpz
        go_wp2_with fail
        have B1 := Lw.grow3 hsx HOW.out (show (wx.alloc (.cells #[.int .i64 zj] 3)).grownBy u1 _ from gr1)
        exact ⟨⟨j + 1, by omega, by omega, by go_num, by rw [hiv.out]; exact own1, HWX.out.trans B1⟩, by simp [intOf]; omega⟩
      · have hcs : (¬ (j : Int) < (PN : Int)) ∨ ((j : Int) < (PN : Int) ∧ ¬ (j : Int) < 30) := by omega
        clear hgo hwx
        rcases hcs with hq | ⟨hq, hq2⟩
        all_goals
          -- the way stands, with its two marks
          obtain ⟨n, HNE⟩ : ∃ n, Hid (j = n) := ⟨_, rfl⟩
          go_wp2_with (at_builtin; refine Bq.halt ?_)
          intro _
          refine wpList_append_lies _ rfl _ _ _ rfl yS.heap.size 3 im _ 1 8 Try.underlying30 him hzm0 hzm1 hzm2 rfl (by omega) _ j _ rfl (HOW.out.alloc _) ⟨wx.heap.size, 0, Option.none⟩ 2 2 _ rfl (by rfl) (World.news_of_block (heap_alloc_new wx _)) (by simp [Value.oneCell']) (by omega) (by unfold maxLen; omega) (by omega) (by simp; omega) (wx.heap.size + 1) (by simp) ?_
          intro gw cw u1 own1 gr1 hat1 hlt1
          have HWY : Hid (Fy.Way u1 yS.heap.size gw j cw (z1.take j)) := ⟨own1, by rw [List.length_take]; have := HZL.out; omega, hj30⟩
          have HU1 : Hid (Below yS.heap.size yS u1) := HWX.out.trans (Lw.grow3 hsx HOW.out (show (wx.alloc (.cells #[.int .i64 (-3), .int .i64 (-4)] 3)).grownBy u1 _ from gr1))
          have HW1 : Hid (Below w.heap.size w u1) := Kb.keepB HWT.out HU1.out
          have hnc : (j : Int) ≤ (cw : Int) := by have := HWY.out.cap; omega
          obtain ⟨P, HP⟩ : ∃ P, Hid (z1.take j = P) := ⟨_, rfl⟩
          rw [HP.out] at HWY
          clear own1 gr1 hat1 hlt1 HOW HWX
          rw [HNE.out] at HWY hnc HP ⊢
          rw [HNE.out] at hj30 hjP
          go_wp2_with fail
          refine (Lw.lend_any ts0 _ u1 (HL.out.below HW1.out)).mono ?_
          rintro _ u2 ⟨v5, a5, rfl, he5, hl5, hb5⟩
          obtain ⟨g5, cap5, e5, -⟩ := hl5.row
          obtain ⟨N5, HN5⟩ : ∃ N, Hid (a5.length = N) := ⟨_, rfl⟩
          rw [HN5.out] at e5
          subst e5
          have HL5 : Hid (Le.Lnt u2 u1.heap.size (.slice (some ⟨g5, 0, none⟩) N5 cap5) a5) := hl5
          have HE5 : Hid (Nt.er a5 = Nt.er ts0) := he5
          have HU2 : Hid (Below u1.heap.size u1 u2) := hb5
          have HC5 : Hid (Ag.cnt (Nt.er ts0) ≤ 700) := by show _ ≤ _; rw [← Bt.ls_cnt]; exact HF.out.1
          clear hl5 he5 hb5
          -- what is told
          have FU := fun y (hy : Below u2.heap.size u2 y) => Fx.find_uni a5 P (.slice (some ⟨g5, 0, none⟩) N5 cap5) (.slice (some ⟨gw, 0, none⟩) n cw) y (HL5.out.reads.below hy) (HWY.out.path.below (Kb.keepB HU2.out hy))
          have FD := fun y (hy : Below u2.heap.size u2 y) => Fq.find_doc P ts0 (.slice lo NL lc) (.slice (some ⟨gw, 0, none⟩) n cw) y (HL.out.below (Kb.keepB (Kb.keepB HW1.out HU2.out) hy)) (HWY.out.path.below (Kb.keepB HU2.out hy))
          have SU := fun y (hy : Below u2.heap.size u2 y) => Fx.set_uni a5 P (.slice (some ⟨g5, 0, none⟩) N5 cap5) (.slice (some ⟨gw, 0, none⟩) n cw) a2 y (HL5.out.reads.below hy) (HWY.out.path.below (Kb.keepB HU2.out hy)) HK2.out
          have SD := fun y (hy : Below u2.heap.size u2 y) => Fx.set_doc ts0 P (.slice lo NL lc) (.slice (some ⟨gw, 0, none⟩) n cw) a2 y (HL.out.below (Kb.keepB (Kb.keepB HW1.out HU2.out) hy)) (HWY.out.path.below (Kb.keepB HU2.out hy)) HK2.out
          have frd := Fq.f_rd (ps := P) HL.out.kids
          have fry := fun y (hy : Below w.heap.size w y) => (Fq.f_rd (ps := P) (HL.out.below hy).kids).1
          obtain ⟨e0, e1, ek, es⟩ := Fx.g_of ts0 P
          rw [HE5.out] at FU SU
          unfold Fq.fv at FD
          rw [e0, e1, es] at FD
          obtain ⟨fo, fc, hf2, -⟩ := frd.1.row
          obtain ⟨fl, Hfl⟩ : ∃ L, Hid ((Fq.fk (Fd.look ts0 P none)).length = L) := ⟨_, rfl⟩
          rw [Hfl.out] at hf2
          rw [hf2] at FD fry
          have HFE : Hid (Nt.er (Fq.fk (Fd.look ts0 P none)) = Fx.gk (Se.lkT (Nt.er ts0) P none)) := ek
          have HG1 : Hid ((Fx.g1 (Se.lkT (Nt.er ts0) P none)).size ≤ 1048576 ∧ Nt.tagB (Fx.g0 (Se.lkT (Nt.er ts0) P none))) := by
            have h := frd.2
            rw [e0, e1] at h
            exact h
          have HC2 := Fy.few2 (Nt.er ts0) P a2
          have FRY : Hid (∀ y, Below w.heap.size w y → Nt.Rdn y (.slice fo fl fc) (Fq.fk (Fd.look ts0 P none))) := fry
          generalize Fq.fk (Fd.look ts0 P none) = fks at *
          generalize Se.lkT (Nt.er ts0) P none = LK at *
          generalize Fx.sT (Nt.er ts0) P a2 = ST at *
          generalize Fx.sE LK = SE at *
          replace HC2 : Hid (Ag.cnt (Fx.gk LK) + Ag.cnt ST ≤ Ag.cnt (Nt.er ts0)) := HC2
          clear frd fry hf2 e0 e1 ek es
          go_wp2_with fail
          refine (FU u2 (Below.refl _ _)).mono ?_
          rintro _ x1 ⟨kx, akx, rfl, hex, hox, hbx⟩
          obtain ⟨xo, xc, rfl⟩ := hox.form
          obtain ⟨XL, HXL⟩ : ∃ L, Hid (akx.length = L) := ⟨_, rfl⟩
          rw [HXL.out] at hox ⊢
          have HOX : Hid (Nt.Own x1 u2.heap.size (.slice xo XL xc) akx) := hox
          have HEX : Hid (Nt.er akx = Fx.gk LK) := hex
          have HBX1 : Hid (Below u2.heap.size u2 x1) := hbx
          clear hox hex hbx
          obtain ⟨XR, HXR⟩ : ∃ R, Hid (R = (x1.alloc (.cells Bs.zn 40)).setRow x1.heap.size #[.int .i64 (Fx.g0 LK), .string (Fx.g1 LK), .slice xo XL xc]) := ⟨_, rfl⟩
          have hRX := Kb.h1_0 x1 (.cells Bs.zn 40)
          have hXX := Kb.setRow_at hRX #[.int .i64 (Fx.g0 LK), .string (Fx.g1 LK), .slice xo XL xc]
          have hBX : Below x1.heap.size x1 ((x1.alloc (.cells Bs.zn 40)).setRow x1.heap.size #[.int .i64 (Fx.g0 LK), .string (Fx.g1 LK), .slice xo XL xc]) := Kb.below_setRow (Kb.below_one x1 _) (Nat.le_refl _) _
          rw [← HXR.out] at hXX hBX
          have HXX : Hid (XR.heap[x1.heap.size]? = some (.cells #[.int .i64 (Fx.g0 LK), .string (Fx.g1 LK), .slice xo XL xc] 40)) := hXX
          have HBX : Hid (Below x1.heap.size x1 XR) := hBX
          clear hXX hBX
          go_wp2_with (refine wpList_store_row rfl 40 _ _ rfl x1.heap.size _ rfl rfl _ _ hRX Bs.infoN rfl (by simp [Value.oneCell']) ?_)
          rw [← HXR.out]
          clear hRX HXR
          have HBA : Hid (Below u2.heap.size u2 XR) := Kb.keepB HBX1.out HBX.out
          refine (FU XR HBA.out).mono ?_
          rintro _ x2 ⟨ky, aky, rfl, hey, hoy, hby⟩
          obtain ⟨yo, yc, rfl⟩ := hoy.form
          obtain ⟨YL, HYL⟩ : ∃ L, Hid (aky.length = L) := ⟨_, rfl⟩
          rw [HYL.out] at hoy ⊢
          have HOY : Hid (Nt.Own x2 XR.heap.size (.slice yo YL yc) aky) := hoy
          have HEY : Hid (Nt.er aky = Fx.gk LK) := hey
          have HBY1 : Hid (Below XR.heap.size XR x2) := hby
          clear hoy hey hby
          obtain ⟨YR, HYR⟩ : ∃ R, Hid (R = (x2.alloc (.cells Bs.zn 40)).setRow x2.heap.size #[.int .i64 (Fx.g0 LK), .string (Fx.g1 LK), .slice yo YL yc]) := ⟨_, rfl⟩
          have hRY := Kb.h1_0 x2 (.cells Bs.zn 40)
          have hXY := Kb.setRow_at hRY #[.int .i64 (Fx.g0 LK), .string (Fx.g1 LK), .slice yo YL yc]
          have hBY : Below x2.heap.size x2 ((x2.alloc (.cells Bs.zn 40)).setRow x2.heap.size #[.int .i64 (Fx.g0 LK), .string (Fx.g1 LK), .slice yo YL yc]) := Kb.below_setRow (Kb.below_one x2 _) (Nat.le_refl _) _
          rw [← HYR.out] at hXY hBY
          have HXY : Hid (YR.heap[x2.heap.size]? = some (.cells #[.int .i64 (Fx.g0 LK), .string (Fx.g1 LK), .slice yo YL yc] 40)) := hXY
          have HBY : Hid (Below x2.heap.size x2 YR) := hBY
          clear hXY hBY
          go_wp2_with (refine wpList_store_row rfl 40 _ _ rfl x2.heap.size _ rfl rfl _ _ hRY Bs.infoN rfl (by simp [Value.oneCell']) ?_)
          rw [← HYR.out]
          clear hRY HYR
          have HBB : Hid (Below u2.heap.size u2 YR) := Kb.keepB HBA.out (Kb.keepB HBY1.out HBY.out)
          refine (FD YR HBB.out).mono ?_
          rintro _ x3 ⟨rfl, hb3⟩
          have HB3 : Hid (Below YR.heap.size YR x3) := hb3
          clear hb3 FU FD
          obtain ⟨WR, HWR⟩ : ∃ R, Hid (R = (x3.alloc (.cells Bs.zn 40)).setRow x3.heap.size #[.int .i64 (Fx.g0 LK), .string (Fx.g1 LK), .slice fo fl fc]) := ⟨_, rfl⟩
          have hRW := Kb.h1_0 x3 (.cells Bs.zn 40)
          have hXW := Kb.setRow_at hRW #[.int .i64 (Fx.g0 LK), .string (Fx.g1 LK), .slice fo fl fc]
          have hBW : Below x3.heap.size x3 ((x3.alloc (.cells Bs.zn 40)).setRow x3.heap.size #[.int .i64 (Fx.g0 LK), .string (Fx.g1 LK), .slice fo fl fc]) := Kb.below_setRow (Kb.below_one x3 _) (Nat.le_refl _) _
          rw [← HWR.out] at hXW hBW
          have HXW : Hid (WR.heap[x3.heap.size]? = some (.cells #[.int .i64 (Fx.g0 LK), .string (Fx.g1 LK), .slice fo fl fc] 40)) := hXW
          have HBW : Hid (Below x3.heap.size x3 WR) := hBW
          clear hXW hBW
          have HXW3 : Hid (WR.heap[x1.heap.size]? = some (.cells #[.int .i64 (Fx.g0 LK), .string (Fx.g1 LK), .slice xo XL xc] 40)) := Kb.kept (Kb.keepB (Kb.keepB HBY1.out HBY.out) (Kb.keepB HB3.out HBW.out)) HXX.out
          have HYW3 : Hid (WR.heap[x2.heap.size]? = some (.cells #[.int .i64 (Fx.g0 LK), .string (Fx.g1 LK), .slice yo YL yc] 40)) := Kb.kept (Kb.keepB HB3.out HBW.out) HXY.out
          have hsW : WR.heap.size = x3.heap.size + 1 := by rw [HWR.out]; simp [World.setRow]
          obtain ⟨p0, p1, p2⟩ := Bs.blk3 HXW3.out
          obtain ⟨r0, r1, r2⟩ := Bs.blk3 HXW.out
          rw [HWR.out] at p0 p1 p2 r0 r1 r2
          go_wp2_with (refine wpList_store_row rfl 40 _ _ rfl x3.heap.size _ rfl rfl _ _ hRW Bs.infoN rfl (by simp [Value.oneCell']) ?_)
          rw [← HWR.out]
          clear hRW HWR
          clear p0 p1 p2 r0 r1 r2
          have HBC : Hid (Below u2.heap.size u2 WR) := Kb.keepB HBB.out (Kb.keepB HB3.out HBW.out)
          have BQ := Kb.below_two WR (.cells #[.int .i64 (Fx.g0 LK), .string (Fx.g1 LK), .slice xo XL xc] 40) (.cells #[.int .i64 (Fx.g0 LK), .string (Fx.g1 LK), .slice fo fl fc] 40)
          have HWD : Hid (Below w.heap.size w u2) := Kb.keepB HW1.out HU2.out
          have k1s := Sa.same_any [Nt.AT.mk (Fx.g0 LK) (Fx.g1 LK) (.slice xo XL xc) akx] [Nt.AT.mk (Fx.g0 LK) (Fx.g1 LK) (.slice fo fl fc) fks] (.slice (some ⟨x3.heap.size + 1, 0, none⟩) 1 1) (.slice (some ⟨x3.heap.size + 1 + 1, 0, none⟩) 1 1) ((WR.alloc (.cells #[.int .i64 (Fx.g0 LK), .string (Fx.g1 LK), .slice xo XL xc] 40)).alloc (.cells #[.int .i64 (Fx.g0 LK), .string (Fx.g1 LK), .slice fo fl fc] 40))
            (Fy.one_rd (by have := Kb.h2_0 WR (.cells #[.int .i64 (Fx.g0 LK), .string (Fx.g1 LK), .slice xo XL xc] 40) (.cells #[.int .i64 (Fx.g0 LK), .string (Fx.g1 LK), .slice fo fl fc] 40); rw [hsW] at this; exact this) (HOX.out.reads.below (Kb.keepB HBX.out (Kb.keepB (Kb.keepB HBY1.out HBY.out) (Kb.keepB (Kb.keepB HB3.out HBW.out) BQ)))) HG1.out.1 HG1.out.2)
            (Fy.one_rd (by have := Kb.h2_1 WR (.cells #[.int .i64 (Fx.g0 LK), .string (Fx.g1 LK), .slice xo XL xc] 40) (.cells #[.int .i64 (Fx.g0 LK), .string (Fx.g1 LK), .slice fo fl fc] 40); rw [hsW] at this; exact this) (FRY.out _ (Kb.keepB (Kb.keepB HWD.out HBC.out) BQ)) HG1.out.1 HG1.out.2)
          rw [(Sa.smB_er _ _).2 (by simp only [Nt.er]; rw [HEX.out, HFE.out])] at k1s
          have HQ0 : Hid (Below WR.heap.size WR ((WR.alloc (.cells #[.int .i64 (Fx.g0 LK), .string (Fx.g1 LK), .slice xo XL xc] 40)).alloc (.cells #[.int .i64 (Fx.g0 LK), .string (Fx.g1 LK), .slice fo fl fc] 40))) := BQ
          clear BQ
          refine k1s.mono ?_
          clear k1s
          rintro _ q1 ⟨rfl, hq1⟩
          have HQ1 : Hid (Below WR.heap.size WR q1) := Kb.keepB HQ0.out hq1
          clear hq1 HQ0
          have HYQ : Hid (q1.heap[x2.heap.size]? = some (.cells #[.int .i64 (Fx.g0 LK), .string (Fx.g1 LK), .slice yo YL yc] 40)) := Kb.kept HQ1.out HYW3.out
          have HXQ : Hid (q1.heap[x1.heap.size]? = some (.cells #[.int .i64 (Fx.g0 LK), .string (Fx.g1 LK), .slice xo XL xc] 40)) := Kb.kept HQ1.out HXW3.out
          have HWQ : Hid (q1.heap[x3.heap.size]? = some (.cells #[.int .i64 (Fx.g0 LK), .string (Fx.g1 LK), .slice fo fl fc] 40)) := Kb.kept HQ1.out HXW.out
          obtain ⟨p0, p1, p2⟩ := Bs.blk3 HYQ.out
          obtain ⟨r0, r1, r2⟩ := Bs.blk3 HWQ.out
          have rr0 := (Kb.below_one q1 (.cells #[.int .i64 (Fx.g0 LK), .string (Fx.g1 LK), .slice yo YL yc] 40)).cell (World.block_lt_of_cell? q1 _ r0) |>.trans r0
          have rr1 := (Kb.below_one q1 (.cells #[.int .i64 (Fx.g0 LK), .string (Fx.g1 LK), .slice yo YL yc] 40)).cell (World.block_lt_of_cell? q1 _ r1) |>.trans r1
          have rr2 := (Kb.below_one q1 (.cells #[.int .i64 (Fx.g0 LK), .string (Fx.g1 LK), .slice yo YL yc] 40)).cell (World.block_lt_of_cell? q1 _ r2) |>.trans r2
          go_wp2_with fail
          clear p0 p1 p2 r0 r1 r2 rr0 rr1 rr2
          have BQ := Kb.below_two q1 (.cells #[.int .i64 (Fx.g0 LK), .string (Fx.g1 LK), .slice yo YL yc] 40) (.cells #[.int .i64 (Fx.g0 LK), .string (Fx.g1 LK), .slice fo fl fc] 40)
          have k1s := Sa.same_any [Nt.AT.mk (Fx.g0 LK) (Fx.g1 LK) (.slice yo YL yc) aky] [Nt.AT.mk (Fx.g0 LK) (Fx.g1 LK) (.slice fo fl fc) fks] (.slice (some ⟨q1.heap.size, 0, none⟩) 1 1) (.slice (some ⟨q1.heap.size + 1, 0, none⟩) 1 1) ((q1.alloc (.cells #[.int .i64 (Fx.g0 LK), .string (Fx.g1 LK), .slice yo YL yc] 40)).alloc (.cells #[.int .i64 (Fx.g0 LK), .string (Fx.g1 LK), .slice fo fl fc] 40))
            (Fy.one_rd (Kb.h2_0 q1 (.cells #[.int .i64 (Fx.g0 LK), .string (Fx.g1 LK), .slice yo YL yc] 40) (.cells #[.int .i64 (Fx.g0 LK), .string (Fx.g1 LK), .slice fo fl fc] 40)) (HOY.out.reads.below (Kb.keepB HBY.out (Kb.keepB (Kb.keepB HB3.out HBW.out) (Kb.keepB HQ1.out BQ)))) HG1.out.1 HG1.out.2)
            (Fy.one_rd (Kb.h2_1 q1 (.cells #[.int .i64 (Fx.g0 LK), .string (Fx.g1 LK), .slice yo YL yc] 40) (.cells #[.int .i64 (Fx.g0 LK), .string (Fx.g1 LK), .slice fo fl fc] 40)) (FRY.out _ (Kb.keepB (Kb.keepB HWD.out HBC.out) (Kb.keepB HQ1.out BQ))) HG1.out.1 HG1.out.2)
          rw [(Sa.smB_er _ _).2 (by simp only [Nt.er]; rw [HEY.out, HFE.out])] at k1s
          have HQ0 : Hid (Below q1.heap.size q1 ((q1.alloc (.cells #[.int .i64 (Fx.g0 LK), .string (Fx.g1 LK), .slice yo YL yc] 40)).alloc (.cells #[.int .i64 (Fx.g0 LK), .string (Fx.g1 LK), .slice fo fl fc] 40))) := BQ
          clear BQ
          refine k1s.mono ?_
          clear k1s
          rintro _ q2 ⟨rfl, hq2⟩
          have HQ2 : Hid (Below q1.heap.size q1 q2) := Kb.keepB HQ0.out hq2
          have HBD : Hid (Below u2.heap.size u2 q2) := Kb.keepB (Kb.keepB HBC.out HQ1.out) HQ2.out
          clear hq2 HQ0
          go_wp2_with fail
          refine (SU q2 HBD.out).mono ?_
          rintro _ s1 ⟨ks, aks, rfl, hes, hos, hbs⟩
          obtain ⟨so, sc, rfl⟩ := hos.form
          obtain ⟨SL, HSL⟩ : ∃ L, Hid (aks.length = L) := ⟨_, rfl⟩
          rw [HSL.out] at hos ⊢
          have HOS : Hid (Nt.Own s1 q2.heap.size (.slice so SL sc) aks) := hos
          have HES : Hid (Nt.er aks = ST) := hes
          have HS1 : Hid (Below q2.heap.size q2 s1) := hbs
          clear hos hes hbs
          go_wp2_with fail
          refine (SU s1 (Kb.keepB HBD.out HS1.out)).mono ?_
          rintro _ s2 ⟨kt, akt, rfl, het, hot, hbt⟩
          obtain ⟨tto, tc, rfl⟩ := hot.form
          obtain ⟨TL, HTL⟩ : ∃ L, Hid (akt.length = L) := ⟨_, rfl⟩
          rw [HTL.out] at hot ⊢
          have HOT : Hid (Nt.Own s2 s1.heap.size (.slice tto TL tc) akt) := hot
          have HET : Hid (Nt.er akt = ST) := het
          have HS2 : Hid (Below s1.heap.size s1 s2) := hbt
          clear hot het hbt SU
          go_wp2_with fail
          refine (SD s2 (Kb.keepB (Kb.keepB HBD.out HS1.out) HS2.out)).mono ?_
          rintro _ s3 ⟨ku, aku, rfl, heu, hru, hbu⟩
          obtain ⟨uo, uc, eu, -⟩ := hru.row
          obtain ⟨UL, HUL⟩ : ∃ L, Hid (aku.length = L) := ⟨_, rfl⟩
          rw [HUL.out] at eu
          subst eu
          have HRU : Hid (Nt.Rdn s3 (.slice uo UL uc) aku) := hru
          have HEU : Hid (Nt.er aku = ST) := heu
          have HS3 : Hid (Below s2.heap.size s2 s3) := hbu
          clear hru heu hbu SD
          have k3 := Sa.same_any aks aku (.slice so SL sc) (.slice uo UL uc) s3 (HOS.out.reads.below (Kb.keepB HS2.out HS3.out)) HRU.out
          rw [(Sa.smB_er _ _).2 (HES.out.trans HEU.out.symm)] at k3
          go_wp2_with fail
          refine k3.mono ?_
          clear k3
          rintro _ q5 ⟨rfl, hq5⟩
          have HQ5 : Hid (Below s3.heap.size s3 q5) := hq5
          clear hq5
          have k4 := Sa.same_any akt aku (.slice tto TL tc) (.slice uo UL uc) q5 (HOT.out.reads.below (Kb.keepB HS3.out HQ5.out)) (HRU.out.below HQ5.out)
          rw [(Sa.smB_er _ _).2 (HET.out.trans HEU.out.symm)] at k4
          go_wp2_with fail
          refine k4.mono ?_
          clear k4
          rintro _ q6 ⟨rfl, hq6⟩
          have H36 : Hid (Below s3.heap.size s3 q6) := Kb.keepB HQ5.out hq6
          clear hq6 HQ5
          have H26 : Hid (Below q2.heap.size q2 q6) := Kb.keepB (Kb.keepB HS1.out HS2.out) (Kb.keepB HS3.out H36.out)
          have HU6 : Hid (Below u2.heap.size u2 q6) := Kb.keepB HBD.out H26.out
          have HWY6 : Hid (Fy.Way q6 yS.heap.size gw n cw P) := HWY.out.below (Kb.keepB HU2.out HU6.out)
          obtain ⟨m3, m4⟩ := HWY6.out.ends
          have HXB : Hid ((q6.alloc (.cells #[.slice none 0 0, .slice none 0 0] 32)).heap[x1.heap.size]? = some (.cells #[.int .i64 (Fx.g0 LK), .string (Fx.g1 LK), .slice xo XL xc] 40)) := Kb.kept (Kb.keepB (Kb.keepB HQ2.out H26.out) (Kb.below_one q6 _)) HXQ.out
          have HYB : Hid ((q6.alloc (.cells #[.slice none 0 0, .slice none 0 0] 32)).heap[x2.heap.size]? = some (.cells #[.int .i64 (Fx.g0 LK), .string (Fx.g1 LK), .slice yo YL yc] 40)) := Kb.kept (Kb.keepB (Kb.keepB HQ2.out H26.out) (Kb.below_one q6 _)) HYQ.out
          obtain ⟨-, -, p2⟩ := Bs.blk3 HXB.out
          obtain ⟨-, -, r2⟩ := Bs.blk3 HYB.out
          go_wp2_with fail
          clear p2 r2 m3 m4
          have B67 := Kb.below_two q6 (.cells #[.slice none 0 0, .slice none 0 0] 32) (.cells #[.slice xo XL xc, .slice yo YL yc, .slice so SL sc, .slice tto TL tc] 23)
          have hc1 : (Li.lsK akx).length = Ag.cnt (Fx.gk LK) := by rw [Bt.ls_cnt, HEX.out]
          have hc2 : (Li.lsK aky).length = Ag.cnt (Fx.gk LK) := by rw [Bt.ls_cnt, HEY.out]
          have hc3 : (Li.lsK aks).length = Ag.cnt ST := by rw [Bt.ls_cnt, HES.out]
          have hc4 : (Li.lsK akt).length = Ag.cnt ST := by rw [Bt.ls_cnt, HET.out]
          have hc5 := HC2.out
          have hc6 := HC5.out
          have b1 : Below x1.heap.size x1 ((q6.alloc (.cells #[.slice none 0 0, .slice none 0 0] 32)).alloc (.cells #[.slice xo XL xc, .slice yo YL yc, .slice so SL sc, .slice tto TL tc] 23)) := Kb.keepB HBX.out (Kb.keepB (Kb.keepB HBY1.out HBY.out) (Kb.keepB (Kb.keepB HB3.out HBW.out) (Kb.keepB HQ1.out (Kb.keepB HQ2.out (Kb.keepB H26.out B67)))))
          have b2 : Below x2.heap.size x2 ((q6.alloc (.cells #[.slice none 0 0, .slice none 0 0] 32)).alloc (.cells #[.slice xo XL xc, .slice yo YL yc, .slice so SL sc, .slice tto TL tc] 23)) := Kb.keepB HBY.out (Kb.keepB (Kb.keepB HB3.out HBW.out) (Kb.keepB HQ1.out (Kb.keepB HQ2.out (Kb.keepB H26.out B67))))
          have b3 : Below s1.heap.size s1 ((q6.alloc (.cells #[.slice none 0 0, .slice none 0 0] 32)).alloc (.cells #[.slice xo XL xc, .slice yo YL yc, .slice so SL sc, .slice tto TL tc] 23)) := Kb.keepB HS2.out (Kb.keepB HS3.out (Kb.keepB H36.out B67))
          have b4 : Below s2.heap.size s2 ((q6.alloc (.cells #[.slice none 0 0, .slice none 0 0] 32)).alloc (.cells #[.slice xo XL xc, .slice yo YL yc, .slice so SL sc, .slice tto TL tc] 23)) := Kb.keepB HS3.out (Kb.keepB H36.out B67)
          have z1s := HBX1.out.size
          have z2s := HBX.out.size
          have z3s := HBY1.out.size
          have z4s := HBY.out.size
          have z5s := HB3.out.size
          have z6s := HBW.out.size
          have z7s := HQ1.out.size
          have z8s := HQ2.out.size
          have z9s := HS1.out.size
          have z10s := HS2.out.size
          have z11s := HU6.out.size
          have HCH : Bt.Ch ((q6.alloc (.cells #[.slice none 0 0, .slice none 0 0] 32)).alloc (.cells #[.slice xo XL xc, .slice yo YL yc, .slice so SL sc, .slice tto TL tc] 23)) u2.heap.size [(.slice xo XL xc, akx), (.slice yo YL yc, aky), (.slice so SL sc, aks), (.slice tto TL tc, akt)] :=
            ⟨u2.heap.size, x1.heap.size, Nat.le_refl _, z1s, HOX.out.below b1, fun q hq => (HOX.out.lt q hq).2, XR.heap.size, x2.heap.size, z2s, by omega, HOY.out.below b2, fun q hq => (HOY.out.lt q hq).2, q2.heap.size, s1.heap.size, by omega, by omega, HOS.out.below b3, fun q hq => (HOS.out.lt q hq).2, s1.heap.size, s2.heap.size, Nat.le_refl _, z10s, HOT.out.below b4, fun q hq => (HOT.out.lt q hq).2, trivial⟩
          have ow := Bq.owns_any (Bt.ins_of (g0 := q6.heap.size) (ta := ⟨q6.heap.size + 1, 0, none⟩) HCH (Kb.h2_0 _ _ _) (fun i hi => by
              have hR := Kb.h2_1 q6 (.cells #[.slice none 0 0, .slice none 0 0] 32) (.cells #[.slice xo XL xc, .slice yo YL yc, .slice so SL sc, .slice tto TL tc] 23)
              have hcc : ∀ o : Nat, ((q6.alloc (.cells #[.slice none 0 0, .slice none 0 0] 32)).alloc (.cells #[.slice xo XL xc, .slice yo YL yc, .slice so SL sc, .slice tto TL tc] 23)).cell? ⟨q6.heap.size + 1, o, none⟩ = (#[Value.slice xo XL xc, .slice yo YL yc, .slice so SL sc, .slice tto TL tc])[o]? := fun o => cell_of_row _ (q6.heap.size + 1) o _ _ (0, 0) hR
              match i, hi with
              | 0, _ => rw [Nt.add0, hcc]; rfl
              | 1, _ => rw [Nt.add0, hcc]; rfl
              | 2, _ => rw [Nt.add0, hcc]; rfl
              | 3, _ => rw [Nt.add0, hcc]; rfl) (by simp only [Bq.alls, List.length_append, List.length_cons, List.length_nil]; omega)) 4 (by simp)
          have HFL : Hid (∀ b ∈ q6.heap.size :: Bo.obs (Bq.alls [(.slice xo XL xc, akx), (.slice yo YL yc, aky), (.slice so SL sc, aks), (.slice tto TL tc, akt)]), u2.heap.size ≤ b) := Bt.obs_ch HCH (by omega)
          have HB7 : Hid (Below q6.heap.size q6 ((q6.alloc (.cells #[.slice none 0 0, .slice none 0 0] 32)).alloc (.cells #[.slice xo XL xc, .slice yo YL yc, .slice so SL sc, .slice tto TL tc] 23))) := B67
          have HOW2 : Hid (Calls _ _ _ _ _) := ow
          clear ow HCH B67 b1 b2 b3 b4 hc1 hc2 hc3 hc4 hc5 hc6 z1s z2s z3s z4s z5s z6s z7s z8s z9s z10s z11s HXB HYB
          have HW7 : Hid (Below u2.heap.size u2 ((q6.alloc (.cells #[.slice none 0 0, .slice none 0 0] 32)).alloc (.cells #[.slice xo XL xc, .slice yo YL yc, .slice so SL sc, .slice tto TL tc] 23))) := Kb.keepB HU6.out HB7.out
          generalize (q6.alloc (.cells #[.slice none 0 0, .slice none 0 0] 32)).alloc (.cells #[.slice xo XL xc, .slice yo YL yc, .slice so SL sc, .slice tto TL tc] 23) = y7 at *
          refine HOW2.out.mono ?_
          clear HOW2
          intro e y8 hout
          obtain ⟨rfl, ⟨E, lv, mv, hh⟩, hfr⟩ := Bt.held_of hout
          have ks2 := Bs.still_any hh
          have HL8 : Hid (Le.Lnt y8 u1.heap.size (.slice (some ⟨g5, 0, none⟩) N5 cap5) a5) := Fy.lnt_fr (HL5.out.below HW7.out) hfr (fun b hb hm => by
              have h1 := (HL5.out.lt b hb).2
              have h2 := HFL.out b hm
              omega)
          have HWY8 : Hid (Fy.Way y8 yS.heap.size gw n cw P) := by
            have h7 := HWY.out.below (Kb.keepB HU2.out HW7.out)
            have hlt := HWY.out.lt.2
            have hs2 := HU2.out.size
            exact h7.keep (hfr.block gw h7.lt.2 fun hm => by have := HFL.out gw hm; omega)
          have HB8 : Hid (Below w.heap.size w y8) := Bt.fr_below (Kb.keepB HWD.out HW7.out) (Kb.keepB HWD.out HW7.out).size hfr fun b hb => Nat.le_trans HWD.out.size (HFL.out b hb)
          clear hout hfr hh HFL
          go_wp2_with fail
          refine ks2.mono ?_
          clear ks2
          rintro _ y9 ⟨rfl, h9⟩
          have H9 : Hid (Below y8.heap.size y8 y9) := h9
          clear h9
          have kp := Ke.kept_any a5 ts0 (.slice (some ⟨g5, 0, none⟩) N5 cap5) (.slice lo NL lc) y9 u1.heap.size (HL8.out.below H9.out) (HL.out.below (Kb.keepB HB8.out H9.out)) HE5.out
          go_wp2_with fail
          refine kp.mono ?_
          clear kp
          rintro _ y10 ⟨rfl, h10⟩
          have H10 : Hid (Below w.heap.size w y10) := Kb.keepB (Kb.keepB HB8.out H9.out) h10
          have HWY10 : Hid (Fy.Way y10 yS.heap.size gw n cw P) := HWY8.out.below (Kb.keepB H9.out h10)
          clear h10 H9
          go_wp2_with fail
          go_loopw [32] (fun vi wx => ∃ k : Nat, k ≤ n ∧ vi = .int .i64 (k : Int) ∧ Hid (Below w.heap.size w wx ∧ Fy.Way wx yS.heap.size gw n cw P)) (fun vi _ => n + 1 - (intOf vi).toNat)
          case atStart => exact ⟨0, Nat.zero_le _, rfl, H10.out, HWY10.out⟩
          case round =>
            obtain ⟨k, hk, rfl, HK⟩ := hrel
            rename World => wz
            by_cases hkn : k < n
            · have q1 : (k : Int) < (n : Int) := by omega
              have q1b : (k : Int) < (n : Int) + 2 := by omega
              have q1c : (k : Int) < (PN : Int) := by omega
              have hkz : k < z1.length := by rw [HZL.out]; omega
              have cw1 := HK.out.2.cell k hkn
              obtain ⟨po', pc', ep', _, hcp⟩ := Fd.ints_below HK.out.1 HIN.out
              obtain ⟨pa, epa, cpz⟩ := hcp k hkz
              rw [HZL.out] at ep'
              obtain ⟨rfl, rfl⟩ : po = po' ∧ pc = pc' := by simpa using ep'
              subst epa
              have hPk : P[k]'(by rw [HWY10.out.len]; exact hkn) = z1[k] := by
                have hp := HP.out
                subst hp
                exact List.getElem_take
              rw [hPk] at cw1
              generalize z1[k] = zk at *
              clear hcp ep' hPk
              go_wp2_with fail
              go_quiet (fail)
              have HK2b : Hid (Below w.heap.size w (wz.drewN nq) ∧ Fy.Way (wz.drewN nq) yS.heap.size gw n cw P) := ⟨Kb.below_drewN HK.out.1 nq, HK.out.2.below (Kb.below_drewN (Below.refl _ _) nq)⟩
              clear cw1 cpz
              go_wp2_with fail
              exact ⟨⟨k + 1, by omega, by go_num, HK2b.out⟩, by simp [intOf]; omega⟩
            · have q1 : ¬ (k : Int) < (n : Int) := by omega
              go_wp2
              go_ret
              exact ⟨by simp, HK.out.1⟩

set_option maxRecDepth 100000 in
theorem contract (H : Type) (enc : TypeId × Value → H) (W : World) (base : Nat) (args : Array Value) (ds gs : List (DataW H)) (before : List MemPlace)
    (hval : ∀ (j : Nat) t v, Try.f7.params[j]? = some t → args[j]? = some v → Value.okWide Try.prog W .any base t v)
    (hW : DataW.Whole enc Try.prog Try.f7.params.toList Rows.tlvFindsSpec.vars false W args.toList ds gs before) (hk : Rows.uptoSmall H (ds ++ gs) = true) :
    Calls Try.prog 7 args W fun e W' => ∃ v, e = .returned v ∧ Rows.tlvFindsSpec.post enc Try.prog Try.f7 false true false false W args v W' := by
  have hW' := hW
  obtain ⟨p, q, hA0, hV, rfl, hfz, hnd⟩ := hW
  have hA : DataW.TrodAll enc Try.prog W 0 (fun _ => true) true Try.f7.params.toList args.toList ds p := hA0
  rw [Try.params7] at hA hval
  obtain ⟨v0, vs0, d0, ds0, p0, q0, hargs, rfl, rfl, h0, r0⟩ := trodAll_cons hA
  obtain ⟨v1, vs1, d1, ds1, p1, q1, rfl, rfl, rfl, h1, r1⟩ := trodAll_cons r0
  obtain ⟨v2, vs2, d2, ds2, p2, q2, rfl, rfl, rfl, h2, r2⟩ := trodAll_cons r1
  obtain ⟨rfl, rfl, rfl⟩ := trodAll_nil r2
  obtain rfl : args = #[v0, v1, v2] := by cases args; simp_all
  obtain ⟨rfl, rfl⟩ := trodVars_none hV
  obtain ⟨z1, w1, lt1, bulk1⟩ := Sl.open_sl (hval 1 30 v1 rfl rfl) h1
  obtain ⟨a2, rfl, rfl, rfl, w2⟩ := open_string Try.underlying9 (hval 2 9 v2 rfl rfl) h2
  clear hA0
  simp only [List.append_nil] at hk
  have hk1 := of_decide_eq_true hk
  simp only [Rows.uptoBulkAll, Rows.uptoBulk] at hk1
  obtain ⟨ts0, w0, lt0⟩ := On.open_nodes (hval 0 23 v0 rfl rfl) h0 (by omega)
  have e2 : a2.data.toList.length = a2.size := by rw [Array.length_toList]; rfl
  have e1 := bulk1
  refine (walk v0 ts0 v1 z1 a2 W w0 w1 w2 (by omega) (by omega)).mono fun e W' ⟨he, bel⟩ => ?_
  subst he
  exact ⟨_, rfl, _, _, _, [], _, [], hW', trodAll_mk1 (shut_bool Try.underlying4 _), (trodAll_cons_mk (Below.trod (by kernel_rfl) (by kernel_rfl) (of_decide_eq_true (by kernel_rfl)) h0 bel lt0) (trodAll_cons_mk (Below.trod (by kernel_rfl) (by kernel_rfl) (of_decide_eq_true (by kernel_rfl)) h1 bel lt1) (trodAll_cons_mk (shut_string Try.underlying9 w2) trodAll_mk0))), rfl, bel.frame _, fun h => by cases h⟩

set_option maxRecDepth 100000 in
theorem lifted (os : Os) (started : os.Started) (H : Type) (enc : TypeId × Value → H) (F : Stop.Interp) :
    ReturnsInHanded {} Try.checked os 7 .any ((Rows.OpenSpec.upto Rows.tlvFindsSpec).pre6 enc Try.prog Try.f7 Rows.tlvFindsUptoRow.domain false) (((Rows.OpenSpec.upto Rows.tlvFindsSpec).at F).post enc Try.prog Try.f7 false true false false) := by
  refine returnsInHanded_of_cond (C := Try.checked) (s := Rows.OpenSpec.upto Rows.tlvFindsSpec) (k := Rows.uptoSmall) rfl own started (by kernel_rfl) Try.func7
    (OpenSpec.witness (enc := enc) (C := Try.checked) (s := Rows.OpenSpec.upto Rows.tlvFindsSpec) (k := Rows.uptoSmall) rfl false ⟨#[], #[.slice none 0 0, .slice none 0 0, .string .empty], []⟩ 8 (by kernel_rfl) (by kernel_rfl) (by kernel_rfl)
      (x := ([.nil, .nil, .lit (.string [])], [], [])) (by kernel_rfl) rfl (by kernel_rfl)) ?_
  intro W base args ds gs before hval hW _ hk _
  exact contract H enc W base args ds gs before hval hW hk

theorem proved : Rows.TlvFindsUptoSaid :=
  OpenClaim.holds_of_cond 7 Try.f7 rfl rfl rfl rfl rfl rfl rfl ⟨rfl, rfl, rfl, rfl, rfl⟩ rfl rfl rfl rfl rfl (by kernel_rfl) Try.func7 (by kernel_rfl)
    (of_decide_eq_true (by kernel_rfl)) (by unfold Func.isWrapper; first | (rw [if_pos (by decide +kernel)]; kernel_rfl) | (rw [if_neg (by decide +kernel)]; exact ⟨rfl, rfl⟩))
    (fun os started H enc _ F => lifted os started H enc F)
#print axioms proved
end Go.Proofs.Ytgidjfhlooggkaa.tlvFinds
