/- FrameFeeds: the law out of the contracts; the frame of the row. -/
import Derived.Test.YtfoddooehanemaaRows
import Derived.WalkKit
import Derived.ProofKit
import Derived.OpenShut
import Derived.ShutString
import Derived.ChangeOld
import Derived.Below
import Derived.JoinedCond
import Derived.Carry
import Derived.SizedLaws
import Derived.Test.YtfoddooehanemaaFj
import Derived.Test.YtfoddooehanemaaEf
import Derived.Test.YtfoddooehanemaaSo
namespace Go.Proofs.Ytfoddooehanemaa.frameFeeds
open Go.ChangeShapes Go.WideShapes Go.ChangeAt Go.RowKit
open Go.ChangeMaps (open_string shut_string)
set_option linter.unusedVariables false

theorem own : ownKnob Try.prog.godebug = none := by kernel_rfl

open Fa Fb Fm Ff Fg Fk Fu Fv Eb Ec Da Db Dc De Ef
theorem fin0 (h m : Nat) : Fnl h m ⟨#[]⟩ = ⟨.hdr [], 0, []⟩ := rfl
set_option maxRecDepth 100000 in
set_option maxHeartbeats 12800000 in
theorem walk (a0 : Int) (a1 : Int) (v2 : Value) (z2 : List So.Opv) (w : World) (w0 : (Lit.int .i64 a0).wf = true) (w1 : (Lit.int .i64 a1).wf = true) (w2 : So.Lies w v2 z2 1048576) (k2 : z2.length ≤ 1048576) :
    Calls Try.prog 3 #[.int .i64 a0, .int .i64 a1, v2] w fun e w' => e = .returned (.bool true) ∧ Below w.heap.size w w' := by
  have HS2 : Hid (So.Lies w v2 z2 1048576) := w2
  have hz2 : (z2.length : Int) ≤ 1048576 := by omega
  obtain ⟨so, scap, hv2, _⟩ := w2
  subst hv2
  cases hr : rgt a0 a1 with
  | false =>
    have pn := fun x => Fe.new_bad a0 a1 hr x
    have pr := fun x => Dc.newr_bad a0 a1 hr x
    go_enter Try.func3, Try.ntmps3
    go_wp2_with fail
    refine (Fj.examples_any _).mono ?_
    rintro e y0 ⟨rfl, B0⟩
    have HB0 : Hid (Below w.heap.size w y0) := B0
    clear B0
    go_wp2_with fail
    refine (pn _).mono ?_
    rintro e y ⟨rfl, hy⟩
    rw [hy]
    clear hy y
    go_wp2_with fail
    refine (pn _).mono ?_
    rintro e y ⟨rfl, hy⟩
    rw [hy]
    clear hy y
    go_wp2_with fail
    refine (pr _).mono ?_
    rintro e y ⟨rfl, hy⟩
    rw [hy]
    clear hy y
    go_wp2_with fail
    refine (pr _).mono ?_
    rintro e y ⟨rfl, hy⟩
    rw [hy]
    clear hy y
    go_wp2_with fail
    go_ret
    exact ⟨rfl, HB0.out⟩
  | true =>
    obtain ⟨h, m, rfl, rfl, h1, h4, m1, m9⟩ := Fh.rgt_nat hr
    have HR : Hid (1 ≤ h ∧ h ≤ 4 ∧ m ≤ 9999 ∧ rgt (h : Int) (m : Int) = true) := ⟨h1, h4, m9, hr⟩
    clear h1 h4 m1 m9 hr w0 w1
    go_enter Try.func3, Try.ntmps3
    go_wp2_with fail
    refine (Fj.examples_any _).mono ?_
    rintro e y0 ⟨rfl, B0⟩
    have HB0 : Hid (Below w.heap.size w y0) := B0
    clear B0
    go_wp2_with fail
    refine (new_lie h m HR.out.2.2.2 _).mono ?_
    rintro e y1 ⟨rfl, La, B1⟩
    have HLa : Hid (Lie y1 y0.heap.size h m (.hdr []) 0 none) := La
    have HB1 : Hid (Below y0.heap.size y0 y1) := B1
    clear La B1
    go_wp2_with fail
    refine (new_lie h m HR.out.2.2.2 _).mono ?_
    rintro e y2 ⟨rfl, Lb, B2⟩
    have HLb : Hid (Lie y2 y1.heap.size h m (.hdr []) 0 none) := Lb
    have HB2 : Hid (Below y1.heap.size y1 y2) := B2
    clear Lb B2
    go_wp2_with fail
    refine (newr_any h m HR.out.2.2.2 _).mono ?_
    rintro e y3 ⟨rfl, Dx, B3⟩
    have HDx : Hid (Dm y3 y2.heap.size h m ⟨#[]⟩ 0 0) := Dx
    have HB3 : Hid (Below y2.heap.size y2 y3) := B3
    clear Dx B3
    go_wp2_with fail
    refine (newr_any h m HR.out.2.2.2 _).mono ?_
    rintro e y4 ⟨rfl, Dy, B4⟩
    obtain ⟨y5, hy5⟩ : ∃ y5, y4.alloc (.cells #[.slice none 0 0] 34) = y5 := ⟨_, rfl⟩
    have B5 : Below y4.heap.size y4 y5 := hy5 ▸ Kb.below_one y4 _
    have hk5 : y5.heap[y4.heap.size]? = some (.cells #[.slice none 0 0] 34) := hy5 ▸ Kb.h1_0 y4 _
    have s0 := HB0.out.size
    have l1 := HLa.out.lt
    have l2 := HLb.out.lt
    have l3 := HDx.out.lt
    have l4 := Dy.lt
    have BB : Below w.heap.size w y4 := Kb.keepB (Kb.keepB (Kb.keepB (Kb.keepB HB0.out HB1.out) HB2.out) HB3.out) B4
    have HI0 : Hid (LI w y5 y4.heap.size (.slice none 0 0) [] h m 0 y0.heap.size y2.heap.size ⟨#[]⟩ 0 none y1.heap.size y3.heap.size ⟨#[]⟩ 0 none) :=
      ⟨⟨by rw [fin0]; exact (((HLa.out.below HB2.out).below HB3.out).below B4).below B5, by rw [fin0]; exact (HDx.out.below B4 l3).below B5 (by have := B4.size; omega), by omega, by omega, fun q hq => (by cases hq)⟩,
       ⟨by rw [fin0]; exact ((HLb.out.below HB3.out).below B4).below B5, by rw [fin0]; exact Dy.below B5 l4, by omega, by omega, fun q hq => (by cases hq)⟩,
       Bk.empty hk5 (by have := BB.size; omega), Kb.keepB BB B5, by omega, by omega, fun q hq => (by cases hq), Nat.zero_le _, Nat.zero_le _, Nat.le_refl _, fun e he => (by cases he)⟩
    have HY5 : Hid (y4.alloc (.cells #[.slice none 0 0] 34) = y5) := hy5
    obtain ⟨ga, hga⟩ : ∃ ga, y0.heap.size = ga := ⟨_, rfl⟩
    obtain ⟨gb, hgb⟩ : ∃ gb, y1.heap.size = gb := ⟨_, rfl⟩
    obtain ⟨dx, hdx⟩ : ∃ dx, y2.heap.size = dx := ⟨_, rfl⟩
    obtain ⟨dy, hdy⟩ : ∃ dy, y3.heap.size = dy := ⟨_, rfl⟩
    obtain ⟨g0, hg0⟩ : ∃ g0, y4.heap.size = g0 := ⟨_, rfl⟩
    rw [hga, hgb, hdx, hdy, hg0] at HI0
    rw [hga, hgb, hdx, hdy]
    have HG0 : Hid (y4.heap.size = g0) := hg0
    clear hy5 B5 hk5 BB Dy B4 HDx HB3 HLb HB2 HLa HB1 HB0 s0 l1 l2 l3 l4 hga hgb hdx hdy hg0
    go_wp2_with fail
    rw [HY5.out, HG0.out]
    clear HY5 HG0
    go_loopw [17] (fun iv wr => ∃ (k : Nat), iv = .int .i64 (k : Int) ∧ k ≤ z2.length ∧ ∃ (bv : Value) (E : List En) (S1 : ByteArray) (i1 : Nat) (bb1 : Option Nat) (S2 : ByteArray) (i2 : Nat) (bb2 : Option Nat), LI w wr g0 bv E h m k ga dx S1 i1 bb1 gb dy S2 i2 bb2) (fun iv _ => z2.length + 1 - (intOf iv).toNat)
    case atStart => exact ⟨0, rfl, Nat.zero_le _, _, _, _, _, _, _, _, _, HI0.out⟩
    case round =>
      obtain ⟨k, rfl, hk, bv, E, S1, i1, bb1, S2, i2, bb2, I⟩ := hrel
      clear HI0
      by_cases hc : k < z2.length
      · have q0 : (k : Int) < (z2.length : Int) := by omega
        have q1 : (0 : Int) ≤ (k : Int) := by omega
        obtain ⟨so', scap', hso, hat⟩ := HS2.out
        injection hso with hso1 _ hso2
        subst hso1 hso2
        obtain ⟨oa, rfl, hat1, hfine⟩ := hat k hc
        obtain ⟨t0, t1, t2⟩ := So.at_below hat1 rfl I.bel
        have r1 := t1
        have r2 := t2
        rw [So.add_field _ _ _ (by decide)] at r1 r2
        have hsz := hfine.2
        have HI : Hid (LI w wr g0 bv E h m k ga dx S1 i1 bb1 gb dy S2 i2 bb2) := I
        have HC : Hid (k < z2.length) := hc
        generalize z2[k] = op at *
        obtain ⟨ok, ot, os⟩ := op
        simp only at t0 t1 t2 r1 r2 hsz
        clear hat hat1 hfine I hc hk
        cases ot with
        | false =>
          have HI2 : Hid (LI w wr g0 bv E h m k ga dx S1 i1 bb1 gb dy S2 i2 bb2) := HI.out
          clear HI
          by_cases hk1 : ok = 1
          · subst hk1
            go_wp2_with fail
            obtain ⟨yo, hyo⟩ : ∃ yo, wr.alloc (.cells #[.int .i64 1, .bool false, .string os] 36) = yo := ⟨_, rfl⟩
            have Bo : Below wr.heap.size wr yo := hyo ▸ Kb.below_one wr _
            have hpo : yo.heap[wr.heap.size]? = some (.cells #[.int .i64 1, .bool false, .string os] 36) := hyo ▸ Kb.h1_0 wr _
            have HIo : Hid (LI w yo g0 bv E h m k ga dx S1 i1 bb1 gb dy S2 i2 bb2) := HI2.out.below Bo
            have hpl : wr.heap.size < yo.heap.size := (Array.getElem?_eq_some_iff.1 hpo).1
            have hgw := HI2.out.p1.lie.lt
            have hdw := HI2.out.p1.dm.lt
            have hbw := fun q hq => (HI2.out.p1.lie.blt q hq).1
            obtain ⟨p, hp⟩ : ∃ p, wr.heap.size = p := ⟨_, rfl⟩
            rw [hyo, hp]
            rw [hp] at hpo hpl hgw hdw hbw
            have HPO : Hid (yo.heap[p]? = some (.cells #[.int .i64 1, .bool false, .string os] 36)) := hpo
            have HBW : Hid (∀ q, bb1 = some q → q < p) := hbw
            clear hyo Bo hpo hp hbw t0 t1 t2 r1 r2 HI2
            refine (Ea.lent_any os hsz yo).mono ?_
            rintro e yl ⟨rfl, hgl, Bl⟩
            have HIl : Hid (LI w yl g0 bv E h m k ga dx S1 i1 bb1 gb dy S2 i2 bb2) := HIo.out.below Bl
            obtain ⟨gl, hgle⟩ : ∃ gl, yo.heap.size = gl := ⟨_, rfl⟩
            have hwgl : w.heap.size ≤ gl := by rw [← hgle]; exact HIo.out.bel.size
            have hbo1 : ∀ q, bb1 = some q → q ≠ yo.heap.size := fun q hq => Nat.ne_of_lt (HIo.out.p1.lie.blt q hq).1
            have hbo2 : ∀ q, bb2 = some q → q ≠ yo.heap.size := fun q hq => Nat.ne_of_lt (HIo.out.p2.lie.blt q hq).1
            have hpgl : p < yo.heap.size := hpl
            have hggl : ga ≠ yo.heap.size := Nat.ne_of_lt HIo.out.p1.lie.lt
            have hplk : yl.heap[p]? = some (.cells #[.int .i64 1, .bool false, .string os] 36) := (Bl.block p hpl).trans HPO.out
            rw [hgle] at hgl hbo1 hbo2 hpgl hggl ⊢
            have HGL : Hid (yl.heap[gl]? = some (.cells (Lib0.bs (Ea.mk9 os)).toArray 5)) := hgl
            have HPL : Hid (yl.heap[p]? = some (.cells #[.int .i64 1, .bool false, .string os] 36)) := hplk
            have cl2 : yl.cell? ⟨p, 2, none⟩ = some (.string os) := by unfold World.cell?; rw [hplk]; rfl
            have HB1 : Hid (∀ q, bb1 = some q → q ≠ gl) := hbo1
            have HB2 : Hid (∀ q, bb2 = some q → q ≠ gl) := hbo2
            have hgll : gl < yl.heap.size := (Array.getElem?_eq_some_iff.1 hgl).1
            have hbnd0 : i1 + S1.size ≤ 1099511627776 := by have h8 := HIl.out.s1; have h9 := HC.out; have h7 : k * 1048576 ≤ 1048576 * 1048576 := Nat.mul_le_mul_right _ (by omega); omega
            have hidl : (Fnl h m S1).idle ≤ S1.size := by
              have := (run_cnt h m S1.data.toList ⟨.hdr [], 0, []⟩).1
              have hsl : S1.data.toList.length = S1.size := rfl
              rw [hsl] at this
              simpa [Fnl] using this
            have FD := feed_any HIl.out.p1.lie HR.out.1 HR.out.2.1 HR.out.2.2.1 gl 0 (os.size + 9) os.data.toList (show os.size ≤ os.size + 9 by omega) (inb_mk9 hgl) hggl.symm (fun q hq => (HB1.out q hq).symm) hgll (show i1 + (Fnl h m S1).idle + os.size ≤ _ by omega) (show os.size ≤ _ by omega)
            rw [run_shift] at FD
            replace FD : Calls Try.prog 12 #[.pointer (some ⟨ga, 0, none⟩), .slice (some ⟨gl, 0, none⟩) os.size (os.size + 9)] yl (PostF yl ga h m bb1 ⟨(got h m S1 os).st, i1 + (got h m S1 os).idle, (got h m S1 os).out⟩) := FD
            have hosI : (os.size : Int) ≤ 1048576 := by omega
            clear hgl hplk hbo1 hbo2 Bl HIo HPO hgle hpl
            go_wp2_with fail
            refine FD.mono ?_
            rintro e ya ⟨l, bb', rfl, ownL, La, nb, fa, _⟩
            rw [show errN (⟨(got h m S1 os).st, i1 + (got h m S1 os).idle, (got h m S1 os).out⟩ : M).st = errN (got h m S1 os).st from rfl]
            clear FD cl2
            have mem1 : ∀ q, q ∈ ga :: bb1.toList → q = ga ∨ bb1 = some q := fun q hq => (List.mem_cons.1 hq).elim .inl (fun h => .inr (by simpa using h))
            have hpn : p ∉ ga :: bb1.toList := fun hm => (mem1 _ hm).elim (fun e => by omega) (fun e => by have := HBW.out _ e; omega)
            have hgn : gl ∉ ga :: bb1.toList := fun hm => (mem1 _ hm).elim (fun e => hggl e.symm) (fun e => HB1.out _ e rfl)
            have tg1 := lie_ty HIl.out.p1.lie
            have td1 := dm_ty HIl.out.p1.dm
            have hdn : dx ∉ ga :: bb1.toList := fun hm => (mem1 _ hm).elim (fun e => ty_ne tg1.1 td1 (by decide) e.symm) (fun e => ty_ne (tg1.2 _ e) td1 (by decide) rfl)
            have hpa := (fa.block p (by omega) hpn).trans HPL.out
            have hga2 := (fa.block gl hgll hgn).trans HGL.out
            have Da := dm_fr HIl.out.p1.dm fa hdn
            have ca2 : ya.cell? ⟨p, 2, none⟩ = some (.string os) := by unfold World.cell?; rw [hpa]; rfl
            have FR := feedr_any Da rfl HR.out.1 HR.out.2.1 HR.out.2.2.1 os (by omega)
            have HLa : Hid (Lie ya ga h m (got h m S1 os).st (i1 + (got h m S1 os).idle) bb') := La
            have HNB : Hid (∀ q, bb' = some q → bb1 = some q ∨ yl.heap.size ≤ q) := nb
            have HFA : Hid (Fr (ga :: bb1.toList) yl ya) := fa
            have HOL : Hid (ya.ownsRow yl.heap.size 9 1 l (got h m S1 os).out.length (strs (got h m S1 os).out)) := ownL
            have HPA : Hid (ya.heap[p]? = some (.cells #[.int .i64 1, .bool false, .string os] 36)) := hpa
            have HGA : Hid (ya.heap[gl]? = some (.cells (Lib0.bs (Ea.mk9 os)).toArray 5)) := hga2
            have HTD : Hid (Ty ya dx 72) := dm_ty Da
            have hdp : dx ≠ p := by omega
            have hdgl : dx ≠ gl := ty_ne (dm_ty Da) ⟨_, _, hga2⟩ (by decide)
            have hgal : gl < ya.heap.size := (Array.getElem?_eq_some_iff.1 hga2).1
            have hpal : p < ya.heap.size := (Array.getElem?_eq_some_iff.1 hpa).1
            clear La nb fa ownL hpa hga2 Da tg1 td1 hdn hpn hgn mem1 hidl
            go_wp2_with fail
            refine FR.mono ?_
            rintro e yb ⟨mv, rfl, ownM, fb, Db⟩
            clear FR ca2
            have hpb := (fb.block p hpal (by simp; exact hdp.symm)).trans HPA.out
            have hgb2 := (fb.block gl hgal (by simp; exact hdgl.symm)).trans HGA.out
            have cb2 : yb.cell? ⟨p, 2, none⟩ = some (.string os) := by unfold World.cell?; rw [hpb]; rfl
            have BK := Ea.back_any os hsz gl (os.size + 9) yb hgb2
            have HFB : Hid (Fr [dx] ya yb) := fb
            have HDB : Hid (Dm yb dx h m (nxt h m S1 os) (Fnl h m (nxt h m S1 os)).out.length i1) := Db
            have HOM : Hid (yb.ownsRow ya.heap.size 9 1 mv (got h m S1 os).out.length (strs (got h m S1 os).out)) := ownM
            have HTG : Hid (Ty yb gl 5) := ⟨_, _, hgb2⟩
            clear fb Db ownM hpb hgb2
            go_wp2_with fail
            refine BK.mono ?_
            rintro e yc ⟨rfl, fc⟩
            clear BK cb2
            have HIc : Hid (LI w yc g0 bv E h m (k + 1) ga dx (nxt h m S1 os) i1 bb' gb dy S2 i2 bb2) := HIl.out.feed os hsz ⟨_, _, HGL.out⟩ hwgl HB1.out HB2.out HLa.out HNB.out HFA.out HDB.out HFB.out fc
            have ol := own_tyk (own_tyk HOL.out HFB.out (by intro q hq; rw [List.mem_singleton.1 hq]; exact ⟨_, HTD.out, by decide⟩)) fc (by intro q hq; rw [List.mem_singleton.1 hq]; exact ⟨_, HTG.out, by decide⟩)
            have om := own_tyk HOM.out fc (by intro q hq; rw [List.mem_singleton.1 hq]; exact ⟨_, HTG.out, by decide⟩)
            have hol : (got h m S1 os).out.length ≤ 1048576 := by
              have := (run_cnt h m os.data.toList ⟨(Fnl h m S1).st, (Fnl h m S1).idle, []⟩).2
              have hsl : os.data.toList.length = os.size := rfl
              rw [hsl] at this
              simp only [List.length_nil, Nat.zero_add] at this
              exact Nat.le_trans this hsz
            have hbas : w.heap.size ≤ yl.heap.size := HIl.out.bel.size
            have hbas2 : w.heap.size ≤ ya.heap.size := Nat.le_trans hbas HFA.out.size
            have TK := takes_any HIc.out.bk HIc.out.bel.size l mv (got h m S1 os).out (own_base ol hbas) (own_base om hbas2) (by omega) (by have := HIl.out.en; have := HC.out; omega) (fun e he q hq hq2 => by
              have h1 := (own_lo (HIl.out.bk.own e he) q hq).2
              have h2 := (own_lo HOL.out q hq2).1
              omega)
            have HLE : Hid (E.length + 1 ≤ k + 1 ∧ (got h m S1 os).out.length ≤ 1048576) := ⟨by have := HIl.out.en; omega, hol⟩
            clear ol om fc hol hbas hbas2
            go_wp2_with fail
            refine TK.mono ?_
            rintro e yd ⟨rfl, bv', Kd, fd⟩
            have HF : Hid (LI w yd g0 bv' (E ++ [(l, mv, (got h m S1 os).out)]) h m (k + 1) ga dx (nxt h m S1 os) i1 bb' gb dy S2 i2 bb2) := HIc.out.takes Kd fd HLE.out.1 HLE.out.2
            clear TK Kd fd HIl HGL HPL HB1 HB2 HLa HNB HFA HOL HPA HGA HTD HFB HDB HOM HTG HIc HLE
            go_wp2_with fail
            have hbnd : i1 + (nxt h m S1 os).size ≤ 1099511627776 := by have h8 := HF.out.s1; have h9 := HC.out; have h7 : (k + 1) * 1048576 ≤ 1048576 * 1048576 := Nat.mul_le_mul_right _ (by omega); omega
            refine (waits_any HF.out.p1.lie HR.out.1 HR.out.2.1 HR.out.2.2.1).mono ?_
            rintro e z1 ⟨rfl, C1⟩
            have HF1 : Hid (LI w z1 g0 bv' (E ++ [(l, mv, (got h m S1 os).out)]) h m (k + 1) ga dx (nxt h m S1 os) i1 bb' gb dy S2 i2 bb2) := HF.out.below C1
            clear C1 HF
            go_wp2_with fail
            refine (waitsr_any HF1.out.p1.dm HR.out.1 HR.out.2.1 HR.out.2.2.1 (by omega)).mono ?_
            rintro e z2' ⟨rfl, C2⟩
            have HF2 : Hid (LI w z2' g0 bv' (E ++ [(l, mv, (got h m S1 os).out)]) h m (k + 1) ga dx (nxt h m S1 os) i1 bb' gb dy S2 i2 bb2) := HF1.out.below C2
            clear C2 HF1
            go_wp2_with fail
            refine (idle_any HF2.out.p1.lie).mono ?_
            rintro e z3 ⟨rfl, hz3⟩
            rw [hz3]
            clear hz3 z3
            go_wp2_with fail
            refine (idler_any HF2.out.p1.dm HR.out.1 HR.out.2.1 HR.out.2.2.1 (by omega) (by omega)).mono ?_
            rintro e z4 ⟨rfl, C4⟩
            have HF4 : Hid (LI w z4 g0 bv' (E ++ [(l, mv, (got h m S1 os).out)]) h m (k + 1) ga dx (nxt h m S1 os) i1 bb' gb dy S2 i2 bb2) := HF2.out.below C4
            clear C4 HF2
            go_wp2_with fail
            refine ⟨⟨k + 1, by simp, HC.out, bv', (E ++ [(l, mv, (got h m S1 os).out)]), (nxt h m S1 os), i1, bb', S2, i2, bb2, HF4.out⟩, ?_⟩
            simp only [intOf]
            have := HC.out
            omega
          · by_cases hk2 : ok = 2
            · subst hk2
              go_wp2_with fail
              obtain ⟨yo, hyo⟩ : ∃ yo, wr.alloc (.cells #[.int .i64 2, .bool false, .string os] 36) = yo := ⟨_, rfl⟩
              have Bo : Below wr.heap.size wr yo := hyo ▸ Kb.below_one wr _
              have hpo : yo.heap[wr.heap.size]? = some (.cells #[.int .i64 2, .bool false, .string os] 36) := hyo ▸ Kb.h1_0 wr _
              have HIo : Hid (LI w yo g0 bv E h m k ga dx S1 i1 bb1 gb dy S2 i2 bb2) := HI2.out.below Bo
              have hpl : wr.heap.size < yo.heap.size := (Array.getElem?_eq_some_iff.1 hpo).1
              have hgw := HI2.out.p1.lie.lt
              have hdw := HI2.out.p1.dm.lt
              have hbw := fun q hq => (HI2.out.p1.lie.blt q hq).1
              obtain ⟨p, hp⟩ : ∃ p, wr.heap.size = p := ⟨_, rfl⟩
              rw [hyo, hp]
              rw [hp] at hpo hpl hgw hdw hbw
              have HPO : Hid (yo.heap[p]? = some (.cells #[.int .i64 2, .bool false, .string os] 36)) := hpo
              have HBW : Hid (∀ q, bb1 = some q → q < p) := hbw
              clear hyo Bo hpo hp hbw t0 t1 t2 r1 r2 HI2
              have hbnd0 : i1 + S1.size ≤ 1099511627776 := by have h8 := HIo.out.s1; have h9 := HC.out; have h7 : k * 1048576 ≤ 1048576 * 1048576 := Nat.mul_le_mul_right _ (by omega); omega
              refine (reset_any HIo.out.p1.lie).mono ?_
              rintro e ya ⟨rfl, La, fa⟩
              have hgd : dx ≠ ga := (ty_ne (lie_ty HIo.out.p1.lie).1 (dm_ty HIo.out.p1.dm) (by decide)).symm
              have Da := dm_fr HIo.out.p1.dm fa (by simp; exact hgd)
              have RR := resetr_any Da HR.out.1 HR.out.2.1 HR.out.2.2.1 (by omega) (by omega)
              have HLa : Hid (Lie ya ga h m (.hdr []) (i1 + (Fnl h m S1).idle) none) := La
              have HFA : Hid (Fr [ga] yo ya) := fa
              clear La fa Da
              go_wp2_with fail
              refine RR.mono ?_
              rintro e yb ⟨rfl, Db, fb⟩
              have HF : Hid (LI w yb g0 bv E h m (k + 1) ga dx ⟨#[]⟩ (i1 + (Fnl h m S1).idle) none gb dy S2 i2 bb2) := (HIo.out.reset HLa.out HFA.out Db fb).next
              clear RR Db fb HIo HLa HFA HPO HBW
              go_wp2_with fail
              have hbnd : (i1 + (Fnl h m S1).idle) + (⟨#[]⟩ : ByteArray).size ≤ 1099511627776 := by have h8 := HF.out.s1; have h9 := HC.out; have h7 : (k + 1) * 1048576 ≤ 1048576 * 1048576 := Nat.mul_le_mul_right _ (by omega); omega
              refine (waits_any HF.out.p1.lie HR.out.1 HR.out.2.1 HR.out.2.2.1).mono ?_
              rintro e z1 ⟨rfl, C1⟩
              have HF1 : Hid (LI w z1 g0 bv E h m (k + 1) ga dx (⟨#[]⟩ : ByteArray) (i1 + (Fnl h m S1).idle) none gb dy S2 i2 bb2) := HF.out.below C1
              clear C1 HF
              go_wp2_with fail
              refine (waitsr_any HF1.out.p1.dm HR.out.1 HR.out.2.1 HR.out.2.2.1 (by omega)).mono ?_
              rintro e z2' ⟨rfl, C2⟩
              have HF2 : Hid (LI w z2' g0 bv E h m (k + 1) ga dx (⟨#[]⟩ : ByteArray) (i1 + (Fnl h m S1).idle) none gb dy S2 i2 bb2) := HF1.out.below C2
              clear C2 HF1
              go_wp2_with fail
              refine (idle_any HF2.out.p1.lie).mono ?_
              rintro e z3 ⟨rfl, hz3⟩
              rw [hz3]
              clear hz3 z3
              go_wp2_with fail
              refine (idler_any HF2.out.p1.dm HR.out.1 HR.out.2.1 HR.out.2.2.1 (by omega) (by omega)).mono ?_
              rintro e z4 ⟨rfl, C4⟩
              have HF4 : Hid (LI w z4 g0 bv E h m (k + 1) ga dx (⟨#[]⟩ : ByteArray) (i1 + (Fnl h m S1).idle) none gb dy S2 i2 bb2) := HF2.out.below C4
              clear C4 HF2
              go_wp2_with fail
              refine ⟨⟨k + 1, by simp, HC.out, bv, E, (⟨#[]⟩ : ByteArray), (i1 + (Fnl h m S1).idle), none, S2, i2, bb2, HF4.out⟩, ?_⟩
              simp only [intOf]
              have := HC.out
              omega
            · go_wp2_with fail
              obtain ⟨yo, hyo⟩ : ∃ yo, wr.alloc (.cells #[.int .i64 ok, .bool false, .string os] 36) = yo := ⟨_, rfl⟩
              have Bo : Below wr.heap.size wr yo := hyo ▸ Kb.below_one wr _
              have hpo : yo.heap[wr.heap.size]? = some (.cells #[.int .i64 ok, .bool false, .string os] 36) := hyo ▸ Kb.h1_0 wr _
              have HIo : Hid (LI w yo g0 bv E h m k ga dx S1 i1 bb1 gb dy S2 i2 bb2) := HI2.out.below Bo
              have hpl : wr.heap.size < yo.heap.size := (Array.getElem?_eq_some_iff.1 hpo).1
              have hgw := HI2.out.p1.lie.lt
              have hdw := HI2.out.p1.dm.lt
              have hbw := fun q hq => (HI2.out.p1.lie.blt q hq).1
              obtain ⟨p, hp⟩ : ∃ p, wr.heap.size = p := ⟨_, rfl⟩
              rw [hyo, hp]
              rw [hp] at hpo hpl hgw hdw hbw
              have HPO : Hid (yo.heap[p]? = some (.cells #[.int .i64 ok, .bool false, .string os] 36)) := hpo
              have HBW : Hid (∀ q, bb1 = some q → q < p) := hbw
              clear hyo Bo hpo hp hbw t0 t1 t2 r1 r2 HI2
              have HF : Hid (LI w yo g0 bv E h m (k + 1) ga dx S1 i1 bb1 gb dy S2 i2 bb2) := HIo.out.next
              clear HIo HPO HBW
              have hbnd : i1 + S1.size ≤ 1099511627776 := by have h8 := HF.out.s1; have h9 := HC.out; have h7 : (k + 1) * 1048576 ≤ 1048576 * 1048576 := Nat.mul_le_mul_right _ (by omega); omega
              refine (waits_any HF.out.p1.lie HR.out.1 HR.out.2.1 HR.out.2.2.1).mono ?_
              rintro e z1 ⟨rfl, C1⟩
              have HF1 : Hid (LI w z1 g0 bv E h m (k + 1) ga dx S1 i1 bb1 gb dy S2 i2 bb2) := HF.out.below C1
              clear C1 HF
              go_wp2_with fail
              refine (waitsr_any HF1.out.p1.dm HR.out.1 HR.out.2.1 HR.out.2.2.1 (by omega)).mono ?_
              rintro e z2' ⟨rfl, C2⟩
              have HF2 : Hid (LI w z2' g0 bv E h m (k + 1) ga dx S1 i1 bb1 gb dy S2 i2 bb2) := HF1.out.below C2
              clear C2 HF1
              go_wp2_with fail
              refine (idle_any HF2.out.p1.lie).mono ?_
              rintro e z3 ⟨rfl, hz3⟩
              rw [hz3]
              clear hz3 z3
              go_wp2_with fail
              refine (idler_any HF2.out.p1.dm HR.out.1 HR.out.2.1 HR.out.2.2.1 (by omega) (by omega)).mono ?_
              rintro e z4 ⟨rfl, C4⟩
              have HF4 : Hid (LI w z4 g0 bv E h m (k + 1) ga dx S1 i1 bb1 gb dy S2 i2 bb2) := HF2.out.below C4
              clear C4 HF2
              go_wp2_with fail
              refine ⟨⟨k + 1, by simp, HC.out, bv, E, S1, i1, bb1, S2, i2, bb2, HF4.out⟩, ?_⟩
              simp only [intOf]
              have := HC.out
              omega
        | true =>
          have HI2 : Hid (LI w wr g0 bv E h m k gb dy S2 i2 bb2 ga dx S1 i1 bb1) := HI.out.swap
          clear HI
          by_cases hk1 : ok = 1
          · subst hk1
            go_wp2_with fail
            obtain ⟨yo, hyo⟩ : ∃ yo, wr.alloc (.cells #[.int .i64 1, .bool true, .string os] 36) = yo := ⟨_, rfl⟩
            have Bo : Below wr.heap.size wr yo := hyo ▸ Kb.below_one wr _
            have hpo : yo.heap[wr.heap.size]? = some (.cells #[.int .i64 1, .bool true, .string os] 36) := hyo ▸ Kb.h1_0 wr _
            have HIo : Hid (LI w yo g0 bv E h m k gb dy S2 i2 bb2 ga dx S1 i1 bb1) := HI2.out.below Bo
            have hpl : wr.heap.size < yo.heap.size := (Array.getElem?_eq_some_iff.1 hpo).1
            have hgw := HI2.out.p1.lie.lt
            have hdw := HI2.out.p1.dm.lt
            have hbw := fun q hq => (HI2.out.p1.lie.blt q hq).1
            obtain ⟨p, hp⟩ : ∃ p, wr.heap.size = p := ⟨_, rfl⟩
            rw [hyo, hp]
            rw [hp] at hpo hpl hgw hdw hbw
            have HPO : Hid (yo.heap[p]? = some (.cells #[.int .i64 1, .bool true, .string os] 36)) := hpo
            have HBW : Hid (∀ q, bb2 = some q → q < p) := hbw
            clear hyo Bo hpo hp hbw t0 t1 t2 r1 r2 HI2
            refine (Ea.lent_any os hsz yo).mono ?_
            rintro e yl ⟨rfl, hgl, Bl⟩
            have HIl : Hid (LI w yl g0 bv E h m k gb dy S2 i2 bb2 ga dx S1 i1 bb1) := HIo.out.below Bl
            obtain ⟨gl, hgle⟩ : ∃ gl, yo.heap.size = gl := ⟨_, rfl⟩
            have hwgl : w.heap.size ≤ gl := by rw [← hgle]; exact HIo.out.bel.size
            have hbo1 : ∀ q, bb2 = some q → q ≠ yo.heap.size := fun q hq => Nat.ne_of_lt (HIo.out.p1.lie.blt q hq).1
            have hbo2 : ∀ q, bb1 = some q → q ≠ yo.heap.size := fun q hq => Nat.ne_of_lt (HIo.out.p2.lie.blt q hq).1
            have hpgl : p < yo.heap.size := hpl
            have hggl : gb ≠ yo.heap.size := Nat.ne_of_lt HIo.out.p1.lie.lt
            have hplk : yl.heap[p]? = some (.cells #[.int .i64 1, .bool true, .string os] 36) := (Bl.block p hpl).trans HPO.out
            rw [hgle] at hgl hbo1 hbo2 hpgl hggl ⊢
            have HGL : Hid (yl.heap[gl]? = some (.cells (Lib0.bs (Ea.mk9 os)).toArray 5)) := hgl
            have HPL : Hid (yl.heap[p]? = some (.cells #[.int .i64 1, .bool true, .string os] 36)) := hplk
            have cl2 : yl.cell? ⟨p, 2, none⟩ = some (.string os) := by unfold World.cell?; rw [hplk]; rfl
            have HB1 : Hid (∀ q, bb2 = some q → q ≠ gl) := hbo1
            have HB2 : Hid (∀ q, bb1 = some q → q ≠ gl) := hbo2
            have hgll : gl < yl.heap.size := (Array.getElem?_eq_some_iff.1 hgl).1
            have hbnd0 : i2 + S2.size ≤ 1099511627776 := by have h8 := HIl.out.s1; have h9 := HC.out; have h7 : k * 1048576 ≤ 1048576 * 1048576 := Nat.mul_le_mul_right _ (by omega); omega
            have hidl : (Fnl h m S2).idle ≤ S2.size := by
              have := (run_cnt h m S2.data.toList ⟨.hdr [], 0, []⟩).1
              have hsl : S2.data.toList.length = S2.size := rfl
              rw [hsl] at this
              simpa [Fnl] using this
            have FD := feed_any HIl.out.p1.lie HR.out.1 HR.out.2.1 HR.out.2.2.1 gl 0 (os.size + 9) os.data.toList (show os.size ≤ os.size + 9 by omega) (inb_mk9 hgl) hggl.symm (fun q hq => (HB1.out q hq).symm) hgll (show i2 + (Fnl h m S2).idle + os.size ≤ _ by omega) (show os.size ≤ _ by omega)
            rw [run_shift] at FD
            replace FD : Calls Try.prog 12 #[.pointer (some ⟨gb, 0, none⟩), .slice (some ⟨gl, 0, none⟩) os.size (os.size + 9)] yl (PostF yl gb h m bb2 ⟨(got h m S2 os).st, i2 + (got h m S2 os).idle, (got h m S2 os).out⟩) := FD
            have hosI : (os.size : Int) ≤ 1048576 := by omega
            clear hgl hplk hbo1 hbo2 Bl HIo HPO hgle hpl
            go_wp2_with fail
            refine FD.mono ?_
            rintro e ya ⟨l, bb', rfl, ownL, La, nb, fa, _⟩
            rw [show errN (⟨(got h m S2 os).st, i2 + (got h m S2 os).idle, (got h m S2 os).out⟩ : M).st = errN (got h m S2 os).st from rfl]
            clear FD cl2
            have mem1 : ∀ q, q ∈ gb :: bb2.toList → q = gb ∨ bb2 = some q := fun q hq => (List.mem_cons.1 hq).elim .inl (fun h => .inr (by simpa using h))
            have hpn : p ∉ gb :: bb2.toList := fun hm => (mem1 _ hm).elim (fun e => by omega) (fun e => by have := HBW.out _ e; omega)
            have hgn : gl ∉ gb :: bb2.toList := fun hm => (mem1 _ hm).elim (fun e => hggl e.symm) (fun e => HB1.out _ e rfl)
            have tg1 := lie_ty HIl.out.p1.lie
            have td1 := dm_ty HIl.out.p1.dm
            have hdn : dy ∉ gb :: bb2.toList := fun hm => (mem1 _ hm).elim (fun e => ty_ne tg1.1 td1 (by decide) e.symm) (fun e => ty_ne (tg1.2 _ e) td1 (by decide) rfl)
            have hpa := (fa.block p (by omega) hpn).trans HPL.out
            have hga2 := (fa.block gl hgll hgn).trans HGL.out
            have Da := dm_fr HIl.out.p1.dm fa hdn
            have ca2 : ya.cell? ⟨p, 2, none⟩ = some (.string os) := by unfold World.cell?; rw [hpa]; rfl
            have FR := feedr_any Da rfl HR.out.1 HR.out.2.1 HR.out.2.2.1 os (by omega)
            have HLa : Hid (Lie ya gb h m (got h m S2 os).st (i2 + (got h m S2 os).idle) bb') := La
            have HNB : Hid (∀ q, bb' = some q → bb2 = some q ∨ yl.heap.size ≤ q) := nb
            have HFA : Hid (Fr (gb :: bb2.toList) yl ya) := fa
            have HOL : Hid (ya.ownsRow yl.heap.size 9 1 l (got h m S2 os).out.length (strs (got h m S2 os).out)) := ownL
            have HPA : Hid (ya.heap[p]? = some (.cells #[.int .i64 1, .bool true, .string os] 36)) := hpa
            have HGA : Hid (ya.heap[gl]? = some (.cells (Lib0.bs (Ea.mk9 os)).toArray 5)) := hga2
            have HTD : Hid (Ty ya dy 72) := dm_ty Da
            have hdp : dy ≠ p := by omega
            have hdgl : dy ≠ gl := ty_ne (dm_ty Da) ⟨_, _, hga2⟩ (by decide)
            have hgal : gl < ya.heap.size := (Array.getElem?_eq_some_iff.1 hga2).1
            have hpal : p < ya.heap.size := (Array.getElem?_eq_some_iff.1 hpa).1
            clear La nb fa ownL hpa hga2 Da tg1 td1 hdn hpn hgn mem1 hidl
            go_wp2_with fail
            refine FR.mono ?_
            rintro e yb ⟨mv, rfl, ownM, fb, Db⟩
            clear FR ca2
            have hpb := (fb.block p hpal (by simp; exact hdp.symm)).trans HPA.out
            have hgb2 := (fb.block gl hgal (by simp; exact hdgl.symm)).trans HGA.out
            have cb2 : yb.cell? ⟨p, 2, none⟩ = some (.string os) := by unfold World.cell?; rw [hpb]; rfl
            have BK := Ea.back_any os hsz gl (os.size + 9) yb hgb2
            have HFB : Hid (Fr [dy] ya yb) := fb
            have HDB : Hid (Dm yb dy h m (nxt h m S2 os) (Fnl h m (nxt h m S2 os)).out.length i2) := Db
            have HOM : Hid (yb.ownsRow ya.heap.size 9 1 mv (got h m S2 os).out.length (strs (got h m S2 os).out)) := ownM
            have HTG : Hid (Ty yb gl 5) := ⟨_, _, hgb2⟩
            clear fb Db ownM hpb hgb2
            go_wp2_with fail
            refine BK.mono ?_
            rintro e yc ⟨rfl, fc⟩
            clear BK cb2
            have HIc : Hid (LI w yc g0 bv E h m (k + 1) gb dy (nxt h m S2 os) i2 bb' ga dx S1 i1 bb1) := HIl.out.feed os hsz ⟨_, _, HGL.out⟩ hwgl HB1.out HB2.out HLa.out HNB.out HFA.out HDB.out HFB.out fc
            have ol := own_tyk (own_tyk HOL.out HFB.out (by intro q hq; rw [List.mem_singleton.1 hq]; exact ⟨_, HTD.out, by decide⟩)) fc (by intro q hq; rw [List.mem_singleton.1 hq]; exact ⟨_, HTG.out, by decide⟩)
            have om := own_tyk HOM.out fc (by intro q hq; rw [List.mem_singleton.1 hq]; exact ⟨_, HTG.out, by decide⟩)
            have hol : (got h m S2 os).out.length ≤ 1048576 := by
              have := (run_cnt h m os.data.toList ⟨(Fnl h m S2).st, (Fnl h m S2).idle, []⟩).2
              have hsl : os.data.toList.length = os.size := rfl
              rw [hsl] at this
              simp only [List.length_nil, Nat.zero_add] at this
              exact Nat.le_trans this hsz
            have hbas : w.heap.size ≤ yl.heap.size := HIl.out.bel.size
            have hbas2 : w.heap.size ≤ ya.heap.size := Nat.le_trans hbas HFA.out.size
            have TK := takes_any HIc.out.bk HIc.out.bel.size l mv (got h m S2 os).out (own_base ol hbas) (own_base om hbas2) (by omega) (by have := HIl.out.en; have := HC.out; omega) (fun e he q hq hq2 => by
              have h1 := (own_lo (HIl.out.bk.own e he) q hq).2
              have h2 := (own_lo HOL.out q hq2).1
              omega)
            have HLE : Hid (E.length + 1 ≤ k + 1 ∧ (got h m S2 os).out.length ≤ 1048576) := ⟨by have := HIl.out.en; omega, hol⟩
            clear ol om fc hol hbas hbas2
            go_wp2_with fail
            refine TK.mono ?_
            rintro e yd ⟨rfl, bv', Kd, fd⟩
            have HF : Hid (LI w yd g0 bv' (E ++ [(l, mv, (got h m S2 os).out)]) h m (k + 1) gb dy (nxt h m S2 os) i2 bb' ga dx S1 i1 bb1) := HIc.out.takes Kd fd HLE.out.1 HLE.out.2
            clear TK Kd fd HIl HGL HPL HB1 HB2 HLa HNB HFA HOL HPA HGA HTD HFB HDB HOM HTG HIc HLE
            go_wp2_with fail
            have hbnd : i2 + (nxt h m S2 os).size ≤ 1099511627776 := by have h8 := HF.out.s1; have h9 := HC.out; have h7 : (k + 1) * 1048576 ≤ 1048576 * 1048576 := Nat.mul_le_mul_right _ (by omega); omega
            refine (waits_any HF.out.p1.lie HR.out.1 HR.out.2.1 HR.out.2.2.1).mono ?_
            rintro e z1 ⟨rfl, C1⟩
            have HF1 : Hid (LI w z1 g0 bv' (E ++ [(l, mv, (got h m S2 os).out)]) h m (k + 1) gb dy (nxt h m S2 os) i2 bb' ga dx S1 i1 bb1) := HF.out.below C1
            clear C1 HF
            go_wp2_with fail
            refine (waitsr_any HF1.out.p1.dm HR.out.1 HR.out.2.1 HR.out.2.2.1 (by omega)).mono ?_
            rintro e z2' ⟨rfl, C2⟩
            have HF2 : Hid (LI w z2' g0 bv' (E ++ [(l, mv, (got h m S2 os).out)]) h m (k + 1) gb dy (nxt h m S2 os) i2 bb' ga dx S1 i1 bb1) := HF1.out.below C2
            clear C2 HF1
            go_wp2_with fail
            refine (idle_any HF2.out.p1.lie).mono ?_
            rintro e z3 ⟨rfl, hz3⟩
            rw [hz3]
            clear hz3 z3
            go_wp2_with fail
            refine (idler_any HF2.out.p1.dm HR.out.1 HR.out.2.1 HR.out.2.2.1 (by omega) (by omega)).mono ?_
            rintro e z4 ⟨rfl, C4⟩
            have HF4 : Hid (LI w z4 g0 bv' (E ++ [(l, mv, (got h m S2 os).out)]) h m (k + 1) gb dy (nxt h m S2 os) i2 bb' ga dx S1 i1 bb1) := HF2.out.below C4
            clear C4 HF2
            go_wp2_with fail
            refine ⟨⟨k + 1, by simp, HC.out, bv', (E ++ [(l, mv, (got h m S2 os).out)]), S1, i1, bb1, (nxt h m S2 os), i2, bb', HF4.out.swap⟩, ?_⟩
            simp only [intOf]
            have := HC.out
            omega
          · by_cases hk2 : ok = 2
            · subst hk2
              go_wp2_with fail
              obtain ⟨yo, hyo⟩ : ∃ yo, wr.alloc (.cells #[.int .i64 2, .bool true, .string os] 36) = yo := ⟨_, rfl⟩
              have Bo : Below wr.heap.size wr yo := hyo ▸ Kb.below_one wr _
              have hpo : yo.heap[wr.heap.size]? = some (.cells #[.int .i64 2, .bool true, .string os] 36) := hyo ▸ Kb.h1_0 wr _
              have HIo : Hid (LI w yo g0 bv E h m k gb dy S2 i2 bb2 ga dx S1 i1 bb1) := HI2.out.below Bo
              have hpl : wr.heap.size < yo.heap.size := (Array.getElem?_eq_some_iff.1 hpo).1
              have hgw := HI2.out.p1.lie.lt
              have hdw := HI2.out.p1.dm.lt
              have hbw := fun q hq => (HI2.out.p1.lie.blt q hq).1
              obtain ⟨p, hp⟩ : ∃ p, wr.heap.size = p := ⟨_, rfl⟩
              rw [hyo, hp]
              rw [hp] at hpo hpl hgw hdw hbw
              have HPO : Hid (yo.heap[p]? = some (.cells #[.int .i64 2, .bool true, .string os] 36)) := hpo
              have HBW : Hid (∀ q, bb2 = some q → q < p) := hbw
              clear hyo Bo hpo hp hbw t0 t1 t2 r1 r2 HI2
              have hbnd0 : i2 + S2.size ≤ 1099511627776 := by have h8 := HIo.out.s1; have h9 := HC.out; have h7 : k * 1048576 ≤ 1048576 * 1048576 := Nat.mul_le_mul_right _ (by omega); omega
              refine (reset_any HIo.out.p1.lie).mono ?_
              rintro e ya ⟨rfl, La, fa⟩
              have hgd : dy ≠ gb := (ty_ne (lie_ty HIo.out.p1.lie).1 (dm_ty HIo.out.p1.dm) (by decide)).symm
              have Da := dm_fr HIo.out.p1.dm fa (by simp; exact hgd)
              have RR := resetr_any Da HR.out.1 HR.out.2.1 HR.out.2.2.1 (by omega) (by omega)
              have HLa : Hid (Lie ya gb h m (.hdr []) (i2 + (Fnl h m S2).idle) none) := La
              have HFA : Hid (Fr [gb] yo ya) := fa
              clear La fa Da
              go_wp2_with fail
              refine RR.mono ?_
              rintro e yb ⟨rfl, Db, fb⟩
              have HF : Hid (LI w yb g0 bv E h m (k + 1) gb dy ⟨#[]⟩ (i2 + (Fnl h m S2).idle) none ga dx S1 i1 bb1) := (HIo.out.reset HLa.out HFA.out Db fb).next
              clear RR Db fb HIo HLa HFA HPO HBW
              go_wp2_with fail
              have hbnd : (i2 + (Fnl h m S2).idle) + (⟨#[]⟩ : ByteArray).size ≤ 1099511627776 := by have h8 := HF.out.s1; have h9 := HC.out; have h7 : (k + 1) * 1048576 ≤ 1048576 * 1048576 := Nat.mul_le_mul_right _ (by omega); omega
              refine (waits_any HF.out.p1.lie HR.out.1 HR.out.2.1 HR.out.2.2.1).mono ?_
              rintro e z1 ⟨rfl, C1⟩
              have HF1 : Hid (LI w z1 g0 bv E h m (k + 1) gb dy (⟨#[]⟩ : ByteArray) (i2 + (Fnl h m S2).idle) none ga dx S1 i1 bb1) := HF.out.below C1
              clear C1 HF
              go_wp2_with fail
              refine (waitsr_any HF1.out.p1.dm HR.out.1 HR.out.2.1 HR.out.2.2.1 (by omega)).mono ?_
              rintro e z2' ⟨rfl, C2⟩
              have HF2 : Hid (LI w z2' g0 bv E h m (k + 1) gb dy (⟨#[]⟩ : ByteArray) (i2 + (Fnl h m S2).idle) none ga dx S1 i1 bb1) := HF1.out.below C2
              clear C2 HF1
              go_wp2_with fail
              refine (idle_any HF2.out.p1.lie).mono ?_
              rintro e z3 ⟨rfl, hz3⟩
              rw [hz3]
              clear hz3 z3
              go_wp2_with fail
              refine (idler_any HF2.out.p1.dm HR.out.1 HR.out.2.1 HR.out.2.2.1 (by omega) (by omega)).mono ?_
              rintro e z4 ⟨rfl, C4⟩
              have HF4 : Hid (LI w z4 g0 bv E h m (k + 1) gb dy (⟨#[]⟩ : ByteArray) (i2 + (Fnl h m S2).idle) none ga dx S1 i1 bb1) := HF2.out.below C4
              clear C4 HF2
              go_wp2_with fail
              refine ⟨⟨k + 1, by simp, HC.out, bv, E, S1, i1, bb1, (⟨#[]⟩ : ByteArray), (i2 + (Fnl h m S2).idle), none, HF4.out.swap⟩, ?_⟩
              simp only [intOf]
              have := HC.out
              omega
            · go_wp2_with fail
              obtain ⟨yo, hyo⟩ : ∃ yo, wr.alloc (.cells #[.int .i64 ok, .bool true, .string os] 36) = yo := ⟨_, rfl⟩
              have Bo : Below wr.heap.size wr yo := hyo ▸ Kb.below_one wr _
              have hpo : yo.heap[wr.heap.size]? = some (.cells #[.int .i64 ok, .bool true, .string os] 36) := hyo ▸ Kb.h1_0 wr _
              have HIo : Hid (LI w yo g0 bv E h m k gb dy S2 i2 bb2 ga dx S1 i1 bb1) := HI2.out.below Bo
              have hpl : wr.heap.size < yo.heap.size := (Array.getElem?_eq_some_iff.1 hpo).1
              have hgw := HI2.out.p1.lie.lt
              have hdw := HI2.out.p1.dm.lt
              have hbw := fun q hq => (HI2.out.p1.lie.blt q hq).1
              obtain ⟨p, hp⟩ : ∃ p, wr.heap.size = p := ⟨_, rfl⟩
              rw [hyo, hp]
              rw [hp] at hpo hpl hgw hdw hbw
              have HPO : Hid (yo.heap[p]? = some (.cells #[.int .i64 ok, .bool true, .string os] 36)) := hpo
              have HBW : Hid (∀ q, bb2 = some q → q < p) := hbw
              clear hyo Bo hpo hp hbw t0 t1 t2 r1 r2 HI2
              have HF : Hid (LI w yo g0 bv E h m (k + 1) gb dy S2 i2 bb2 ga dx S1 i1 bb1) := HIo.out.next
              clear HIo HPO HBW
              have hbnd : i2 + S2.size ≤ 1099511627776 := by have h8 := HF.out.s1; have h9 := HC.out; have h7 : (k + 1) * 1048576 ≤ 1048576 * 1048576 := Nat.mul_le_mul_right _ (by omega); omega
              refine (waits_any HF.out.p1.lie HR.out.1 HR.out.2.1 HR.out.2.2.1).mono ?_
              rintro e z1 ⟨rfl, C1⟩
              have HF1 : Hid (LI w z1 g0 bv E h m (k + 1) gb dy S2 i2 bb2 ga dx S1 i1 bb1) := HF.out.below C1
              clear C1 HF
              go_wp2_with fail
              refine (waitsr_any HF1.out.p1.dm HR.out.1 HR.out.2.1 HR.out.2.2.1 (by omega)).mono ?_
              rintro e z2' ⟨rfl, C2⟩
              have HF2 : Hid (LI w z2' g0 bv E h m (k + 1) gb dy S2 i2 bb2 ga dx S1 i1 bb1) := HF1.out.below C2
              clear C2 HF1
              go_wp2_with fail
              refine (idle_any HF2.out.p1.lie).mono ?_
              rintro e z3 ⟨rfl, hz3⟩
              rw [hz3]
              clear hz3 z3
              go_wp2_with fail
              refine (idler_any HF2.out.p1.dm HR.out.1 HR.out.2.1 HR.out.2.2.1 (by omega) (by omega)).mono ?_
              rintro e z4 ⟨rfl, C4⟩
              have HF4 : Hid (LI w z4 g0 bv E h m (k + 1) gb dy S2 i2 bb2 ga dx S1 i1 bb1) := HF2.out.below C4
              clear C4 HF2
              go_wp2_with fail
              refine ⟨⟨k + 1, by simp, HC.out, bv, E, S1, i1, bb1, S2, i2, bb2, HF4.out.swap⟩, ?_⟩
              simp only [intOf]
              have := HC.out
              omega
      · have q0 : ¬ (k : Int) < (z2.length : Int) := by omega
        have HI : Hid (LI w wr g0 bv E h m k ga dx S1 i1 bb1 gb dy S2 i2 bb2) := I
        have hk0 : k ≤ 1048576 := by omega
        have AP := Ee.apart_any I.bk I.bel.size (by have := I.en; omega) (fun e he => by have := I.es e he; omega)
        have hb1 : i1 + S1.size ≤ 1099511627776 := by have h8 := I.s1; have h7 : k * 1048576 ≤ 1048576 * 1048576 := Nat.mul_le_mul_right _ hk0; omega
        have hb2 : i2 + S2.size ≤ 1099511627776 := by have h8 := I.s2; have h7 : k * 1048576 ≤ 1048576 * 1048576 := Nat.mul_le_mul_right _ hk0; omega
        clear I hk hc
        go_wp2_with fail
        refine AP.mono ?_
        rintro e yd ⟨rfl, fd⟩
        obtain ⟨P1, P2, BW⟩ := HI.out.apart fd
        have HP1 : Hid (Pr w yd ga dx h m S1 i1 bb1) := P1
        have HP2 : Hid (Pr w yd gb dy h m S2 i2 bb2) := P2
        have HBW : Hid (Below w.heap.size w yd) := BW
        clear P1 P2 BW fd AP HI
        go_wp2_with fail
        refine (waits_any HP1.out.lie HR.out.1 HR.out.2.1 HR.out.2.2.1).mono ?_
        rintro e z1 ⟨rfl, C1⟩
        have HP11 : Hid (Pr w z1 ga dx h m S1 i1 bb1) := HP1.out.below C1
        have HP21 : Hid (Pr w z1 gb dy h m S2 i2 bb2) := HP2.out.below C1
        have HBW1 : Hid (Below w.heap.size w z1) := Kb.keepB HBW.out C1
        clear C1 HP1 HP2 HBW
        go_wp2_with fail
        refine (waitsr_any HP11.out.dm HR.out.1 HR.out.2.1 HR.out.2.2.1 (by omega)).mono ?_
        rintro e z3 ⟨rfl, C3⟩
        have HP23 : Hid (Pr w z3 gb dy h m S2 i2 bb2) := HP21.out.below C3
        have HBW3 : Hid (Below w.heap.size w z3) := Kb.keepB HBW1.out C3
        clear C3 HP11 HP21 HBW1
        go_wp2_with fail
        refine (waits_any HP23.out.lie HR.out.1 HR.out.2.1 HR.out.2.2.1).mono ?_
        rintro e z4 ⟨rfl, C4⟩
        have HP24 : Hid (Pr w z4 gb dy h m S2 i2 bb2) := HP23.out.below C4
        have HBW4 : Hid (Below w.heap.size w z4) := Kb.keepB HBW3.out C4
        clear C4 HP23 HBW3
        go_wp2_with fail
        refine (waitsr_any HP24.out.dm HR.out.1 HR.out.2.1 HR.out.2.2.1 (by omega)).mono ?_
        rintro e z5 ⟨rfl, C5⟩
        have HBW5 : Hid (Below w.heap.size w z5) := Kb.keepB HBW4.out C5
        clear C5 HP24 HBW4
        go_wp2_with fail
        go_ret
        exact ⟨rfl, HBW5.out⟩

set_option maxRecDepth 100000 in
theorem contract (H : Type) (enc : TypeId × Value → H) (W : World) (base : Nat) (args : Array Value) (ds gs : List (DataW H)) (before : List MemPlace)
    (hval : ∀ (j : Nat) t v, Try.f3.params[j]? = some t → args[j]? = some v → Value.okWide Try.prog W .any base t v)
    (hW : DataW.Whole enc Try.prog Try.f3.params.toList Rows.frameFeedsSpec.vars false W args.toList ds gs before) (hk : Rows.uptoSmall H (ds ++ gs) = true) :
    Calls Try.prog 3 args W fun e W' => ∃ v, e = .returned v ∧ Rows.frameFeedsSpec.post enc Try.prog Try.f3 false true false false W args v W' := by
  have hW' := hW
  obtain ⟨p, q, hA0, hV, rfl, hfz, hnd⟩ := hW
  have hA : DataW.TrodAll enc Try.prog W 0 (fun _ => true) true Try.f3.params.toList args.toList ds p := hA0
  rw [Try.params3] at hA hval
  obtain ⟨v0, vs0, d0, ds0, p0, q0, hargs, rfl, rfl, h0, r0⟩ := trodAll_cons hA
  obtain ⟨v1, vs1, d1, ds1, p1, q1, rfl, rfl, rfl, h1, r1⟩ := trodAll_cons r0
  obtain ⟨v2, vs2, d2, ds2, p2, q2, rfl, rfl, rfl, h2, r2⟩ := trodAll_cons r1
  obtain ⟨rfl, rfl, rfl⟩ := trodAll_nil r2
  obtain rfl : args = #[v0, v1, v2] := by cases args; simp_all
  obtain ⟨rfl, rfl⟩ := trodVars_none hV
  obtain ⟨a0, rfl, rfl, rfl, w0⟩ := open_int Try.underlying3 (hval 0 3 v0 rfl rfl) h0
  obtain ⟨a1, rfl, rfl, rfl, w1⟩ := open_int Try.underlying3 (hval 1 3 v1 rfl rfl) h1
  obtain ⟨z2, u2, lt2, bulk2⟩ := So.open_so (hval 2 22 v2 rfl rfl) h2
  clear hA0
  simp only [List.append_nil] at hk
  have hk1 := of_decide_eq_true hk
  simp only [Rows.uptoBulkAll] at hk1
  have e2 := bulk2
  have w2 := So.lies_mono u2 (C := 1048576) (by omega)
  refine (walk a0 a1 v2 z2 W w0 w1 w2 (by omega)).mono fun e W' ⟨he, bel⟩ => ?_
  subst he
  exact ⟨_, rfl, _, _, _, [], _, [], hW', trodAll_mk1 (shut_bool Try.underlying4 _), (trodAll_cons_mk (shut_int Try.underlying3 w0) (trodAll_cons_mk (shut_int Try.underlying3 w1) (trodAll_cons_mk (Below.trod (by kernel_rfl) (by kernel_rfl) (of_decide_eq_true (by kernel_rfl)) h2 bel lt2) trodAll_mk0))), rfl, bel.frame _, fun h => by cases h⟩

set_option maxRecDepth 100000 in
theorem lifted (os : Os) (started : os.Started) (H : Type) (enc : TypeId × Value → H) (F : Stop.Interp) :
    ReturnsInHanded {} Try.checked os 3 .any ((Rows.OpenSpec.upto Rows.frameFeedsSpec).pre6 enc Try.prog Try.f3 Rows.frameFeedsUptoRow.domain false) (((Rows.OpenSpec.upto Rows.frameFeedsSpec).at F).post enc Try.prog Try.f3 false true false false) := by
  refine returnsInHanded_of_cond (C := Try.checked) (s := Rows.OpenSpec.upto Rows.frameFeedsSpec) (k := Rows.uptoSmall) rfl own started (by kernel_rfl) Try.func3
    (OpenSpec.witness (enc := enc) (C := Try.checked) (s := Rows.OpenSpec.upto Rows.frameFeedsSpec) (k := Rows.uptoSmall) rfl false ⟨#[], #[.int .i64 0, .int .i64 0, .slice none 0 0], []⟩ 8 (by kernel_rfl) (by kernel_rfl) (by kernel_rfl)
      (x := ([.lit (.int .i64 0), .lit (.int .i64 0), .nil], [], [])) (by kernel_rfl) rfl (by kernel_rfl)) ?_
  intro W base args ds gs before hval hW _ hk _
  exact contract H enc W base args ds gs before hval hW hk

theorem proved : Rows.FrameFeedsUptoSaid :=
  OpenClaim.holds_of_cond 3 Try.f3 rfl rfl rfl rfl rfl rfl rfl ⟨rfl, rfl, rfl, rfl, rfl⟩ rfl rfl rfl rfl rfl (by kernel_rfl) Try.func3 (by kernel_rfl)
    (of_decide_eq_true (by kernel_rfl)) (by unfold Func.isWrapper; first | (rw [if_pos (by decide +kernel)]; kernel_rfl) | (rw [if_neg (by decide +kernel)]; exact ⟨rfl, rfl⟩))
    (fun os started H enc _ F => lifted os started H enc F)
#print axioms proved
end Go.Proofs.Ytfoddooehanemaa.frameFeeds
