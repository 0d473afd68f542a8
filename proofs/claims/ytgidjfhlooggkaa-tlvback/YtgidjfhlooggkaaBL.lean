/- TlvBack: the law out of the contracts; the frame of the row. -/
import Derived.Test.YtgidjfhlooggkaaRows
import Derived.WalkKit
import Derived.ProofKit
import Derived.OpenShut
import Derived.ShutString
import Derived.ChangeOld
import Derived.Below
import Derived.JoinedCond
import Derived.Carry
import Derived.SizedLaws
import Derived.Test.YtgidjfhlooggkaaKn
import Derived.Test.YtgidjfhlooggkaaMd
import Derived.Test.YtgidjfhlooggkaaSa
import Derived.Test.YtgidjfhlooggkaaMo
import Derived.Test.YtgidjfhlooggkaaSl
import Derived.Test.YtgidjfhlooggkaaCt
import Derived.Test.YtgidjfhlooggkaaSu
import Derived.Test.YtgidjfhlooggkaaPe
namespace Go.Proofs.Ytgidjfhlooggkaa.tlvBack
open Go.ChangeShapes Go.WideShapes Go.ChangeAt Go.RowKit
open Go.ChangeMaps (open_string shut_string)
set_option linter.unusedVariables false

theorem own : ownKnob Try.prog.godebug = none := by kernel_rfl

attribute [local go_sem] Oper.semAt_some
theorem form_of {w : World} {v : Value} {z : List Int} (h : Sl.Lies w v z) : ∃ o n cap, v = .slice o n cap := by
  rcases h with ⟨rfl, -⟩ | ⟨a, cap, rfl, -⟩
  · exact ⟨_, _, _, rfl⟩
  · exact ⟨_, _, _, rfl⟩
theorem raw_of {w : World} {o : Option Addr} {n cap : Nat} {z : List Int} (h : Sl.Lies w (.slice o n cap) z) : Mk.Raw w w.heap.size o n := by
  rcases h with ⟨e, -⟩ | ⟨a, cap', e, h1, h2, h3, h4⟩
  · obtain ⟨rfl, rfl, rfl⟩ : o = none ∧ n = 0 ∧ cap = 0 := by simpa using e
    exact ⟨by omega, fun i hi => absurd hi (by omega)⟩
  · obtain ⟨rfl, rfl, rfl⟩ : o = some a ∧ n = z.length ∧ cap = cap' := by simpa using e
    refine ⟨by unfold maxLen at h2; omega, fun i hi => ⟨a, z[i], rfl, ?_, h3 i hi, ?_⟩⟩
    · have := World.block_lt_of_cell? w _ (h3 i hi); omega
    · have := h4 z[i] (List.getElem_mem hi)
      simp [Lit.wf] at this
      have e1 : IntKind.i64.min = -9223372036854775808 := by decide
      have e2 : IntKind.i64.max = 9223372036854775807 := by decide
      omega
theorem nil_no (b : Nat) (y : World) : (binOp .eql 46 (.func (.func 48) #[] #[.pointer (some ⟨b, 0, none⟩)]) .nilFunc).run Try.prog y = .ok (.bool false) y := by
  kernel_rfl
theorem one1 {x : World} {g : Nat} {a : Value} {t : TypeId} (h : x.heap[g]? = some (.cells #[a] t)) : x.cell? ⟨g, 0, none⟩ = some a ∧ x.frozen? ⟨g, 0, none⟩ = false := by
  refine ⟨?_, ?_⟩ <;> simp [World.cell?, World.frozen?, h]
theorem steps_few (xs : List Nt.AT) (hg : Ag.good 1 (Nt.er xs)) (hc : Ag.cnt (Nt.er xs) ≤ 60) : (Wk.steps 1 xs).length ≤ 60 ∧ ∀ x ∈ Wk.steps 1 xs, 1 ≤ x.1 ∧ x.1 ≤ 8 := by
  refine ⟨by rw [(Ag.wr_good 1 0 xs hg (by omega)).2]; exact hc, fun x hx => ⟨Pn.steps_ge 1 xs x hx, ?_⟩⟩
  have h1 := Wr.steps_dep 1 xs x hx
  have h2 := Ag.dep_few 1 xs hg
  omega
set_option maxRecDepth 100000 in
set_option maxHeartbeats 6400000 in
theorem walk (v0 : Value) (z0 : List Int) (w : World) (w0 : Sl.Lies w v0 z0) :
    Calls Try.prog 8 #[v0] w fun e w' => e = .returned (.bool true) ∧ Below w.heap.size w w' := by
  obtain ⟨oa, na, ca, rfl⟩ := form_of w0
  refine (callsIn_wide (n := 8)).1 ?_
  refine callsIn_of_wp_marks Try.func8 rfl trivial ?_ rfl
  simp only [Try.ntmps8, List.size_toArray, List.length_cons, List.length_nil, Nat.reduceAdd, Nat.reduceSub, Array.replicate_succ, Array.replicate_zero, List.push_toArray, List.append_toArray, List.nil_append, List.cons_append]
  refine wpIn_wide.2 ?_
  go_wp2_with fail
  have M0 := Kb.h1_0 w (.cells #[.bool false] 4)
  have B0 := Kb.below_one w (.cells #[.bool false] 4)
  have s0 : (w.alloc (.cells #[.bool false] 4)).heap.size = w.heap.size + 1 := by simp
  generalize w.alloc (.cells #[.bool false] 4) = W at *
  refine (Kn.known_any _).mono ?_
  rintro e y0 ⟨rfl, h0⟩
  replace M0 := Kb.kept h0 M0
  replace B0 := Kb.keepB B0 h0
  clear h0
  go_wp2_with fail
  refine (Md.made_any y0 oa na ca (raw_of (Sl.lies_below w0 B0))).mono ?_
  rintro _ y1 ⟨v1, xs, rfl, p1⟩
  replace M0 := Kb.kept p1.below M0
  replace B0 := Kb.keepB B0 p1.below
  obtain ⟨o1, c1, rfl⟩ := p1.own.form
  have HR1 : Hid (Nt.Rdn y1 (.slice o1 xs.length c1) xs) := p1.own.reads
  obtain ⟨m0, m1, m2, m3⟩ := Mo.made_ok p1.gd p1.sml p1.few
  have HG : Hid (Ag.good 1 (Nt.er xs) ∧ Ml.sm (Nt.er xs) ∧ Ag.cnt (Nt.er xs) ≤ 60) := ⟨p1.gd, p1.sml, p1.few⟩
  have HM : Hid (Wk.dep xs ≤ 999999 ∧ (Ag.enT (Nt.er xs)).length ≤ 9999) := ⟨m2, m3⟩
  obtain ⟨HSL, HSD⟩ : Hid ((Wk.steps 1 xs).length ≤ 60) ∧ Hid (∀ x ∈ Wk.steps 1 xs, 1 ≤ x.1 ∧ x.1 ≤ 8) := steps_few xs p1.gd p1.few
  obtain ⟨A1, HA1⟩ : ∃ A1 : ByteArray, Hid ((⟨(Ag.enT (Nt.er xs)).toArray⟩ : ByteArray) = A1) := ⟨_, rfl⟩
  have k1 := fun z (hz : Below y1.heap.size y1 z) => Bu.build_any xs _ z (HR1.out.below hz) m2
  rw [m0, m1, HA1.out] at k1
  obtain ⟨LN, HLN⟩ : ∃ LN, Hid (xs.length = LN) := ⟨_, rfl⟩
  rw [HLN.out] at HR1 k1 ⊢
  clear p1 m0 m1 m2 m3
  go_wp2_with fail
  refine (Wk.all_any o1 LN c1 y1).mono ?_
  rintro e V ⟨b, he, hbV, hV, hbW⟩
  replace he : e = .returned (.func (.func 48) #[] #[.pointer (some ⟨b, 0, none⟩)]) := he
  subst he
  clear hbW
  replace M0 := Kb.kept hV M0
  replace B0 := Kb.keepB B0 hV
  have nn := nil_no b
  go_wp2_with fail
  clear nn
  refine (k1 V hV).mono ?_
  clear k1
  rintro _ z1 ⟨rfl, h1⟩
  replace M0 := Kb.kept h1 M0
  replace B0 := Kb.keepB B0 h1
  replace hbV := Kb.kept h1 hbV
  replace hV := Kb.keepB hV h1
  have ps := Go_.parse_any A1 z1 (by rw [← HA1.out]; have := HM.out.2; show (Ag.enT (Nt.er xs)).length ≤ _; omega)
  rw [Ct.parse_whole HG.out.1 (by have := HG.out.2.2; omega) HM.out.2 (s := A1) (by rw [← HA1.out])] at ps
  clear h1
  go_wp2_with fail
  refine ps.mono ?_
  clear ps
  rintro _ z2 ⟨v2, bs, rfl, hea, ho2, h1⟩
  replace M0 := Kb.kept h1 M0
  replace B0 := Kb.keepB B0 h1
  replace hbV := Kb.kept h1 hbV
  replace hV := Kb.keepB hV h1
  obtain ⟨o2, c2, rfl⟩ := ho2.form
  have HR2 : Hid (Nt.Rdn z2 (.slice o2 bs.length c2) bs) := ho2.reads
  obtain ⟨m0, m1, m2, m3⟩ := Mo.made_ok (ats := bs) (by rw [hea]; exact HG.out.1) (by rw [hea]; exact HG.out.2.1) (by rw [hea]; exact HG.out.2.2)
  have k2 := Bu.build_any bs _ z2 HR2.out m2
  rw [m0, m1, hea, HA1.out] at k2
  have k3 := fun z (hz : Below z2.heap.size z2 z) (hv : Below y1.heap.size y1 z) => Sa.same_any bs xs _ _ z (HR2.out.below hz) (HR1.out.below hv)
  rw [show Sa.smB bs xs = true from (Sa.smB_er _ _).2 hea] at k3
  obtain ⟨LN2, HLN2⟩ : ∃ LN2, Hid (bs.length = LN2) := ⟨_, rfl⟩
  rw [HLN2.out] at k2 k3 HR2 ⊢
  clear ho2 m0 m1 m2 m3 hea h1
  go_wp2_with fail
  refine k2.mono ?_
  clear k2
  rintro _ z3 ⟨rfl, h1⟩
  replace M0 := Kb.kept h1 M0
  replace B0 := Kb.keepB B0 h1
  replace hbV := Kb.kept h1 hbV
  replace hV := Kb.keepB hV h1
  go_wp2_with fail
  refine (k3 z3 h1 hV).mono ?_
  clear k3 h1
  rintro _ z4 ⟨rfl, h1⟩
  replace M0 := Kb.kept h1 M0
  replace B0 := Kb.keepB B0 h1
  replace hbV := Kb.kept h1 hbV
  replace hV := Kb.keepB hV h1
  have k4 := Pe.print_all xs _ z4 (HR1.out.below hV) HM.out.1 (by have := HSL.out; omega)
  obtain ⟨PS, HPS⟩ : ∃ PS : ByteArray, Hid ((⟨(Pn.prS (Wk.steps 1 xs)).toArray⟩ : ByteArray) = PS) := ⟨_, rfl⟩
  rw [HPS.out] at k4
  clear h1 HR2
  go_wp2_with fail
  refine k4.mono ?_
  clear k4
  rintro _ z5 ⟨rfl, h1⟩
  replace M0 := Kb.kept h1 M0
  replace B0 := Kb.keepB B0 h1
  replace hbV := Kb.kept h1 hbV
  replace hV := Kb.keepB hV h1
  clear h1
  have HC : Hid ((PS.data.toList).count 10 = (Wk.steps 1 xs).length) := by
    show _ = _
    rw [← HPS.out]
    exact Pe.print_nl _
  obtain ⟨NS, HNS⟩ : ∃ NS, Hid ((Wk.steps 1 xs).length = NS) := ⟨_, rfl⟩
  have hNS : NS ≤ 60 := by rw [← HNS.out]; exact HSL.out
  have hPZ : PS.size ≤ 300000000 := by
    have h1 := Pe.prS_len (Wk.steps 1 xs) (fun x hx => ⟨by have := (HSD.out x hx).2; omega, (Wr.steps_read 1 xs HR1.out.kids x hx).2.1⟩)
    have h2 := HSL.out
    rw [← HPS.out]
    show (Pn.prS (Wk.steps 1 xs)).length ≤ _
    omega
  have hr5 : w.heap.size < z5.heap.size := (Array.getElem?_eq_some_iff.1 M0).1
  have b5 := Kb.below_one z5 (.cells #[.int .i64 0] 3)
  have M1 := Kb.h1_0 z5 (.cells #[.int .i64 0] 3)
  have hs5 : (z5.alloc (.cells #[.int .i64 0] 3)).heap.size = z5.heap.size + 1 := by simp
  replace M0 := Kb.kept b5 M0
  have hbq : b < z5.heap.size := (Array.getElem?_eq_some_iff.1 hbV).1
  replace hbV := Kb.kept b5 hbV
  have hrz : w.heap.size < z5.heap.size := hr5
  have hVz := hV.size
  replace hV := Kb.keepB hV b5
  have B1 := Kb.keepB B0 b5
  clear HPS HSL
  go_wp2_with fail
  generalize z5.alloc (.cells #[.int .i64 0] 3) = X0 at *
  generalize hq5 : z5.heap.size = q at *
  replace hq5 : Hid (z5.heap.size = q) := hq5
  go_loopw [16] (fun vi wr => ∃ (k C : Nat), k ≤ PS.size ∧ vi = .int .i64 (k : Int) ∧ Hid ((PS.data.toList.take k).count 10 = C) ∧ C ≤ k ∧ wr.heap[q]? = some (.cells #[.int .i64 (C : Int)] 3) ∧ Below q X0 wr) (fun vi _ => PS.size - (intOf vi).toNat)
  case atStart => exact ⟨0, 0, Nat.zero_le _, rfl, (by show _ = _; simp), Nat.zero_le _, M1, Below.refl _ _⟩
  case round =>
    obtain ⟨k, C, hk, rfl, HCk, hC, hc, hB⟩ := hrel
    rename World => wr
    obtain ⟨c0, f0⟩ := one1 hc
    by_cases hlt : k < PS.size
    · by_cases h1 : PS[k] = 10
      · have HT : Hid ((PS.data.toList.take (k + 1)).count 10 = C + 1) := by
          show _ = _
          rw [Pe.nl_take PS k hlt, if_pos h1, HCk.out]
        have h1' : ((PS[k].toNat : Int) == 10) = true := by rw [h1]; rfl
        have M2 := Wr.setCell_heap' hc 0 (.int .i64 ((C : Int) + 1))
        clear h1 hc HCk HC
        go_wp2
        exact ⟨⟨k + 1, C + 1, by omega, by go_num, HT, by omega, M2, hB.setCell (p := ⟨q, 0, none⟩) (Nat.le_refl _) _⟩, by simp [intOf]; omega⟩
      · have HT : Hid ((PS.data.toList.take (k + 1)).count 10 = C) := by
          show _ = _
          rw [Pe.nl_take PS k hlt, if_neg h1, HCk.out]; rfl
        have h1' : ((PS[k].toNat : Int) == 10) = false := by
          simp only [beq_eq_false_iff_ne, ne_eq]
          intro e
          exact h1 (UInt8.toNat_inj.1 (by show PS[k].toNat = 10; omega))
        clear h1 HCk HC
        go_wp2
        exact ⟨⟨k + 1, C, by omega, by go_num, HT, by omega, hc, hB⟩, by simp [intOf]; omega⟩
    · have hC2 : C = NS := by
        rw [← HCk.out, ← HNS.out, ← HC.out, List.take_of_length_le (by simp; omega)]
      subst hC2
      clear HCk HC c0 f0
      replace M0 := (hB.block _ hrz).trans M0
      replace hbV := (hB.block _ hbq).trans hbV
      replace hV : Below y1.heap.size y1 wr := hV.trans (hB.mono hVz)
      replace B1 : Below w.heap.size w wr := B1.trans (hB.mono (by omega))
      have hqw : q < wr.heap.size := (Array.getElem?_eq_some_iff.1 hc).1
      have hkq : (k : Int) = (PS.size : Int) := by omega
      clear b5 hs5 M1 hB hq5
      go_wp2_with fail
      refine (wpIn_wide (n := 8)).1 ?_
      refine Pe.range2 rfl (by omega) (gf := 48) (lb := #[.pointer (some ⟨b, 0, none⟩)]) rfl trivial (enters_of Try.func48 (by kernel_rfl) rfl)
        (v := fun x : {x // x ∈ Wk.steps 1 xs} => .int .i64 (x.1.1 : Int)) (u := fun x => .agg #[.int .i64 x.1.2.tag, .string x.1.2.val, x.1.2.kv])
        (Wk.goes_all HR1.out HM.out.1 _ wr hV hbV) Wk.kn_t (Wk.kn_b hV.size) (Below.refl _ _) 17
        (fun pre X => X.heap[w.heap.size]? = some (.cells #[.bool false] 4) ∧ X.heap[q]? = some (.cells #[.int .i64 ((C : Int) - (pre.length : Int))] 3) ∧ Below w.heap.size w X)
        (fun c pre X => False)
        (fun s X Y row hs hg hrow => ⟨Wr.cells_on hs.1 hg (fun r e => (hrow r e).2), Wr.cells_on hs.2.1 hg (fun r e => (hrow r e).2), hs.2.2.grown hg hs.2.2.size (fun k e => by have := (hrow k e).1; omega)⟩)
        (fun c s X Y row hs hg hrow => hs)
        ⟨M0, by simpa using hc, B1⟩ ?assign ?body ?done ?stop
      case assign =>
        intro l x X K hK
        simp only [List.setIfInBounds_toArray, List.set_cons_succ, List.set_cons_zero] at hK ⊢
        gi_wp2
        exact hK
      case body =>
        rintro l pre x X ⟨i0, i1, i2⟩ hpl
        simp only [List.setIfInBounds_toArray, List.set_cons_succ, List.set_cons_zero]
        obtain ⟨P, HP⟩ : ∃ P : Nat, Hid (pre.length = P) := ⟨_, rfl⟩
        have HLn : Hid (((C : Int) - ((pre ++ [x]).length : Int)) = (C : Int) - (P : Int) - 1) := by
          show _ = _
          rw [List.length_append, HP.out]; simp; omega
        have hPC : P < C := by have := HP.out; have := HNS.out; omega
        rw [HP.out] at i1
        obtain ⟨d1, d2⟩ := HSD.out x.1 x.2
        generalize pre ++ [x] = pre2 at *
        clear hpl HP pre hc M0 hbV B1 HSD HR1 HM
        obtain ⟨⟨d, a⟩, hx⟩ := x
        simp only at d1 d2
        have d1' : ¬ (d : Int) < 1 := by omega
        have d2' : ¬ 8 < (d : Int) := by omega
        obtain ⟨c0, f0⟩ := one1 i1
        have M2 := Wr.setCell_heap' i1 0 (.int .i64 ((C : Int) - (P : Int) - 1))
        have M3 := (Gd.setCell_ne (w := X) (g := q) (k := w.heap.size) (by omega) 0 (.int .i64 ((C : Int) - (P : Int) - 1))).trans i0
        have kn1 := Wk.kn_set (n₀ := y1.heap.size) i1 (by decide) hVz 0 (.int .i64 ((C : Int) - (P : Int) - 1))
        have b6 := i2.setCell (p := ⟨q, 0, none⟩) (by simp; omega) (.int .i64 ((C : Int) - (P : Int) - 1))
        clear i0 i1 d1 d2
        gi_wp2
        exact ⟨KeepsOthers.setCell _ _ _, kn1, M3, by rw [HLn.out]; exact M2, b6⟩
      case done =>
        rintro D ys Y hD hS ⟨i0, i1, i2⟩ hK
        have hl0 : (C : Int) - (ys.length : Int) = 0 := by
          have := congrArg List.length hS
          rw [List.length_map, HNS.out] at this
          omega
        rw [hl0] at i1
        have hDY : D < Y.heap.size := (Array.getElem?_eq_some_iff.1 hK).1
        clear hl0 hS hc M0 hbV B1 HSD HR1 HM
        go_wp2_with fail
        refine (Su.subs_any Y oa na ca (raw_of (Sl.lies_below w0 i2))).mono ?_
        rintro _ y2 ⟨v3, cs, rfl, p2⟩
        replace i0 := Kb.kept p2.below i0
        replace i1 := Kb.kept p2.below i1
        replace i2 := Kb.keepB i2 p2.below
        replace hK := Kb.kept p2.below hK
        obtain ⟨o3, c3, rfl⟩ := p2.own.form
        have HR3 : Hid (Nt.Rdn y2 (.slice o3 cs.length c3) cs) := p2.own.reads
        obtain ⟨n0, n1, n3⟩ := Ct.subs_ok p2.fine (by have := p2.few; omega)
        have k4 := Sb.buildSub_any cs _ y2 HR3.out
        obtain ⟨A2, HA2⟩ : ∃ A2 : ByteArray, Hid ((⟨(Ag.esT (Nt.er cs)).toArray⟩ : ByteArray) = A2) := ⟨_, rfl⟩
        rw [n0, n1, HA2.out] at k4
        have k5 := fun y => Go_.parseSub_any A2 y (by rw [← HA2.out]; show (Ag.esT (Nt.er cs)).length ≤ _; omega)
        rw [Ct.parseS_whole p2.fine (by rw [Nt.er_len]; have := p2.few; omega) n3 (s := A2) (by rw [← HA2.out])] at k5
        obtain ⟨LN3, HLN3⟩ : ∃ LN3, Hid (cs.length = LN3) := ⟨_, rfl⟩
        rw [HLN3.out] at k4 HR3 ⊢
        clear p2 n0 n1 n3 HA2
        go_wp2_with fail
        refine k4.mono ?_
        clear k4
        rintro _ y3 ⟨rfl, h1⟩
        replace i0 := Kb.kept h1 i0
        replace i1 := Kb.kept h1 i1
        replace i2 := Kb.keepB i2 h1
        replace hK := Kb.kept h1 hK
        replace HR3 : Hid (Nt.Rdn y3 (.slice o3 LN3 c3) cs) := HR3.out.below h1
        clear h1
        go_wp2_with fail
        refine (k5 y3).mono ?_
        clear k5
        rintro _ y4 ⟨v4, ds, rfl, hea, ho4, h1⟩
        replace i0 := Kb.kept h1 i0
        replace i1 := Kb.kept h1 i1
        replace i2 := Kb.keepB i2 h1
        replace hK := Kb.kept h1 hK
        obtain ⟨o4, c4, rfl⟩ := ho4.form
        have k6 := Sa.same_any ds cs _ _ y4 ho4.reads (HR3.out.below h1)
        rw [show Sa.smB ds cs = true from (Sa.smB_er _ _).2 hea] at k6
        obtain ⟨LN4, HLN4⟩ : ∃ LN4, Hid (ds.length = LN4) := ⟨_, rfl⟩
        rw [HLN4.out] at k6 ⊢
        clear ho4 h1 hea HR3
        go_wp2_with fail
        refine k6.mono ?_
        clear k6
        rintro _ y5 ⟨rfl, h1⟩
        replace i0 := Kb.kept h1 i0
        replace i1 := Kb.kept h1 i1
        replace i2 := Kb.keepB i2 h1
        replace hK := Kb.kept h1 hK
        obtain ⟨c0, f0⟩ := one1 i0
        obtain ⟨c5, f5⟩ := one1 i1
        have i0' := Wr.setCell_heap' i0 0 (.bool true)
        clear h1 i0 i1
        go_wp2
        have hK' := (KeepsOthers.setCell y5 ⟨w.heap.size, 0, none⟩ (.bool true)).same D _ hK rfl
        refine ⟨by simp, .inl ⟨_, _, rfl, run_takeDeferred hK', ?_⟩⟩
        have hne : w.heap.size ≠ D := by omega
        have hc5 : ((y5.setCell ⟨w.heap.size, 0, none⟩ (.bool true)).putObj D (.deferred none)).cell? ⟨w.heap.size, 0, none⟩ = some (.bool true) := by
          have := (World.putObj_heap_other (w := y5.setCell ⟨w.heap.size, 0, none⟩ (.bool true)) (o := .deferred none) hne).trans i0'
          simp [World.cell?, this]
        refine ⟨.bool true, ?_, rfl, (i2.setCell (p := ⟨w.heap.size, 0, none⟩) (Nat.le_refl _) _).trans (belowK_b (w := w) (Nat.le_refl _) _ D _ _ (by omega) hK' rfl rfl)⟩
        simp [results, Try.f8, go_sem, hc5]
      case stop =>
        rintro D c pre Y hD hS hF hK
        exact hF.elim

set_option maxRecDepth 100000 in
theorem contract (H : Type) (enc : TypeId × Value → H) (W : World) (base : Nat) (args : Array Value) (ds gs : List (DataW H)) (before : List MemPlace)
    (hval : ∀ (j : Nat) t v, Try.f8.params[j]? = some t → args[j]? = some v → Value.okWide Try.prog W .any base t v)
    (hW : DataW.Whole enc Try.prog Try.f8.params.toList Rows.tlvBackSpec.vars false W args.toList ds gs before) :
    Calls Try.prog 8 args W fun e W' => ∃ v, e = .returned v ∧ Rows.tlvBackSpec.post enc Try.prog Try.f8 false true false false W args v W' := by
  have hW' := hW
  obtain ⟨p, q, hA0, hV, rfl, hfz, hnd⟩ := hW
  have hA : DataW.TrodAll enc Try.prog W 0 (fun _ => true) true Try.f8.params.toList args.toList ds p := hA0
  rw [Try.params8] at hA hval
  obtain ⟨v0, vs0, d0, ds0, p0, q0, hargs, rfl, rfl, h0, r0⟩ := trodAll_cons hA
  obtain ⟨rfl, rfl, rfl⟩ := trodAll_nil r0
  obtain rfl : args = #[v0] := by cases args; simp_all
  obtain ⟨rfl, rfl⟩ := trodVars_none hV
  obtain ⟨z0, w0, lt0, bulk0⟩ := Sl.open_sl (hval 0 30 v0 rfl rfl) h0
  clear hA0
  refine (walk v0 z0 W w0).mono fun e W' ⟨he, bel⟩ => ?_
  subst he
  exact ⟨_, rfl, _, _, _, [], _, [], hW', trodAll_mk1 (shut_bool Try.underlying4 _), (trodAll_cons_mk (Below.trod (by kernel_rfl) (by kernel_rfl) (of_decide_eq_true (by kernel_rfl)) h0 bel lt0) trodAll_mk0), rfl, bel.frame _, fun h => by cases h⟩

set_option maxRecDepth 100000 in
theorem lifted (os : Os) (started : os.Started) (H : Type) (enc : TypeId × Value → H) :
    ReturnsInHanded {} Try.checked os 8 .any (Rows.tlvBackSpec.pre6 enc Try.prog Try.f8 Rows.tlvBackRow.domain false) (Rows.tlvBackSpec.post enc Try.prog Try.f8 false true false false) := by
  refine returnsInHanded_of_change (C := Try.checked) own started (by kernel_rfl) Try.func8
    (ChangeSpec.witness6 (enc := enc) (C := Try.checked) false ⟨#[], #[.slice none 0 0], []⟩ 8 (by kernel_rfl) (by kernel_rfl) (by kernel_rfl) (by kernel_rfl)) ?_
  intro W base args ds gs before hval hW _ _
  exact contract H enc W base args ds gs before hval hW

theorem proved : Rows.TlvBackSaid :=
  OpenClaim.holds_of_wide 8 Try.f8 rfl rfl rfl rfl rfl rfl rfl ⟨rfl, rfl, rfl, rfl, rfl⟩ rfl rfl rfl rfl rfl (by kernel_rfl) Try.func8 (by kernel_rfl)
    (of_decide_eq_true (by kernel_rfl)) (by unfold Func.isWrapper; first | (rw [if_pos (by decide +kernel)]; kernel_rfl) | (rw [if_neg (by decide +kernel)]; exact ⟨rfl, rfl⟩))
    (fun os started H enc _ => lifted os started H enc)
#print axioms proved
end Go.Proofs.Ytgidjfhlooggkaa.tlvBack
