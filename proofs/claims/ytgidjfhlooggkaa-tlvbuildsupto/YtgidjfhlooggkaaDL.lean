/- TlvBuilds: the law out of the contracts; the frame of the row. -/
import Derived.Test.YtgidjfhlooggkaaRows
import Derived.WalkKit
import Derived.ProofKit
import Derived.OpenShut
import Derived.ShutString
import Derived.ChangeOld
import Derived.Below
import Derived.JoinedCond
import Derived.Carry
import Derived.SizedLaws
import Derived.Test.YtgidjfhlooggkaaKn
import Derived.Test.YtgidjfhlooggkaaBt
import Derived.Test.YtgidjfhlooggkaaOn
import Derived.Test.YtgidjfhlooggkaaFt
import Derived.Test.YtgidjfhlooggkaaLc
import Derived.Test.YtgidjfhlooggkaaWd
namespace Go.Proofs.Ytgidjfhlooggkaa.tlvBuilds
open Go.ChangeShapes Go.WideShapes Go.ChangeAt Go.RowKit
open Go.ChangeMaps (open_string shut_string)
set_option linter.unusedVariables false

theorem own : ownKnob Try.prog.godebug = none := by kernel_rfl

theorem dep_er : ∀ xs ys : List Nt.AT, Nt.er xs = Nt.er ys → Wk.dep xs = Wk.dep ys
  | [], [], _ => rfl
  | .mk t v kv ks :: ts, .mk t' v' kv' ks' :: ts', e => by
    simp only [Nt.er, List.cons.injEq, Nt.Tr.mk.injEq] at e
    simp only [Wk.dep, dep_er ks ks' e.1.2.2, dep_er ts ts' e.2]
  | [], .mk t v kv ks :: ts, e => by simp [Nt.er] at e
  | .mk t v kv ks :: ts, [], e => by simp [Nt.er] at e
theorem same_set : ∀ (ts : List Nt.AT) (i : Nat) (h : i < ts.length) (t : Int) (c : ByteArray), Li.lsK (ts.set i (.mk t c ts[i].kv ts[i].kids)) = Li.lsK ts ∧ Wk.dep (ts.set i (.mk t c ts[i].kv ts[i].kids)) = Wk.dep ts
  | [], i, h, t, c => by simp at h
  | .mk t v kv ks :: ts, 0, h, _, c => by simp [Li.lsK, Wk.dep, Nt.AT.kv, Nt.AT.kids]
  | .mk t v kv ks :: ts, i + 1, h, t', c => by
    have := same_set ts i (by simpa using h) t' c
    simp only [List.set_cons_succ, List.getElem_cons_succ, Li.lsK, Wk.dep, this.1, this.2]
    simp
set_option maxRecDepth 100000 in
set_option maxHeartbeats 6400000 in
theorem walk (v0 : Value) (ts0 : List Nt.AT) (a1 : Int) (a2 : ByteArray) (w : World) (w0 : Nt.Rdn w v0 ts0) (w1 : (Lit.int .i64 a1).wf = true) (w2 : a2.size ≤ maxLen) (k2 : a2.size ≤ 1048576) :
    Calls Try.prog 4 #[v0, .int .i64 a1, .string a2] w fun e w' => e = .returned (.bool true) ∧ Below w.heap.size w w' := by
  have kn := Kn.known_any
  have HW1 : Nt.tagB a1 := by
    have := w1
    simp [Lit.wf] at this
    have e1 : IntKind.i64.min = -9223372036854775808 := by decide
    have e2 : IntKind.i64.max = 9223372036854775807 := by decide
    unfold Nt.tagB
    omega
  have HLL : Hid (Nt.Rdn w v0 ts0) := w0
  obtain ⟨lo, lc, el, hlN, -⟩ := w0.row
  obtain ⟨NL, HNL⟩ : ∃ N, Hid (ts0.length = N) := ⟨_, rfl⟩
  rw [HNL.out] at el
  subst el
  have HL : Hid (Nt.Rdn w (.slice lo NL lc) ts0) := HLL.out
  have HTB : Hid (Nt.tagB a1) := HW1
  have HK2 : Hid (a2.size ≤ 1048576) := k2
  clear HLL w0 hlN HW1 w1
  go_enter Try.func4, Try.ntmps4
  go_wp2_with fail
  refine (kn _).mono ?_
  rintro e y0 ⟨rfl, h0⟩
  have H0 : Hid (Below w.heap.size w y0) := h0
  clear h0
  go_wp2_with fail
  refine (Ft.small_any ts0 _ y0 (HL.out.below H0.out)).mono ?_
  rintro _ yS ⟨fit, rfl, hS, HFT⟩
  have HWT : Hid (Below w.heap.size w yS) := Kb.keepB H0.out hS
  clear hS H0 y0
  cases fit with
  | false =>
    go_wp2
    go_ret
    exact ⟨rfl, HWT.out⟩
  | true =>
    obtain ⟨hft1, hft2⟩ := HFT.out rfl
    have HF : Hid ((Li.lsK ts0).length ≤ 700 ∧ Wk.dep ts0 ≤ 20) := ⟨hft1, hft2⟩
    clear hft1 hft2 HFT
    go_wp2_with fail
    refine (Lw.lend_any ts0 _ yS (HL.out.below HWT.out)).mono ?_
    rintro _ z1 ⟨v5, a5, rfl, he5, hl5, hb5⟩
    obtain ⟨g5, cap5, e5, -⟩ := hl5.row
    obtain ⟨N5, HN5⟩ : ∃ N, Hid (a5.length = N) := ⟨_, rfl⟩
    rw [HN5.out] at e5
    subst e5
    have HL5 : Hid (Le.Lnt z1 yS.heap.size (.slice (some ⟨g5, 0, none⟩) N5 cap5) a5) := hl5
    have HB5 : Hid (Below w.heap.size w z1) := Kb.keepB HWT.out hb5
    have HE5 : Hid (Nt.er a5 = Nt.er ts0) := he5
    have hn5 : N5 ≤ 1048576 := by
      obtain ⟨_, _, _, _, hf⟩ := hl5.row
      rw [← HN5.out]; exact hf
    have hg5 : w.heap.size ≤ yS.heap.size := HWT.out.size
    have HF5 : Hid ((Li.lsK a5).length ≤ 700 ∧ Wk.dep a5 ≤ 20) := by
      refine ⟨?_, by rw [dep_er _ _ he5]; exact HF.out.2⟩
      rw [Bt.ls_cnt, he5, ← Bt.ls_cnt]; exact HF.out.1
    have c6 := Wd.build_doc ts0 (.slice lo NL lc) z1 (HL.out.below HB5.out) (Wd.lsz_few (HL.out.below HB5.out).kids HF.out.1)
    have c5 := fun y (hy : Below z1.heap.size z1 y) => Bu.build_any a5 (.slice (some ⟨g5, 0, none⟩) N5 cap5) y (hl5.reads.below hy) (by have := HF5.out.2; omega)
    rw [(Wd.bld_er he5).1, (Wd.bld_er he5).2] at c5
    generalize Bu.bldS ts0 = S5 at c5 c6
    generalize Bu.bldE ts0 = E5 at c5 c6
    clear hl5 hb5 he5
    go_wp2_with fail
    refine c6.mono ?_
    clear c6
    rintro _ z2 ⟨rfl, h2⟩
    have HZ2 : Hid (Below z1.heap.size z1 z2) := h2
    clear h2
    go_wp2_with fail
    go_loopw [12] (fun vi wx => ∃ j : Nat, j ≤ 2 ∧ vi = .int .i64 (j : Int) ∧ Below z1.heap.size z1 wx) (fun vi _ => 2 - (intOf vi).toNat)
    case atStart => exact ⟨0, by omega, rfl, HZ2.out⟩
    case round =>
      obtain ⟨j, hj, rfl, hwx⟩ := hrel
      rename World => wx
      have HWX : Hid (Below z1.heap.size z1 wx) := hwx
      clear hwx
      by_cases hj2 : j < 2
      case pos =>
        have hj' : (j : Int) < 2 := by omega
        go_wp2_with fail
        refine (c5 wx HWX.out).mono ?_
        rintro _ z3 ⟨rfl, h3⟩
        have HX3 : Hid (Below z1.heap.size z1 z3) := Kb.keepB HWX.out h3
        clear h3
        go_wp2
        exact ⟨⟨j + 1, by omega, by go_num, HX3.out⟩, by simp [intOf]; omega⟩
      have hj' : ¬ (j : Int) < 2 := by omega
      have HB7 : Hid (Below w.heap.size w wx) := Kb.keepB HB5.out HWX.out
      replace HL5 : Hid (Le.Lnt wx yS.heap.size (.slice (some ⟨g5, 0, none⟩) N5 cap5) a5) := HL5.out.below HWX.out
      have c7 := Ke.kept_any a5 ts0 (.slice (some ⟨g5, 0, none⟩) N5 cap5) (.slice lo NL lc) wx _ HL5.out (HL.out.below HB7.out) HE5.out
      clear HWX HB5 c5 HZ2
      go_wp2_with fail
      refine c7.mono ?_
      clear c7
      rintro _ z4 ⟨rfl, h4⟩
      have HB8 : Hid (Below w.heap.size w z4) := Kb.keepB HB7.out h4
      replace HL5 : Hid (Le.Lnt z4 yS.heap.size (.slice (some ⟨g5, 0, none⟩) N5 cap5) a5) := HL5.out.below h4
      clear h4 HB7
      by_cases hn0 : 0 < N5
      · have hn0' : 0 < (N5 : Int) := by omega
        obtain ⟨M5, HM5⟩ : ∃ M : Nat, Hid (N5 / 2 = M) := ⟨_, rfl⟩
        have hm5 := HM5.out
        have em5 : (N5 : Int) / 2 = (M5 : Int) := by omega
        have hml : (M5 : Int) < (N5 : Int) := by omega
        have hma : M5 < a5.length := by rw [HN5.out]; omega
        obtain ⟨tq, vq, kq, q0, q1, q2, qf, qb, ql⟩ := Lc.Lnt.cells HN5.out HL5.out (i := M5) (by omega)
        have f1 := qf (M5 * 3)
        obtain ⟨A1, L1, HN6, HF6⟩ : ∃ A1, Le.Lnt (z4.setCell ⟨g5, M5 * 3, none⟩ (.int .i64 a1)) yS.heap.size (.slice (some ⟨g5, 0, none⟩) N5 cap5) A1 ∧ Hid (A1.length = N5) ∧ Hid ((Li.lsK A1).length ≤ 700 ∧ Wk.dep A1 ≤ 20) := by
          have ss := same_set a5 M5 hma a1 a5[M5].val
          refine ⟨_, Lc.Lnt.sett HN5.out HL5.out hma a1 HTB.out, by show _ = _; rw [List.length_set]; exact HN5.out, ?_⟩
          show (Li.lsK (a5.set M5 (.mk a1 a5[M5].val a5[M5].kv a5[M5].kids))).length ≤ 700 ∧ Wk.dep (a5.set M5 (.mk a1 a5[M5].val a5[M5].kv a5[M5].kids)) ≤ 20
          rw [ss.1, ss.2]
          exact HF5.out
        obtain ⟨tr, vr, kr, r0, r1, r2, rf, rb, rl⟩ := Lc.Lnt.cells HN6.out L1 (i := 0) hn0
        have r1' : (z4.setCell ⟨g5, M5 * 3, none⟩ (.int .i64 a1)).cell? ⟨g5, 1, none⟩ = some (.string vr) := r1
        have rf1 := rf 1
        obtain ⟨A2, L2, HF7⟩ : ∃ A2, Le.Lnt ((z4.setCell ⟨g5, M5 * 3, none⟩ (.int .i64 a1)).setCell ⟨g5, 1, none⟩ (.string a2)) yS.heap.size (.slice (some ⟨g5, 0, none⟩) N5 cap5) A2 ∧ Hid ((Li.lsK A2).length ≤ 700 ∧ Wk.dep A2 ≤ 20) := by
          have h0 : 0 < A1.length := by rw [HN6.out]; exact hn0
          have ss := same_set A1 0 h0 A1[0].tag a2
          refine ⟨_, Lc.Lnt.setv HN6.out L1 (i := 0) h0 a2 HK2.out, ?_⟩
          show (Li.lsK (A1.set 0 (.mk A1[0].tag a2 A1[0].kv A1[0].kids))).length ≤ 700 ∧ Wk.dep (A1.set 0 (.mk A1[0].tag a2 A1[0].kv A1[0].kids)) ≤ 20
          rw [ss.1, ss.2]
          exact HF6.out
        have RD := L2.reads
        have BZ : Below w.heap.size w ((z4.setCell ⟨g5, M5 * 3, none⟩ (.int .i64 a1)).setCell ⟨g5, 1, none⟩ (.string a2)) := Lw.bset (Lw.bset HB8.out (by omega) _ _) (by omega) _ _
        have HFC := HF7.out.1
        have HFD : Wk.dep A2 ≤ 999999 := Nat.le_trans HF7.out.2 (by omega)
        clear qf hm5 rf r0 r1 r2 q1 q2 L1 L2
        have c8 := Wd.build_doc (A2) (.slice (some ⟨g5, 0, none⟩) N5 cap5) ((z4.setCell ⟨g5, M5 * 3, none⟩ (.int .i64 a1)).setCell ⟨g5, 1, none⟩ (.string a2)) RD (Wd.lsz_few RD.kids HFC)
        have c9 := fun y (hy : Below ((z4.setCell ⟨g5, M5 * 3, none⟩ (.int .i64 a1)).setCell ⟨g5, 1, none⟩ (.string a2)).heap.size ((z4.setCell ⟨g5, M5 * 3, none⟩ (.int .i64 a1)).setCell ⟨g5, 1, none⟩ (.string a2)) y) => Bu.build_any (A2) (.slice (some ⟨g5, 0, none⟩) N5 cap5) y (Nt.Rdn.below RD hy) HFD
        generalize Bu.bldS (A2) = S8 at c8 c9
        generalize Bu.bldE (A2) = E8 at c8 c9
        clear HL5 HFC HFD
        go_wp2_with fail
        refine c8.mono ?_
        rintro _ z8 ⟨rfl, h8⟩
        go_wp2_with fail
        refine (c9 z8 h8).mono ?_
        rintro _ z9 ⟨rfl, h9⟩
        go_wp2
        go_ret
        exact ⟨by simp, Kb.keepB (Kb.keepB BZ h8) h9⟩
      · have hn0' : ¬ 0 < (N5 : Int) := by omega
        have RD : Nt.Rdn z4 (.slice (some ⟨g5, 0, none⟩) N5 cap5) a5 := HL5.out.reads
        have HFC := HF5.out.1
        have HFD : Wk.dep a5 ≤ 999999 := Nat.le_trans HF5.out.2 (by omega)
        have c8 := Wd.build_doc (a5) (.slice (some ⟨g5, 0, none⟩) N5 cap5) z4 RD (Wd.lsz_few RD.kids HFC)
        have c9 := fun y (hy : Below z4.heap.size z4 y) => Bu.build_any (a5) (.slice (some ⟨g5, 0, none⟩) N5 cap5) y (Nt.Rdn.below RD hy) HFD
        generalize Bu.bldS (a5) = S8 at c8 c9
        generalize Bu.bldE (a5) = E8 at c8 c9
        clear HL5 HFC HFD
        go_wp2_with fail
        refine c8.mono ?_
        rintro _ z8 ⟨rfl, h8⟩
        go_wp2_with fail
        refine (c9 z8 h8).mono ?_
        rintro _ z9 ⟨rfl, h9⟩
        go_wp2
        go_ret
        exact ⟨by simp, Kb.keepB (Kb.keepB HB8.out h8) h9⟩

set_option maxRecDepth 100000 in
theorem contract (H : Type) (enc : TypeId × Value → H) (W : World) (base : Nat) (args : Array Value) (ds gs : List (DataW H)) (before : List MemPlace)
    (hval : ∀ (j : Nat) t v, Try.f4.params[j]? = some t → args[j]? = some v → Value.okWide Try.prog W .any base t v)
    (hW : DataW.Whole enc Try.prog Try.f4.params.toList Rows.tlvBuildsSpec.vars false W args.toList ds gs before) (hk : Rows.uptoSmall H (ds ++ gs) = true) :
    Calls Try.prog 4 args W fun e W' => ∃ v, e = .returned v ∧ Rows.tlvBuildsSpec.post enc Try.prog Try.f4 false true false false W args v W' := by
  have hW' := hW
  obtain ⟨p, q, hA0, hV, rfl, hfz, hnd⟩ := hW
  have hA : DataW.TrodAll enc Try.prog W 0 (fun _ => true) true Try.f4.params.toList args.toList ds p := hA0
  rw [Try.params4] at hA hval
  obtain ⟨v0, vs0, d0, ds0, p0, q0, hargs, rfl, rfl, h0, r0⟩ := trodAll_cons hA
  obtain ⟨v1, vs1, d1, ds1, p1, q1, rfl, rfl, rfl, h1, r1⟩ := trodAll_cons r0
  obtain ⟨v2, vs2, d2, ds2, p2, q2, rfl, rfl, rfl, h2, r2⟩ := trodAll_cons r1
  obtain ⟨rfl, rfl, rfl⟩ := trodAll_nil r2
  obtain rfl : args = #[v0, v1, v2] := by cases args; simp_all
  obtain ⟨rfl, rfl⟩ := trodVars_none hV
  obtain ⟨a1, rfl, rfl, rfl, w1⟩ := open_int Try.underlying3 (hval 1 3 v1 rfl rfl) h1
  obtain ⟨a2, rfl, rfl, rfl, w2⟩ := open_string Try.underlying9 (hval 2 9 v2 rfl rfl) h2
  clear hA0
  simp only [List.append_nil] at hk
  have hk1 := of_decide_eq_true hk
  simp only [Rows.uptoBulkAll, Rows.uptoBulk] at hk1
  obtain ⟨ts0, w0, lt0⟩ := On.open_nodes (hval 0 23 v0 rfl rfl) h0 (by omega)
  have e2 : a2.data.toList.length = a2.size := by rw [Array.length_toList]; rfl
  refine (walk v0 ts0 a1 a2 W w0 w1 w2 (by omega)).mono fun e W' ⟨he, bel⟩ => ?_
  subst he
  exact ⟨_, rfl, _, _, _, [], _, [], hW', trodAll_mk1 (shut_bool Try.underlying4 _), (trodAll_cons_mk (Below.trod (by kernel_rfl) (by kernel_rfl) (of_decide_eq_true (by kernel_rfl)) h0 bel lt0) (trodAll_cons_mk (shut_int Try.underlying3 w1) (trodAll_cons_mk (shut_string Try.underlying9 w2) trodAll_mk0))), rfl, bel.frame _, fun h => by cases h⟩

set_option maxRecDepth 100000 in
theorem lifted (os : Os) (started : os.Started) (H : Type) (enc : TypeId × Value → H) (F : Stop.Interp) :
    ReturnsInHanded {} Try.checked os 4 .any ((Rows.OpenSpec.upto Rows.tlvBuildsSpec).pre6 enc Try.prog Try.f4 Rows.tlvBuildsUptoRow.domain false) (((Rows.OpenSpec.upto Rows.tlvBuildsSpec).at F).post enc Try.prog Try.f4 false true false false) := by
  refine returnsInHanded_of_cond (C := Try.checked) (s := Rows.OpenSpec.upto Rows.tlvBuildsSpec) (k := Rows.uptoSmall) rfl own started (by kernel_rfl) Try.func4
    (OpenSpec.witness (enc := enc) (C := Try.checked) (s := Rows.OpenSpec.upto Rows.tlvBuildsSpec) (k := Rows.uptoSmall) rfl false ⟨#[], #[.slice none 0 0, .int .i64 0, .string .empty], []⟩ 8 (by kernel_rfl) (by kernel_rfl) (by kernel_rfl)
      (x := ([.nil, .lit (.int .i64 0), .lit (.string [])], [], [])) (by kernel_rfl) rfl (by kernel_rfl)) ?_
  intro W base args ds gs before hval hW _ hk _
  exact contract H enc W base args ds gs before hval hW hk

theorem proved : Rows.TlvBuildsUptoSaid :=
  OpenClaim.holds_of_cond 4 Try.f4 rfl rfl rfl rfl rfl rfl rfl ⟨rfl, rfl, rfl, rfl, rfl⟩ rfl rfl rfl rfl rfl (by kernel_rfl) Try.func4 (by kernel_rfl)
    (of_decide_eq_true (by kernel_rfl)) (by unfold Func.isWrapper; first | (rw [if_pos (by decide +kernel)]; kernel_rfl) | (rw [if_neg (by decide +kernel)]; exact ⟨rfl, rfl⟩))
    (fun os started H enc _ F => lifted os started H enc F)
#print axioms proved
end Go.Proofs.Ytgidjfhlooggkaa.tlvBuilds
