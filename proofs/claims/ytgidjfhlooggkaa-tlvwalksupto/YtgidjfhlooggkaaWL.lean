/- TlvWalks: the law out of the contracts; the frame of the row. -/
import Derived.Test.YtgidjfhlooggkaaRows
import Derived.WalkKit
import Derived.ProofKit
import Derived.OpenShut
import Derived.ShutString
import Derived.ChangeOld
import Derived.Below
import Derived.JoinedCond
import Derived.Carry
import Derived.SizedLaws
import Derived.Test.YtgidjfhlooggkaaKn
import Derived.Test.YtgidjfhlooggkaaOn
import Derived.Test.YtgidjfhlooggkaaFt
import Derived.Test.YtgidjfhlooggkaaLc
import Derived.Test.YtgidjfhlooggkaaWz
namespace Go.Proofs.Ytgidjfhlooggkaa.tlvWalks
open Go.ChangeShapes Go.WideShapes Go.ChangeAt Go.RowKit
open Go.ChangeMaps (open_string shut_string)
set_option linter.unusedVariables false

theorem own : ownKnob Try.prog.godebug = none := by kernel_rfl

attribute [local go_sem] Oper.semAt_some
theorem nil_no (b : Nat) (y : World) : (binOp .eql 46 (.func (.func 48) #[] #[.pointer (some ⟨b, 0, none⟩)]) .nilFunc).run Try.prog y = .ok (.bool false) y := by
  kernel_rfl
theorem one1 {x : World} {g : Nat} {a : Value} {t : TypeId} (h : x.heap[g]? = some (.cells #[a] t)) : x.cell? ⟨g, 0, none⟩ = some a ∧ x.frozen? ⟨g, 0, none⟩ = false := by
  refine ⟨?_, ?_⟩ <;> simp [World.cell?, World.frozen?, h]
theorem below_dn {q : Nat} {A X : World} (h : Below q A X) (m : Nat) : Below q A (X.drewN m) := by
  induction m with
  | zero => exact h
  | succ m ih => exact ih.drew
theorem dep_er : ∀ xs ys : List Nt.AT, Nt.er xs = Nt.er ys → Wk.dep xs = Wk.dep ys
  | [], [], _ => rfl
  | .mk t v kv ks :: ts, .mk t' v' kv' ks' :: ts', e => by
    simp only [Nt.er, List.cons.injEq, Nt.Tr.mk.injEq] at e
    simp only [Wk.dep, dep_er ks ks' e.1.2.2, dep_er ts ts' e.2]
  | [], .mk t v kv ks :: ts, e => by simp [Nt.er] at e
  | .mk t v kv ks :: ts, [], e => by simp [Nt.er] at e
set_option maxRecDepth 100000 in
set_option maxHeartbeats 6400000 in
theorem walk (v0 : Value) (ts0 : List Nt.AT) (a1 : Int) (w : World) (w0 : Nt.Rdn w v0 ts0) (w1 : (Lit.int .i64 a1).wf = true) :
    Calls Try.prog 6 #[v0, .int .i64 a1] w fun e w' => e = .returned (.bool true) ∧ Below w.heap.size w w' := by
  have HW1 : Nt.tagB a1 := by
    have := w1
    simp [Lit.wf] at this
    have e1 : IntKind.i64.min = -9223372036854775808 := by decide
    have e2 : IntKind.i64.max = 9223372036854775807 := by decide
    unfold Nt.tagB
    omega
  have HLL : Hid (Nt.Rdn w v0 ts0) := w0
  obtain ⟨lo, lc, el, hlN, -⟩ := w0.row
  obtain ⟨NL, HNL⟩ : ∃ N, Hid (ts0.length = N) := ⟨_, rfl⟩
  rw [HNL.out] at el
  subst el
  have HL : Hid (Nt.Rdn w (.slice lo NL lc) ts0) := HLL.out
  have HTB : Hid (Nt.tagB a1) := HW1
  clear HLL w0 hlN HW1 w1
  refine (callsIn_wide (n := 8)).1 ?_
  refine callsIn_of_wp_marks Try.func6 rfl trivial ?_ rfl
  simp only [Try.ntmps6, List.size_toArray, List.length_cons, List.length_nil, Nat.reduceAdd, Nat.reduceSub, Array.replicate_succ, Array.replicate_zero, List.push_toArray, List.append_toArray, List.nil_append, List.cons_append]
  refine wpIn_wide.2 ?_
  have M3 := Kb.h1_0 w (.cells #[.int .i64 a1] 3)
  have B3 := Kb.below_one w (.cells #[.int .i64 a1] 3)
  have s3 : (w.alloc (.cells #[.int .i64 a1] 3)).heap.size = w.heap.size + 1 := by simp
  have M4 := Kb.h1_0 (w.alloc (.cells #[.int .i64 a1] 3)) (.cells #[.bool false] 4)
  have B4 := Kb.below_one (w.alloc (.cells #[.int .i64 a1] 3)) (.cells #[.bool false] 4)
  rw [s3] at M4
  go_wp2_with fail
  replace M3 := Kb.kept B4 M3
  replace B4 := Kb.keepB B3 B4
  clear B3 s3
  generalize (w.alloc (.cells #[.int .i64 a1] 3)).alloc (.cells #[.bool false] 4) = W at *
  refine (Kn.known_any _).mono ?_
  rintro e y0 ⟨rfl, h0⟩
  replace M3 := Kb.kept h0 M3
  replace M4 := Kb.kept h0 M4
  replace B4 := Kb.keepB B4 h0
  clear h0
  go_wp2_with fail
  refine (Ft.small_any ts0 _ y0 (HL.out.below B4)).mono ?_
  rintro _ yS ⟨fit, rfl, hS, HFT⟩
  replace M3 := Kb.kept hS M3
  replace M4 := Kb.kept hS M4
  replace B4 := Kb.keepB B4 hS
  clear hS y0
  cases fit with
  | false =>
    obtain ⟨c4, f4⟩ := one1 M4
    have M4' := (one1 (Wr.setCell_heap' M4 0 (.bool true))).1
    go_wp2
    refine ⟨.bool true, ?_, rfl, B4.setCell (p := ⟨w.heap.size + 1, 0, none⟩) (by simp) _⟩
    simp [results, Try.f6, go_sem, M4']
  | true =>
    obtain ⟨hft1, hft2⟩ := HFT.out rfl
    clear HFT
    go_wp2_with fail
    refine (Lw.lend_any ts0 _ yS (HL.out.below B4)).mono ?_
    rintro _ z1 ⟨v5, a5, rfl, he5, hl5, hb5⟩
    obtain ⟨g5, cap5, e5, -⟩ := hl5.row
    obtain ⟨N5, HN5⟩ : ∃ N, Hid (a5.length = N) := ⟨_, rfl⟩
    rw [HN5.out] at e5
    subst e5
    have HL5 : Hid (Le.Lnt z1 yS.heap.size (.slice (some ⟨g5, 0, none⟩) N5 cap5) a5) := hl5
    have hn5 : N5 ≤ 1048576 := by
      obtain ⟨_, _, _, _, hf⟩ := hl5.row
      rw [← HN5.out]; exact hf
    have hg5 : w.heap.size ≤ yS.heap.size := B4.size
    replace M3 := Kb.kept hb5 M3
    replace M4 := Kb.kept hb5 M4
    replace B4 := Kb.keepB B4 hb5
    have HE5 : Hid (Nt.er a5 = Nt.er ts0) := he5
    have HD5 : Hid (Wk.dep a5 ≤ 20) := by show _ ≤ _; rw [dep_er _ _ he5]; exact hft2
    have HD0 : Hid (Wk.dep ts0 ≤ 20) := hft2
    have hS0 : (Wk.steps 1 ts0).length ≤ 700 := by rw [Wq.steps_ls]; exact hft1
    have HS5 : Hid ((Wk.steps 1 a5).length = (Wk.steps 1 ts0).length) := by
      show _ = _
      have := congrArg List.length (Wq.steps_er 1 a5 ts0 he5)
      simpa using this
    have HRD5 : Hid (Nt.Rdn z1 (.slice (some ⟨g5, 0, none⟩) N5 cap5) a5) := hl5.reads
    have HKV0 : Hid (∀ x ∈ Wk.steps 1 ts0, ∃ ko kc, x.2.kv = .slice ko x.2.kids.length kc) := fun x hx => by
      have := Wr.steps_read 1 ts0 HL.out.kids x hx
      exact Wk.kv_form this.1.row
    clear hl5 hb5 he5 hft1 hft2
    go_wp2_with fail
    refine (Al.all_ref ts0 _ z1 (HL.out.below B4) (by omega) (by have := HD0.out; omega)).mono ?_
    rintro _ z2 ⟨sv, rfl, hrow, -, h2⟩
    obtain ⟨so, sc, rfl⟩ := Al.formN hrow
    obtain ⟨M, HM, hM⟩ : ∃ M, Hid ((Wk.steps 1 ts0).length = M) ∧ M ≤ 700 := ⟨_, rfl, hS0⟩
    have HROW : Hid (World.ownsRow z2 z1.heap.size 49 4 (.slice so (Wk.steps 1 ts0).length sc) (Wk.steps 1 ts0).length (Al.sc (Wk.steps 1 ts0))) := hrow
    rw [HM.out]
    replace M3 := Kb.kept h2 M3
    replace M4 := Kb.kept h2 M4
    replace B4 := Kb.keepB B4 h2
    have B5 : Below z1.heap.size z1 z2 := h2
    clear hrow h2 hS0
    have M8 := Kb.h1_0 z2 (.cells #[.slice so M sc] 43)
    have B8 := Kb.below_one z2 (.cells #[.slice so M sc] 43)
    go_wp2_with fail
    generalize z2.alloc (.cells #[.slice so M sc] 43) = X8 at *
    replace M3 := Kb.kept B8 M3
    replace M4 := Kb.kept B8 M4
    replace B4 := Kb.keepB B4 B8
    replace B5 := Kb.keepB B5 B8
    replace HROW : Hid (World.ownsRow X8 z1.heap.size 49 4 (.slice so (Wk.steps 1 ts0).length sc) (Wk.steps 1 ts0).length (Al.sc (Wk.steps 1 ts0))) := Nt.owns_keep HROW.out fun q hq => B8.block q (HROW.out.lt q hq).2
    clear B8
    refine (Wk.all_any (some ⟨g5, 0, none⟩) N5 cap5 X8).mono ?_
    rintro e V ⟨b, he, hbV, hV, hbW⟩
    replace he : e = .returned (.func (.func 48) #[] #[.pointer (some ⟨b, 0, none⟩)]) := he
    subst he
    clear hbW
    replace M3 := Kb.kept hV M3
    replace M4 := Kb.kept hV M4
    replace M8 := Kb.kept hV M8
    replace B4 := Kb.keepB B4 hV
    replace B5 := Kb.keepB B5 hV
    replace HROW : Hid (World.ownsRow V z1.heap.size 49 4 (.slice so (Wk.steps 1 ts0).length sc) (Wk.steps 1 ts0).length (Al.sc (Wk.steps 1 ts0))) := Nt.owns_keep HROW.out fun q hq => hV.block q (HROW.out.lt q hq).2
    clear hV
    have nn := nil_no b
    have M9 := Kb.h1_0 V (.cells #[.func (.func 48) #[] #[.pointer (some ⟨b, 0, none⟩)]] 46)
    have B9 := Kb.below_one V (.cells #[.func (.func 48) #[] #[.pointer (some ⟨b, 0, none⟩)]] 46)
    obtain ⟨c9, f9⟩ := one1 M9
    go_wp2_with fail
    clear nn
    replace M3 := Kb.kept B9 M3
    replace M4 := Kb.kept B9 M4
    replace M8 := Kb.kept B9 M8
    replace hbV := Kb.kept B9 hbV
    replace B4 := Kb.keepB B4 B9
    replace B5 := Kb.keepB B5 B9
    replace HROW : Hid (World.ownsRow _ z1.heap.size 49 4 (.slice so (Wk.steps 1 ts0).length sc) (Wk.steps 1 ts0).length (Al.sc (Wk.steps 1 ts0))) := Nt.owns_keep HROW.out fun q hq => B9.block q (HROW.out.lt q hq).2
    clear B9 c9 f9
    generalize V.alloc (.cells #[.func (.func 48) #[] #[.pointer (some ⟨b, 0, none⟩)]] 46) = Z0 at *
    generalize V.heap.size = q9 at *
    generalize z2.heap.size = q8 at *
    replace HL5 : Hid (Le.Lnt Z0 yS.heap.size (.slice (some ⟨g5, 0, none⟩) N5 cap5) a5) := HL5.out.below B5
    replace HRD5 : Hid (Nt.Rdn Z0 (.slice (some ⟨g5, 0, none⟩) N5 cap5) a5) := HRD5.out.below B5
    have HKEY : Hid ((Wk.steps 1 a5).map Wq.key = (Wk.steps 1 ts0).map Wq.key) := Wq.steps_er 1 a5 ts0 HE5.out
    have HKV5 : Hid (∀ x ∈ Wk.steps 1 a5, ∃ ko kc, x.2.kv = .slice ko x.2.kids.length kc) := fun x hx => Wk.kv_form (Wr.steps_read 1 a5 HRD5.out.kids x hx).1.row
    have HM3 : Hid (Z0.heap[w.heap.size]? = some (.cells #[.int .i64 a1] 3)) := M3
    have HM4 : Hid (Z0.heap[w.heap.size + 1]? = some (.cells #[.bool false] 4)) := M4
    have HM8 : Hid (Z0.heap[q8]? = some (.cells #[.slice so M sc] 43)) := M8
    have HM9 : Hid (Z0.heap[q9]? = some (.cells #[.func (.func 48) #[] #[.pointer (some ⟨b, 0, none⟩)]] 46)) := M9
    have HMB : Hid (Z0.heap[b]? = some (.cells #[.slice (some ⟨g5, 0, none⟩) N5 cap5] 23)) := hbV
    have HB4 : Hid (Below w.heap.size w Z0) := B4
    have hz0 : w.heap.size + 1 < Z0.heap.size := (Array.getElem?_eq_some_iff.1 M4).1
    clear M3 M4 M8 M9 hbV B4 B5

    obtain ⟨X0, HX0, e0⟩ : ∃ X0, Hid (Below Z0.heap.size Z0 X0) ∧ Z0 = X0 := ⟨Z0, Below.refl _ _, rfl⟩
    rw [e0]
    clear e0
    refine wp_loop_rounds 3 ?_
    rw [rounds_succ]
    have B11 := Kb.below_one X0 (.cells #[.int .i64 0] 3)
    have M11 := Kb.h1_0 X0 (.cells #[.int .i64 0] 3)
    have s11 : (X0.alloc (.cells #[.int .i64 0] 3)).heap.size = X0.heap.size + 1 := by simp
    have hzX := HX0.out.size
    have m9 := Kb.kept (Kb.keepB HX0.out B11) HM9.out
    obtain ⟨c9, f9⟩ := one1 m9
    go_wp2_with fail
    generalize X0.alloc (.cells #[.int .i64 0] 3) = Y0 at *
    generalize hq0 : X0.heap.size = q0 at *
    replace hq0 : Hid (X0.heap.size = q0) := hq0
    have HY0 : Hid (Below Z0.heap.size Z0 Y0) := by
      have h1 := HX0.out
      show Below _ _ _
      refine h1.trans (B11.mono ?_)
      exact hzX
    have hqY : q0 < Y0.heap.size := by omega
    have HB0Y : Hid (Below q0 X0 Y0) := B11
    clear c9 f9 m9 B11
    refine (wpIn_wide (n := 8)).1 ?_
    refine Wq.range3 rfl (by omega) (gf := 48) (lb := #[.pointer (some ⟨b, 0, none⟩)]) rfl trivial (enters_of Try.func48 (by kernel_rfl) rfl)
      (Wk.goes_all HRD5.out (by have := HD5.out; omega) _ Y0 HY0.out (Kb.kept HY0.out HMB.out)) Wk.kn_t (Wk.kn_b HY0.out.size) (Below.refl _ _) 12 13
      (fun pre X => X.heap[q0]? = some (.cells #[.int .i64 (pre.length : Int)] 3) ∧ Below q0 Y0 X)
      (fun c pre X => Wq.Off (Wk.steps 1 ts0) pre)
      (fun s X Y row hs hg hrow => ⟨Wr.cells_on hs.1 hg (fun r e => (hrow r e).2), hs.2.grown hg (Nat.le_trans (Nat.le_of_lt hqY) hs.2.size) (fun k e => by have := (hrow k e).1; omega)⟩)
      (fun c s X Y row hs hg hrow => hs)
      ⟨by simpa using M11, Below.refl _ _⟩ ?assign ?body ?_ ?stop
    case assign =>
      rintro l pre x X K ⟨i1, i2⟩ hK
      obtain ⟨ko, kc, ek⟩ := HKV5.out x.1 x.2
      have b1 := Kb.below_one X (.cells (Wq.nc x.1) 40)
      have hXX : Z0.heap.size ≤ X.heap.size := Nat.le_trans HY0.out.size i2.size
      have K1 := hK X.heap.size _ (Wr.kf_below _ b1) (Wk.kn_below b1 hXX) ⟨Kb.kept b1 i1, i2.trans (b1.mono (Nat.le_trans (Nat.le_of_lt hqY) i2.size))⟩ (Kb.h1_0 X _)
      obtain ⟨⟨d, a⟩, hx⟩ := x
      cases a with
      | mk tag val kv ks =>
      simp only [Nt.AT.kv, Nt.AT.kids] at ek
      subst ek
      simp only [Wq.slots, Wq.nc, Nt.AT.tag, Nt.AT.val, Nt.AT.kv, List.setIfInBounds_toArray, List.set_cons_succ, List.set_cons_zero] at K1 ⊢
      clear i1 i2 hx b1 hK
      generalize ks.length = kl at *
      gi_wp2
      exact K1
    case body =>
      as_aux_lemma =>
        rintro l pre x blk X hl ⟨lr, hlr⟩ ⟨i1, i2⟩ hblk hpl
        obtain ⟨P, HP⟩ : ∃ P : Nat, Hid (pre.length = P) := ⟨_, rfl⟩
        have hPM : P < M := by have h1 := HP.out; have h2 := HS5.out; have h3 := HM.out; omega
        have hPL : P < (Wk.steps 1 ts0).length := by rw [HM.out]; exact hPM
        have HLn : Hid (((pre ++ [x]).length : Int) = (P : Int) + 1) := by
          show _ = _
          rw [List.length_append, HP.out]; simp
        have HOFF : Hid (Wq.key (Wk.steps 1 ts0)[P] ≠ Wq.key x.1 → Wq.Off (Wk.steps 1 ts0) (pre ++ [x])) := fun h => Wq.off_mk pre x (by rw [HP.out]; exact hPL) (by simpa only [HP.out] using h)
        rw [HP.out] at i1
        have hXk : Below Z0.heap.size Z0 X := HY0.out.trans (i2.mono hzX)
        obtain ⟨gs, rfl⟩ : ∃ gs, so = some ⟨gs, 0, none⟩ := by
          rcases HROW.out.2 with ⟨e, hz⟩ | ⟨g, c2, cur, e, _⟩
          · omega
          · injection e with e1 e2 e3; exact ⟨g, e1⟩
        have rowr := Nt.owns_keep HROW.out fun q hq => hXk.block q (HROW.out.lt q hq).2
        obtain ⟨t0, t1, t2, t3⟩ := Pd.step_cells rowr P hPL
        obtain ⟨ko0, kc0, ek0⟩ := HKV0.out _ (List.getElem_mem hPL)
        rw [ek0] at t3
        obtain ⟨y, hy⟩ : ∃ y, y = (Wk.steps 1 ts0)[P] := ⟨_, rfl⟩
        rw [← hy] at HOFF t0 t1 t2 t3
        obtain ⟨ko, kc, ek⟩ := HKV5.out x.1 x.2
        obtain ⟨c8, f8⟩ := one1 (Kb.kept hXk HM8.out)
        obtain ⟨c4, f4⟩ := one1 (Kb.kept hXk HM4.out)
        obtain ⟨c11, f11⟩ := one1 i1
        generalize pre ++ [x] = pre2 at *
        obtain ⟨⟨d, a⟩, hx⟩ := x
        obtain ⟨d0, a0⟩ := y
        cases a with
        | mk tag val kv ks =>
        cases a0 with
        | mk tag0 val0 kv0 ks0 =>
        simp only [Wq.nc, Nt.AT.tag, Nt.AT.val, Nt.AT.kv, Nt.AT.kids] at ek hblk HOFF t0 t1 t2 t3
        subst ek
        obtain ⟨n0, n1, n2⟩ := Bd.cell3 hblk
        simp only [Wq.slots, Wq.nc, Nt.AT.tag, Nt.AT.val, Nt.AT.kv, List.setIfInBounds_toArray, List.set_cons_succ, List.set_cons_zero]
        clear hx ek0 hy rowr HP hpl
        obtain ⟨kl, HKL⟩ : ∃ kl : Nat, Hid (ks.length = kl) := ⟨_, rfl⟩
        obtain ⟨kl0, HKL0⟩ : ∃ kl : Nat, Hid (ks0.length = kl) := ⟨_, rfl⟩
        rw [HKL.out] at hblk n2 ⊢
        rw [HKL0.out] at t3
        by_cases e1 : d = d0
        case neg =>
          have hoff := HOFF.out (by intro h; simp only [Wq.key, Nt.AT.tag, Nt.AT.val, Nt.AT.kids, Prod.mk.injEq] at h; omega)
          have HO : Hid (Wq.Off (Wk.steps 1 ts0) pre2) := hoff
          have HD : Hid (decide (M ≤ P) = false) := decide_eq_false (by omega)
          have hP0 : (P : Int) < (M : Int) := by omega
          clear hoff HOFF
          gi_wp2
          have hd2 := HD.out
          have e2' : (d == d0) = false := by simpa using e1
          have e3' : decide (d = d0) = false := decide_eq_false e1
          have e4' : (d != d0) = true := by simpa using e1
          have e5' : ((d : Int) != (d0 : Int)) = true := by simp only [bne_iff_ne, ne_eq]; omega
          have e8' : ((d : Int) == (d0 : Int)) = false := by simp only [beq_eq_false_iff_ne, ne_eq]; omega
          refine Rq.region_round (F := Fence.wide) rfl (by kernel_rfl) (by kernel_rfl) (by kernel_rfl) ?_
          repeat (gi_big_quiet_step (fail))
          refine wpQuietIn_nil ?_
          intro _ hw'
          obtain ⟨nq, hw''⟩ := hw'
          subst hw''
          gi_wp2
          exact ⟨⟨Nat.le_of_eq (by simp), fun k o _ hk ho => (KeepsOthers.setCell (X.drewN nq) ⟨w.heap.size + 1, 0, none⟩ (.bool false)).same k o hk ho⟩, HO.out⟩
        subst e1
        by_cases e1 : tag = tag0
        case neg =>
          have hoff := HOFF.out (by intro h; simp only [Wq.key, Nt.AT.tag, Nt.AT.val, Nt.AT.kids, Prod.mk.injEq] at h; exact e1 h.2.1.symm)
          have HO : Hid (Wq.Off (Wk.steps 1 ts0) pre2) := hoff
          have HD : Hid (decide (M ≤ P) = false) := decide_eq_false (by omega)
          have hP0 : (P : Int) < (M : Int) := by omega
          clear hoff HOFF
          gi_wp2
          have hd2 := HD.out
          have e2' : (tag == tag0) = false := by simpa using e1
          have e3' : decide (tag = tag0) = false := decide_eq_false e1
          have e4' : (tag != tag0) = true := by simpa using e1
          refine Rq.region_round (F := Fence.wide) rfl (by kernel_rfl) (by kernel_rfl) (by kernel_rfl) ?_
          repeat (gi_big_quiet_step (fail))
          refine wpQuietIn_nil ?_
          intro _ hw'
          obtain ⟨nq, hw''⟩ := hw'
          subst hw''
          gi_wp2
          exact ⟨⟨Nat.le_of_eq (by simp), fun k o _ hk ho => (KeepsOthers.setCell (X.drewN nq) ⟨w.heap.size + 1, 0, none⟩ (.bool false)).same k o hk ho⟩, HO.out⟩
        subst e1
        by_cases e1 : val = val0
        case neg =>
          have hoff := HOFF.out (by intro h; simp only [Wq.key, Nt.AT.tag, Nt.AT.val, Nt.AT.kids, Prod.mk.injEq] at h; exact e1 h.2.2.1.symm)
          have HO : Hid (Wq.Off (Wk.steps 1 ts0) pre2) := hoff
          have HD : Hid (decide (M ≤ P) = false) := decide_eq_false (by omega)
          have hP0 : (P : Int) < (M : Int) := by omega
          clear hoff HOFF
          gi_wp2
          have hd2 := HD.out
          have e2' : (val.toList == val0.toList) = false := by
            rw [ByteArray.toList_eq, ByteArray.toList_eq, beq_eq_false_iff_ne]
            intro h
            exact e1 (ByteArray.ext (by simpa using h))
          have e3' : (val.toList != val0.toList) = true := by simp only [bne, e2', Bool.not_false]
          refine Rq.region_round (F := Fence.wide) rfl (by kernel_rfl) (by kernel_rfl) (by kernel_rfl) ?_
          repeat (gi_big_quiet_step (fail))
          refine wpQuietIn_nil ?_
          intro _ hw'
          obtain ⟨nq, hw''⟩ := hw'
          subst hw''
          gi_wp2
          exact ⟨⟨Nat.le_of_eq (by simp), fun k o _ hk ho => (KeepsOthers.setCell (X.drewN nq) ⟨w.heap.size + 1, 0, none⟩ (.bool false)).same k o hk ho⟩, HO.out⟩
        subst e1
        by_cases e1 : kl = kl0
        case neg =>
          have hoff := HOFF.out (by intro h; simp only [Wq.key, Nt.AT.tag, Nt.AT.val, Nt.AT.kids, Prod.mk.injEq] at h; exact e1 (by rw [← HKL.out, ← HKL0.out]; exact h.2.2.2.symm))
          have HO : Hid (Wq.Off (Wk.steps 1 ts0) pre2) := hoff
          have HD : Hid (decide (M ≤ P) = false) := decide_eq_false (by omega)
          have hP0 : (P : Int) < (M : Int) := by omega
          clear hoff HOFF
          gi_wp2
          have hd2 := HD.out
          have e2' : (kl == kl0) = false := by simpa using e1
          have e3' : decide (kl = kl0) = false := decide_eq_false e1
          have e4' : (kl != kl0) = true := by simpa using e1
          refine Rq.region_round (F := Fence.wide) rfl (by kernel_rfl) (by kernel_rfl) (by kernel_rfl) ?_
          repeat (gi_big_quiet_step (fail))
          refine wpQuietIn_nil ?_
          intro _ hw'
          obtain ⟨nq, hw''⟩ := hw'
          subst hw''
          gi_wp2
          exact ⟨⟨Nat.le_of_eq (by simp), fun k o _ hk ho => (KeepsOthers.setCell (X.drewN nq) ⟨w.heap.size + 1, 0, none⟩ (.bool false)).same k o hk ho⟩, HO.out⟩
        subst e1
        have HD : Hid (decide (M ≤ P) = false) := decide_eq_false (by omega)
        have hP0 : (P : Int) < (M : Int) := by omega
        clear HOFF
        have kn1 := Wk.kn_set (n₀ := Z0.heap.size) i1 (by decide) hzX 0 (.int .i64 ((P : Int) + 1))
        have M12 := Wr.setCell_heap' i1 0 (.int .i64 ((P : Int) + 1))
        have b12 := i2.setCell (p := ⟨q0, 0, none⟩) (Nat.le_refl _) (.int .i64 ((P : Int) + 1))
        by_cases h3 : P = 2
        case neg =>
          have h3' : (((P : Int) + 1) == 3) = false := by simp only [beq_eq_false_iff_ne, ne_eq]; omega
          gi_wp2
          have hd2 := HD.out
          refine Rq.region_round (F := Fence.wide) rfl (by kernel_rfl) (by kernel_rfl) (by kernel_rfl) ?_
          repeat (gi_big_quiet_step (fail))
          refine wpQuietIn_nil ?_
          intro _ hw'
          obtain ⟨nq, hw''⟩ := hw'
          subst hw''
          gi_wp2
          have j1 : (X.drewN nq).heap[q0]? = some (.cells #[.int .i64 (P : Int)] 3) := i1
          have j2 : Below q0 Y0 (X.drewN nq) := below_dn i2 nq
          have kx : Wk.KN Z0.heap.size X (X.drewN nq) := ⟨below_dn (Below.refl _ X) nq, fun _ _ _ _ => rfl⟩
          exact ⟨⟨Nat.le_of_eq (by simp), fun k o _ hk ho => (KeepsOthers.setCell (X.drewN nq) ⟨q0, 0, none⟩ (.int .i64 ((P : Int) + 1))).same k o hk ho⟩, Wk.kn_t kx (Wk.kn_set j1 (by decide) hzX 0 _), by rw [HLn.out]; exact Wr.setCell_heap' j1 0 _, j2.setCell (p := ⟨q0, 0, none⟩) (Nat.le_refl _) _⟩
        have H3 : Hid (P = 2) := h3
        have H3' : Hid ((((P : Int) + 1) == 3) = true) := by show _ = _; simp only [beq_iff_eq]; omega
        clear h3
        obtain ⟨c9, f9⟩ := one1 (Kb.kept hXk HM9.out)
        have hb9 : q9 < Z0.heap.size := (Array.getElem?_eq_some_iff.1 HM9.out).1
        have hb8 : q8 < Z0.heap.size := (Array.getElem?_eq_some_iff.1 HM8.out).1
        have ne9 : ¬ q9 = q0 := by omega
        have ne9' : ¬ q0 = q9 := by omega
        gi_wp2
        have hd2 := HD.out
        refine Rq.region_round (F := Fence.wide) rfl (by kernel_rfl) (by kernel_rfl) (by kernel_rfl) ?_
        repeat (gi_big_quiet_step (fail))
        refine wpQuietIn_nil ?_
        intro _ hw'
        obtain ⟨nq, hw''⟩ := hw'
        subst hw''
        have h3' := H3'.out
        have j1 : (X.drewN nq).heap[q0]? = some (.cells #[.int .i64 (P : Int)] 3) := i1
        have j2 : Below q0 Y0 (X.drewN nq) := below_dn i2 nq
        have kx : Wk.KN Z0.heap.size X (X.drewN nq) := ⟨below_dn (Below.refl _ X) nq, fun _ _ _ _ => rfl⟩
        have m9b := (Gd.setCell_ne (w := X.drewN nq) (g := q0) (k := q9) ne9' 0 (.int .i64 ((P : Int) + 1))).trans (Kb.kept (below_dn hXk nq) HM9.out)
        have B13 := Kb.below_one ((X.drewN nq).setCell ⟨q0, 0, none⟩ (.int .i64 ((P : Int) + 1))) (.cells #[.int .i64 0] 3)
        have M13 := Kb.h1_0 ((X.drewN nq).setCell ⟨q0, 0, none⟩ (.int .i64 ((P : Int) + 1))) (.cells #[.int .i64 0] 3)
        have s13 : (((X.drewN nq).setCell ⟨q0, 0, none⟩ (.int .i64 ((P : Int) + 1))).alloc (.cells #[.int .i64 0] 3)).heap.size = ((X.drewN nq).setCell ⟨q0, 0, none⟩ (.int .i64 ((P : Int) + 1))).heap.size + 1 := by simp
        have s14 : ((X.drewN nq).setCell ⟨q0, 0, none⟩ (.int .i64 ((P : Int) + 1))).heap.size = X.heap.size := by simp
        obtain ⟨c9b, f9b⟩ := one1 (Kb.kept B13 m9b)
        gi_wp2_with fail
        have HJN : Hid (((X.drewN nq).setCell ⟨q0, 0, none⟩ (.int .i64 ((P : Int) + 1))).heap[q0]? = some (.cells #[.int .i64 ((P : Int) + 1)] 3)) := Wr.setCell_heap' j1 0 _
        have hbS : Below q0 Y0 ((X.drewN nq).setCell ⟨q0, 0, none⟩ (.int .i64 ((P : Int) + 1))) := j2.setCell (p := ⟨q0, 0, none⟩) (Nat.le_refl _) _
        have HKNS : Hid (Wk.KN Z0.heap.size X ((X.drewN nq).setCell ⟨q0, 0, none⟩ (.int .i64 ((P : Int) + 1)))) := Wk.kn_t kx (Wk.kn_set j1 (by decide) hzX 0 _)
        have HKFS : Hid (KeepsFrom Y0.heap.size X ((X.drewN nq).setCell ⟨q0, 0, none⟩ (.int .i64 ((P : Int) + 1)))) := ⟨Nat.le_of_eq (by simp), fun k o _ hk ho => (KeepsOthers.setCell (X.drewN nq) ⟨q0, 0, none⟩ (.int .i64 ((P : Int) + 1))).same k o hk ho⟩
        have hlS : ((X.drewN nq).setCell ⟨q0, 0, none⟩ (.int .i64 ((P : Int) + 1))).heap[l]? = some (.loop lr) := (KeepsOthers.setCell (X.drewN nq) ⟨q0, 0, none⟩ (.int .i64 ((P : Int) + 1))).same l _ hlr rfl
        have hlI := Kb.kept B13 hlS
        rw [s14] at B13 M13 s13
        clear j1 j2 kx m9b c9b f9b kn1 M12 b12 c9 f9
        generalize (X.drewN nq).setCell ⟨q0, 0, none⟩ (.int .i64 ((P : Int) + 1)) = XS at *
        generalize XS.alloc (.cells #[.int .i64 0] 3) = XI at *
        generalize X.heap.size = q13 at *
        replace s14 : Hid (XS.heap.size = q13) := s14
        have hZS : Below Z0.heap.size Z0 XS := HY0.out.trans (hbS.mono hzX)
        have hZI : Below Z0.heap.size Z0 XI := hZS.trans (B13.mono (by have := s14.out; have := hZS.size; omega))
        have hz13 : Z0.heap.size ≤ q13 := by have := s14.out; have := hZS.size; omega
        have hqI : q13 < XI.heap.size := by omega
        refine Wq.range3N rfl hlI (by omega) (gf := 48) (lb := #[.pointer (some ⟨b, 0, none⟩)]) rfl trivial (enters_of Try.func48 (by kernel_rfl) rfl)
          ((Wk.goes_all HRD5.out (by have := HD5.out; omega) _ XI hZI (Kb.kept hZI HMB.out)).inRound l) Wk.kn_t (Wk.kn_b hZI.size) (Below.refl _ _) 15 16
          (fun pre X => X.heap[q13]? = some (.cells #[.int .i64 (pre.length : Int)] 3) ∧ Below q13 XI X)
          (fun c pre X => Wq.Off (Wk.steps 1 ts0) pre)
          (fun s X Y row hs hg hrow => ⟨Wr.cells_on hs.1 hg (fun r e => (hrow r e).2), hs.2.grown hg (Nat.le_trans (Nat.le_of_lt hqI) hs.2.size) (fun k e => by have := (hrow k e).1; omega)⟩)
          (fun c s X Y row hs hg hrow => hs)
          ⟨by simpa using M13, Below.refl _ _⟩ ?iassign ?ibody ?idone ?istop
        case istop =>
          rintro c pre X hS hF
          exact (Wq.off_no hF hS HKEY.out).elim
        case iassign =>
          clear hd2 h3' t0 t1 t2 t3 c8 f8 c4 f4 c11 f11 n0 n1 n2 hblk
          rintro l2 pre x X K ⟨i1, i2⟩ hK
          obtain ⟨ko, kc, ek⟩ := HKV5.out x.1 x.2
          have b1 := Kb.below_one X (.cells (Wq.nc x.1) 40)
          have hXX : Z0.heap.size ≤ X.heap.size := Nat.le_trans hZI.size i2.size
          have K1 := hK X.heap.size _ (Wr.kf_below _ b1) (Wk.kn_below b1 hXX) ⟨Kb.kept b1 i1, i2.trans (b1.mono (Nat.le_trans (Nat.le_of_lt hqI) i2.size))⟩ (Kb.h1_0 X _)
          obtain ⟨⟨d, a⟩, hx⟩ := x
          cases a with
          | mk tag val kv ks =>
          simp only [Nt.AT.kv, Nt.AT.kids] at ek
          subst ek
          simp only [Wq.slots, Wq.nc, Nt.AT.tag, Nt.AT.val, Nt.AT.kv, List.setIfInBounds_toArray, List.set_cons_succ, List.set_cons_zero] at K1 ⊢
          clear i1 i2 hx b1 hK
          generalize ks.length = kl at *
          gi_wp2
          exact K1
        case ibody =>
          clear hd2 h3' t0 t1 t2 t3 c8 f8 c4 f4 c11 f11 n0 n1 n2 hblk HD hP0
          rintro l2 pre x blk X hl2 - ⟨i1, i2⟩ hblk hpl
          obtain ⟨P2, HP⟩ : ∃ P : Nat, Hid (pre.length = P) := ⟨_, rfl⟩
          have hPM : P2 < M := by have h1 := HP.out; have h2 := HS5.out; have h3 := HM.out; omega
          have hPL : P2 < (Wk.steps 1 ts0).length := by rw [HM.out]; exact hPM
          have HLn : Hid (((pre ++ [x]).length : Int) = (P2 : Int) + 1) := by
            show _ = _
            rw [List.length_append, HP.out]; simp
          have HOFF : Hid (Wq.key (Wk.steps 1 ts0)[P2] ≠ Wq.key x.1 → Wq.Off (Wk.steps 1 ts0) (pre ++ [x])) := fun h => Wq.off_mk pre x (by rw [HP.out]; exact hPL) (by simpa only [HP.out] using h)
          rw [HP.out] at i1
          have hXk : Below Z0.heap.size Z0 X := hZI.trans (i2.mono hz13)
          have rowr := Nt.owns_keep HROW.out fun q hq => hXk.block q (HROW.out.lt q hq).2
          obtain ⟨t0, t1, t2, t3⟩ := Pd.step_cells rowr P2 hPL
          obtain ⟨ko0, kc0, ek0⟩ := HKV0.out _ (List.getElem_mem hPL)
          rw [ek0] at t3
          obtain ⟨y, hy⟩ : ∃ y, y = (Wk.steps 1 ts0)[P2] := ⟨_, rfl⟩
          rw [← hy] at HOFF t0 t1 t2 t3
          obtain ⟨ko, kc, ek⟩ := HKV5.out x.1 x.2
          obtain ⟨c8, f8⟩ := one1 (Kb.kept hXk HM8.out)
          obtain ⟨c4, f4⟩ := one1 (Kb.kept hXk HM4.out)
          obtain ⟨c11, f11⟩ := one1 i1
          generalize pre ++ [x] = pre2 at *
          obtain ⟨⟨d, a⟩, hx⟩ := x
          obtain ⟨d0, a0⟩ := y
          cases a with
          | mk tag val kv ks =>
          cases a0 with
          | mk tag0 val0 kv0 ks0 =>
          simp only [Wq.nc, Nt.AT.tag, Nt.AT.val, Nt.AT.kv, Nt.AT.kids] at ek hblk HOFF t0 t1 t2 t3
          subst ek
          obtain ⟨n0, n1, n2⟩ := Bd.cell3 hblk
          simp only [Wq.slots, Wq.nc, Nt.AT.tag, Nt.AT.val, Nt.AT.kv, List.setIfInBounds_toArray, List.set_cons_succ, List.set_cons_zero]
          clear hx ek0 hy rowr HP hpl
          generalize ks.length = kl at *
          generalize ks0.length = kl0 at *
          clear t2 t3
          by_cases e1 : d = d0
          case neg =>
            have hoff := HOFF.out (by intro h; simp only [Wq.key, Nt.AT.tag, Nt.AT.val, Nt.AT.kids, Prod.mk.injEq] at h; omega)
            have HO : Hid (Wq.Off (Wk.steps 1 ts0) pre2) := hoff
            have HD : Hid (decide (M ≤ P2) = false) := decide_eq_false (by omega)
            have hP0 : (P2 : Int) < (M : Int) := by omega
            clear hoff HOFF
            gi_wp2
            have hd2 := HD.out
            have e5' : ((d : Int) != (d0 : Int)) = true := by simp only [bne_iff_ne, ne_eq]; omega
            have e4' : (d != d0) = true := by simpa using e1
            refine Rq.region_round (F := Fence.wide) rfl (by kernel_rfl) (by kernel_rfl) (by kernel_rfl) ?_
            repeat (gi_big_quiet_step (fail))
            refine wpQuietIn_nil ?_
            intro _ hw'
            obtain ⟨nq, hw''⟩ := hw'
            subst hw''
            gi_wp2
            exact ⟨⟨Nat.le_of_eq (by simp), fun k o _ hk ho => (KeepsOthers.setCell (X.drewN nq) ⟨w.heap.size + 1, 0, none⟩ (.bool false)).same k o hk ho⟩, HO.out⟩
          subst e1
          by_cases e1 : tag = tag0
          case neg =>
            have hoff := HOFF.out (by intro h; simp only [Wq.key, Nt.AT.tag, Nt.AT.val, Nt.AT.kids, Prod.mk.injEq] at h; exact e1 h.2.1.symm)
            have HO : Hid (Wq.Off (Wk.steps 1 ts0) pre2) := hoff
            have HD : Hid (decide (M ≤ P2) = false) := decide_eq_false (by omega)
            have hP0 : (P2 : Int) < (M : Int) := by omega
            clear hoff HOFF
            gi_wp2
            have hd2 := HD.out
            have e4' : (tag != tag0) = true := by simpa using e1
            refine Rq.region_round (F := Fence.wide) rfl (by kernel_rfl) (by kernel_rfl) (by kernel_rfl) ?_
            repeat (gi_big_quiet_step (fail))
            refine wpQuietIn_nil ?_
            intro _ hw'
            obtain ⟨nq, hw''⟩ := hw'
            subst hw''
            gi_wp2
            exact ⟨⟨Nat.le_of_eq (by simp), fun k o _ hk ho => (KeepsOthers.setCell (X.drewN nq) ⟨w.heap.size + 1, 0, none⟩ (.bool false)).same k o hk ho⟩, HO.out⟩
          subst e1
          have HD : Hid (decide (M ≤ P2) = false) := decide_eq_false (by omega)
          have hP0 : (P2 : Int) < (M : Int) := by omega
          clear HOFF
          gi_wp2
          have hd2 := HD.out
          refine Rq.region_round (F := Fence.wide) rfl (by kernel_rfl) (by kernel_rfl) (by kernel_rfl) ?_
          repeat (gi_big_quiet_step (fail))
          refine wpQuietIn_nil ?_
          intro _ hw'
          obtain ⟨nq, hw''⟩ := hw'
          subst hw''
          gi_wp2
          have j1 : (X.drewN nq).heap[q13]? = some (.cells #[.int .i64 (P2 : Int)] 3) := i1
          have j2 : Below q13 XI (X.drewN nq) := below_dn i2 nq
          have kx : Wk.KN Z0.heap.size X (X.drewN nq) := ⟨below_dn (Below.refl _ X) nq, fun _ _ _ _ => rfl⟩
          exact ⟨⟨Nat.le_of_eq (by simp), fun k o _ hk ho => (KeepsOthers.setCell (X.drewN nq) ⟨q13, 0, none⟩ (.int .i64 ((P2 : Int) + 1))).same k o hk ho⟩, Wk.kn_t kx (Wk.kn_set j1 (by decide) hz13 0 _), by rw [HLn.out]; exact Wr.setCell_heap' j1 0 _, j2.setCell (p := ⟨q13, 0, none⟩) (Nat.le_refl _) _⟩
        case idone =>
          clear hd2 h3' t0 t1 t2 t3 c8 f8 c4 f4 c11 f11 n0 n1 n2 hblk HD hP0
          rintro xs X4 hS ⟨i3, i4⟩
          have hxl : xs.length = M := by
            have h1 := congrArg List.length hS
            have h2 := HS5.out
            have h3 := HM.out
            simp only [List.length_map] at h1
            omega
          rw [hxl] at i3
          have hZ4 : Below Z0.heap.size Z0 X4 := hZI.trans (i4.mono hz13)
          obtain ⟨c8, f8⟩ := one1 (Kb.kept hZ4 HM8.out)
          obtain ⟨c13, f13⟩ := one1 i3
          gi_wp2
          have hI4 : Below XS.heap.size XS X4 := by rw [s14.out]; exact B13.trans i4
          refine ⟨⟨Nat.le_trans HKFS.out.size hI4.size, fun k o hB hk ho => ?_⟩, Wk.kn_t HKNS.out (Wk.kn_below hI4 hZS.size), ?_, ?_⟩
          · have h1 := HKFS.out.same k o hB hk ho
            exact (hI4.block k (Array.getElem?_eq_some_iff.1 h1).1).trans h1
          · rw [HLn.out]; exact Kb.kept hI4 HJN.out
          · exact hbS.trans (hI4.mono (by have := hbS.size; have := hqY; omega))
    case stop =>
      rintro D c pre X hD hS hF hK
      exact (Wq.off_no hF hS HKEY.out).elim
    rintro D0 xs X1 hD0 hS ⟨i1, i2⟩ hK0
    have hxl : xs.length = M := by
      have h1 := congrArg List.length hS
      have h2 := HS5.out
      have h3 := HM.out
      simp only [List.length_map] at h1
      omega
    rw [hxl] at i1
    have HX1 : Hid (Below Z0.heap.size Z0 X1) := HY0.out.trans (i2.mono hzX)
    obtain ⟨c8, f8⟩ := one1 (Kb.kept HX1.out HM8.out)
    obtain ⟨c11, f11⟩ := one1 i1
    have HK0 : Hid (X1.heap[D0]? = some (.deferred (some []))) := hK0
    have h0K : Hid (Below X0.heap.size X0 X1) := by
      have e := hq0.out
      show Below _ _ _
      rw [e]
      exact HB0Y.out.trans i2
    have hD0' : D0 < X1.heap.size := (Array.getElem?_eq_some_iff.1 hK0).1
    have hX0 : X0.heap.size < Y0.heap.size := by have := hq0.out; omega
    clear hS hxl xs hK0 i2 i1 s11 hzX hqY M11
    go_wp2_with fail
    clear c8 f8 c11 f11
    rw [rounds_succ]
    have B11 := Kb.below_one X1 (.cells #[.int .i64 0] 3)
    have M11 := Kb.h1_0 X1 (.cells #[.int .i64 0] 3)
    have s11 : (X1.alloc (.cells #[.int .i64 0] 3)).heap.size = X1.heap.size + 1 := by simp
    have hzX := HX1.out.size
    have m9 := Kb.kept (Kb.keepB HX1.out B11) HM9.out
    obtain ⟨c9, f9⟩ := one1 m9
    go_wp2_with fail
    generalize X1.alloc (.cells #[.int .i64 0] 3) = Y1 at *
    generalize hq1 : X1.heap.size = q1 at *
    replace hq1 : Hid (X1.heap.size = q1) := hq1
    have HY1 : Hid (Below Z0.heap.size Z0 Y1) := by
      have h1 := HX1.out
      show Below _ _ _
      refine h1.trans (B11.mono ?_)
      exact hzX
    have hqY : q1 < Y1.heap.size := by omega
    have HB1Y : Hid (Below q1 X1 Y1) := B11
    clear c9 f9 m9 B11
    refine (wpIn_wide (n := 8)).1 ?_
    refine Wq.range3 rfl (by omega) (gf := 48) (lb := #[.pointer (some ⟨b, 0, none⟩)]) rfl trivial (enters_of Try.func48 (by kernel_rfl) rfl)
      (Wk.goes_all HRD5.out (by have := HD5.out; omega) _ Y1 HY1.out (Kb.kept HY1.out HMB.out)) Wk.kn_t (Wk.kn_b HY1.out.size) (Below.refl _ _) 12 13
      (fun pre X => X.heap[q1]? = some (.cells #[.int .i64 (pre.length : Int)] 3) ∧ Below q1 Y1 X)
      (fun c pre X => Wq.Off (Wk.steps 1 ts0) pre)
      (fun s X Y row hs hg hrow => ⟨Wr.cells_on hs.1 hg (fun r e => (hrow r e).2), hs.2.grown hg (Nat.le_trans (Nat.le_of_lt hqY) hs.2.size) (fun k e => by have := (hrow k e).1; omega)⟩)
      (fun c s X Y row hs hg hrow => hs)
      ⟨by simpa using M11, Below.refl _ _⟩ ?assign ?body ?_ ?stop
    case assign =>
      rintro l pre x X K ⟨i1, i2⟩ hK
      obtain ⟨ko, kc, ek⟩ := HKV5.out x.1 x.2
      have b1 := Kb.below_one X (.cells (Wq.nc x.1) 40)
      have hXX : Z0.heap.size ≤ X.heap.size := Nat.le_trans HY1.out.size i2.size
      have K1 := hK X.heap.size _ (Wr.kf_below _ b1) (Wk.kn_below b1 hXX) ⟨Kb.kept b1 i1, i2.trans (b1.mono (Nat.le_trans (Nat.le_of_lt hqY) i2.size))⟩ (Kb.h1_0 X _)
      obtain ⟨⟨d, a⟩, hx⟩ := x
      cases a with
      | mk tag val kv ks =>
      simp only [Nt.AT.kv, Nt.AT.kids] at ek
      subst ek
      simp only [Wq.slots, Wq.nc, Nt.AT.tag, Nt.AT.val, Nt.AT.kv, List.setIfInBounds_toArray, List.set_cons_succ, List.set_cons_zero] at K1 ⊢
      clear i1 i2 hx b1 hK
      generalize ks.length = kl at *
      gi_wp2
      exact K1
    case body =>
      as_aux_lemma =>
        rintro l pre x blk X hl ⟨lr, hlr⟩ ⟨i1, i2⟩ hblk hpl
        obtain ⟨P, HP⟩ : ∃ P : Nat, Hid (pre.length = P) := ⟨_, rfl⟩
        have hPM : P < M := by have h1 := HP.out; have h2 := HS5.out; have h3 := HM.out; omega
        have hPL : P < (Wk.steps 1 ts0).length := by rw [HM.out]; exact hPM
        have HLn : Hid (((pre ++ [x]).length : Int) = (P : Int) + 1) := by
          show _ = _
          rw [List.length_append, HP.out]; simp
        have HOFF : Hid (Wq.key (Wk.steps 1 ts0)[P] ≠ Wq.key x.1 → Wq.Off (Wk.steps 1 ts0) (pre ++ [x])) := fun h => Wq.off_mk pre x (by rw [HP.out]; exact hPL) (by simpa only [HP.out] using h)
        rw [HP.out] at i1
        have hXk : Below Z0.heap.size Z0 X := HY1.out.trans (i2.mono hzX)
        obtain ⟨gs, rfl⟩ : ∃ gs, so = some ⟨gs, 0, none⟩ := by
          rcases HROW.out.2 with ⟨e, hz⟩ | ⟨g, c2, cur, e, _⟩
          · omega
          · injection e with e1 e2 e3; exact ⟨g, e1⟩
        have rowr := Nt.owns_keep HROW.out fun q hq => hXk.block q (HROW.out.lt q hq).2
        obtain ⟨t0, t1, t2, t3⟩ := Pd.step_cells rowr P hPL
        obtain ⟨ko0, kc0, ek0⟩ := HKV0.out _ (List.getElem_mem hPL)
        rw [ek0] at t3
        obtain ⟨y, hy⟩ : ∃ y, y = (Wk.steps 1 ts0)[P] := ⟨_, rfl⟩
        rw [← hy] at HOFF t0 t1 t2 t3
        obtain ⟨ko, kc, ek⟩ := HKV5.out x.1 x.2
        obtain ⟨c8, f8⟩ := one1 (Kb.kept hXk HM8.out)
        obtain ⟨c4, f4⟩ := one1 (Kb.kept hXk HM4.out)
        obtain ⟨c11, f11⟩ := one1 i1
        generalize pre ++ [x] = pre2 at *
        obtain ⟨⟨d, a⟩, hx⟩ := x
        obtain ⟨d0, a0⟩ := y
        cases a with
        | mk tag val kv ks =>
        cases a0 with
        | mk tag0 val0 kv0 ks0 =>
        simp only [Wq.nc, Nt.AT.tag, Nt.AT.val, Nt.AT.kv, Nt.AT.kids] at ek hblk HOFF t0 t1 t2 t3
        subst ek
        obtain ⟨n0, n1, n2⟩ := Bd.cell3 hblk
        simp only [Wq.slots, Wq.nc, Nt.AT.tag, Nt.AT.val, Nt.AT.kv, List.setIfInBounds_toArray, List.set_cons_succ, List.set_cons_zero]
        clear hx ek0 hy rowr HP hpl
        obtain ⟨kl, HKL⟩ : ∃ kl : Nat, Hid (ks.length = kl) := ⟨_, rfl⟩
        obtain ⟨kl0, HKL0⟩ : ∃ kl : Nat, Hid (ks0.length = kl) := ⟨_, rfl⟩
        rw [HKL.out] at hblk n2 ⊢
        rw [HKL0.out] at t3
        by_cases e1 : d = d0
        case neg =>
          have hoff := HOFF.out (by intro h; simp only [Wq.key, Nt.AT.tag, Nt.AT.val, Nt.AT.kids, Prod.mk.injEq] at h; omega)
          have HO : Hid (Wq.Off (Wk.steps 1 ts0) pre2) := hoff
          have HD : Hid (decide (M ≤ P) = false) := decide_eq_false (by omega)
          have hP0 : (P : Int) < (M : Int) := by omega
          clear hoff HOFF
          gi_wp2
          have hd2 := HD.out
          have e2' : (d == d0) = false := by simpa using e1
          have e3' : decide (d = d0) = false := decide_eq_false e1
          have e4' : (d != d0) = true := by simpa using e1
          have e5' : ((d : Int) != (d0 : Int)) = true := by simp only [bne_iff_ne, ne_eq]; omega
          have e8' : ((d : Int) == (d0 : Int)) = false := by simp only [beq_eq_false_iff_ne, ne_eq]; omega
          refine Rq.region_round (F := Fence.wide) rfl (by kernel_rfl) (by kernel_rfl) (by kernel_rfl) ?_
          repeat (gi_big_quiet_step (fail))
          refine wpQuietIn_nil ?_
          intro _ hw'
          obtain ⟨nq, hw''⟩ := hw'
          subst hw''
          gi_wp2
          exact ⟨⟨Nat.le_of_eq (by simp), fun k o _ hk ho => (KeepsOthers.setCell (X.drewN nq) ⟨w.heap.size + 1, 0, none⟩ (.bool false)).same k o hk ho⟩, HO.out⟩
        subst e1
        by_cases e1 : tag = tag0
        case neg =>
          have hoff := HOFF.out (by intro h; simp only [Wq.key, Nt.AT.tag, Nt.AT.val, Nt.AT.kids, Prod.mk.injEq] at h; exact e1 h.2.1.symm)
          have HO : Hid (Wq.Off (Wk.steps 1 ts0) pre2) := hoff
          have HD : Hid (decide (M ≤ P) = false) := decide_eq_false (by omega)
          have hP0 : (P : Int) < (M : Int) := by omega
          clear hoff HOFF
          gi_wp2
          have hd2 := HD.out
          have e2' : (tag == tag0) = false := by simpa using e1
          have e3' : decide (tag = tag0) = false := decide_eq_false e1
          have e4' : (tag != tag0) = true := by simpa using e1
          refine Rq.region_round (F := Fence.wide) rfl (by kernel_rfl) (by kernel_rfl) (by kernel_rfl) ?_
          repeat (gi_big_quiet_step (fail))
          refine wpQuietIn_nil ?_
          intro _ hw'
          obtain ⟨nq, hw''⟩ := hw'
          subst hw''
          gi_wp2
          exact ⟨⟨Nat.le_of_eq (by simp), fun k o _ hk ho => (KeepsOthers.setCell (X.drewN nq) ⟨w.heap.size + 1, 0, none⟩ (.bool false)).same k o hk ho⟩, HO.out⟩
        subst e1
        by_cases e1 : val = val0
        case neg =>
          have hoff := HOFF.out (by intro h; simp only [Wq.key, Nt.AT.tag, Nt.AT.val, Nt.AT.kids, Prod.mk.injEq] at h; exact e1 h.2.2.1.symm)
          have HO : Hid (Wq.Off (Wk.steps 1 ts0) pre2) := hoff
          have HD : Hid (decide (M ≤ P) = false) := decide_eq_false (by omega)
          have hP0 : (P : Int) < (M : Int) := by omega
          clear hoff HOFF
          gi_wp2
          have hd2 := HD.out
          have e2' : (val.toList == val0.toList) = false := by
            rw [ByteArray.toList_eq, ByteArray.toList_eq, beq_eq_false_iff_ne]
            intro h
            exact e1 (ByteArray.ext (by simpa using h))
          have e3' : (val.toList != val0.toList) = true := by simp only [bne, e2', Bool.not_false]
          refine Rq.region_round (F := Fence.wide) rfl (by kernel_rfl) (by kernel_rfl) (by kernel_rfl) ?_
          repeat (gi_big_quiet_step (fail))
          refine wpQuietIn_nil ?_
          intro _ hw'
          obtain ⟨nq, hw''⟩ := hw'
          subst hw''
          gi_wp2
          exact ⟨⟨Nat.le_of_eq (by simp), fun k o _ hk ho => (KeepsOthers.setCell (X.drewN nq) ⟨w.heap.size + 1, 0, none⟩ (.bool false)).same k o hk ho⟩, HO.out⟩
        subst e1
        by_cases e1 : kl = kl0
        case neg =>
          have hoff := HOFF.out (by intro h; simp only [Wq.key, Nt.AT.tag, Nt.AT.val, Nt.AT.kids, Prod.mk.injEq] at h; exact e1 (by rw [← HKL.out, ← HKL0.out]; exact h.2.2.2.symm))
          have HO : Hid (Wq.Off (Wk.steps 1 ts0) pre2) := hoff
          have HD : Hid (decide (M ≤ P) = false) := decide_eq_false (by omega)
          have hP0 : (P : Int) < (M : Int) := by omega
          clear hoff HOFF
          gi_wp2
          have hd2 := HD.out
          have e2' : (kl == kl0) = false := by simpa using e1
          have e3' : decide (kl = kl0) = false := decide_eq_false e1
          have e4' : (kl != kl0) = true := by simpa using e1
          refine Rq.region_round (F := Fence.wide) rfl (by kernel_rfl) (by kernel_rfl) (by kernel_rfl) ?_
          repeat (gi_big_quiet_step (fail))
          refine wpQuietIn_nil ?_
          intro _ hw'
          obtain ⟨nq, hw''⟩ := hw'
          subst hw''
          gi_wp2
          exact ⟨⟨Nat.le_of_eq (by simp), fun k o _ hk ho => (KeepsOthers.setCell (X.drewN nq) ⟨w.heap.size + 1, 0, none⟩ (.bool false)).same k o hk ho⟩, HO.out⟩
        subst e1
        have HD : Hid (decide (M ≤ P) = false) := decide_eq_false (by omega)
        have hP0 : (P : Int) < (M : Int) := by omega
        clear HOFF
        have kn1 := Wk.kn_set (n₀ := Z0.heap.size) i1 (by decide) hzX 0 (.int .i64 ((P : Int) + 1))
        have M12 := Wr.setCell_heap' i1 0 (.int .i64 ((P : Int) + 1))
        have b12 := i2.setCell (p := ⟨q1, 0, none⟩) (Nat.le_refl _) (.int .i64 ((P : Int) + 1))
        by_cases h3 : P = 2
        case neg =>
          have h3' : (((P : Int) + 1) == 3) = false := by simp only [beq_eq_false_iff_ne, ne_eq]; omega
          gi_wp2
          have hd2 := HD.out
          refine Rq.region_round (F := Fence.wide) rfl (by kernel_rfl) (by kernel_rfl) (by kernel_rfl) ?_
          repeat (gi_big_quiet_step (fail))
          refine wpQuietIn_nil ?_
          intro _ hw'
          obtain ⟨nq, hw''⟩ := hw'
          subst hw''
          gi_wp2
          have j1 : (X.drewN nq).heap[q1]? = some (.cells #[.int .i64 (P : Int)] 3) := i1
          have j2 : Below q1 Y1 (X.drewN nq) := below_dn i2 nq
          have kx : Wk.KN Z0.heap.size X (X.drewN nq) := ⟨below_dn (Below.refl _ X) nq, fun _ _ _ _ => rfl⟩
          exact ⟨⟨Nat.le_of_eq (by simp), fun k o _ hk ho => (KeepsOthers.setCell (X.drewN nq) ⟨q1, 0, none⟩ (.int .i64 ((P : Int) + 1))).same k o hk ho⟩, Wk.kn_t kx (Wk.kn_set j1 (by decide) hzX 0 _), by rw [HLn.out]; exact Wr.setCell_heap' j1 0 _, j2.setCell (p := ⟨q1, 0, none⟩) (Nat.le_refl _) _⟩
        have H3 : Hid (P = 2) := h3
        have H3' : Hid ((((P : Int) + 1) == 3) = true) := by show _ = _; simp only [beq_iff_eq]; omega
        clear h3
        obtain ⟨c9, f9⟩ := one1 (Kb.kept hXk HM9.out)
        have hb9 : q9 < Z0.heap.size := (Array.getElem?_eq_some_iff.1 HM9.out).1
        have hb8 : q8 < Z0.heap.size := (Array.getElem?_eq_some_iff.1 HM8.out).1
        have ne9 : ¬ q9 = q1 := by omega
        have ne9' : ¬ q1 = q9 := by omega
        gi_wp2
        have hd2 := HD.out
        refine Rq.region_round (F := Fence.wide) rfl (by kernel_rfl) (by kernel_rfl) (by kernel_rfl) ?_
        repeat (gi_big_quiet_step (fail))
        refine wpQuietIn_nil ?_
        intro _ hw'
        obtain ⟨nq, hw''⟩ := hw'
        subst hw''
        have h3' := H3'.out
        have j1 : (X.drewN nq).heap[q1]? = some (.cells #[.int .i64 (P : Int)] 3) := i1
        have j2 : Below q1 Y1 (X.drewN nq) := below_dn i2 nq
        have kx : Wk.KN Z0.heap.size X (X.drewN nq) := ⟨below_dn (Below.refl _ X) nq, fun _ _ _ _ => rfl⟩
        have m9b := (Gd.setCell_ne (w := X.drewN nq) (g := q1) (k := q9) ne9' 0 (.int .i64 ((P : Int) + 1))).trans (Kb.kept (below_dn hXk nq) HM9.out)
        have B13 := Kb.below_one ((X.drewN nq).setCell ⟨q1, 0, none⟩ (.int .i64 ((P : Int) + 1))) (.cells #[.int .i64 0] 3)
        have M13 := Kb.h1_0 ((X.drewN nq).setCell ⟨q1, 0, none⟩ (.int .i64 ((P : Int) + 1))) (.cells #[.int .i64 0] 3)
        have s13 : (((X.drewN nq).setCell ⟨q1, 0, none⟩ (.int .i64 ((P : Int) + 1))).alloc (.cells #[.int .i64 0] 3)).heap.size = ((X.drewN nq).setCell ⟨q1, 0, none⟩ (.int .i64 ((P : Int) + 1))).heap.size + 1 := by simp
        have s14 : ((X.drewN nq).setCell ⟨q1, 0, none⟩ (.int .i64 ((P : Int) + 1))).heap.size = X.heap.size := by simp
        obtain ⟨c9b, f9b⟩ := one1 (Kb.kept B13 m9b)
        gi_wp2_with fail
        have HJN : Hid (((X.drewN nq).setCell ⟨q1, 0, none⟩ (.int .i64 ((P : Int) + 1))).heap[q1]? = some (.cells #[.int .i64 ((P : Int) + 1)] 3)) := Wr.setCell_heap' j1 0 _
        have hbS : Below q1 Y1 ((X.drewN nq).setCell ⟨q1, 0, none⟩ (.int .i64 ((P : Int) + 1))) := j2.setCell (p := ⟨q1, 0, none⟩) (Nat.le_refl _) _
        have HKNS : Hid (Wk.KN Z0.heap.size X ((X.drewN nq).setCell ⟨q1, 0, none⟩ (.int .i64 ((P : Int) + 1)))) := Wk.kn_t kx (Wk.kn_set j1 (by decide) hzX 0 _)
        have HKFS : Hid (KeepsFrom Y1.heap.size X ((X.drewN nq).setCell ⟨q1, 0, none⟩ (.int .i64 ((P : Int) + 1)))) := ⟨Nat.le_of_eq (by simp), fun k o _ hk ho => (KeepsOthers.setCell (X.drewN nq) ⟨q1, 0, none⟩ (.int .i64 ((P : Int) + 1))).same k o hk ho⟩
        have hlS : ((X.drewN nq).setCell ⟨q1, 0, none⟩ (.int .i64 ((P : Int) + 1))).heap[l]? = some (.loop lr) := (KeepsOthers.setCell (X.drewN nq) ⟨q1, 0, none⟩ (.int .i64 ((P : Int) + 1))).same l _ hlr rfl
        have hlI := Kb.kept B13 hlS
        rw [s14] at B13 M13 s13
        clear j1 j2 kx m9b c9b f9b kn1 M12 b12 c9 f9
        generalize (X.drewN nq).setCell ⟨q1, 0, none⟩ (.int .i64 ((P : Int) + 1)) = XS at *
        generalize XS.alloc (.cells #[.int .i64 0] 3) = XI at *
        generalize X.heap.size = q13 at *
        replace s14 : Hid (XS.heap.size = q13) := s14
        have hZS : Below Z0.heap.size Z0 XS := HY1.out.trans (hbS.mono hzX)
        have hZI : Below Z0.heap.size Z0 XI := hZS.trans (B13.mono (by have := s14.out; have := hZS.size; omega))
        have hz13 : Z0.heap.size ≤ q13 := by have := s14.out; have := hZS.size; omega
        have hqI : q13 < XI.heap.size := by omega
        refine Wq.range3N rfl hlI (by omega) (gf := 48) (lb := #[.pointer (some ⟨b, 0, none⟩)]) rfl trivial (enters_of Try.func48 (by kernel_rfl) rfl)
          ((Wk.goes_all HRD5.out (by have := HD5.out; omega) _ XI hZI (Kb.kept hZI HMB.out)).inRound l) Wk.kn_t (Wk.kn_b hZI.size) (Below.refl _ _) 15 16
          (fun pre X => X.heap[q13]? = some (.cells #[.int .i64 (pre.length : Int)] 3) ∧ Below q13 XI X)
          (fun c pre X => Wq.Off (Wk.steps 1 ts0) pre)
          (fun s X Y row hs hg hrow => ⟨Wr.cells_on hs.1 hg (fun r e => (hrow r e).2), hs.2.grown hg (Nat.le_trans (Nat.le_of_lt hqI) hs.2.size) (fun k e => by have := (hrow k e).1; omega)⟩)
          (fun c s X Y row hs hg hrow => hs)
          ⟨by simpa using M13, Below.refl _ _⟩ ?iassign ?ibody ?idone ?istop
        case istop =>
          rintro c pre X hS hF
          exact (Wq.off_no hF hS HKEY.out).elim
        case iassign =>
          clear hd2 h3' t0 t1 t2 t3 c8 f8 c4 f4 c11 f11 n0 n1 n2 hblk
          rintro l2 pre x X K ⟨i1, i2⟩ hK
          obtain ⟨ko, kc, ek⟩ := HKV5.out x.1 x.2
          have b1 := Kb.below_one X (.cells (Wq.nc x.1) 40)
          have hXX : Z0.heap.size ≤ X.heap.size := Nat.le_trans hZI.size i2.size
          have K1 := hK X.heap.size _ (Wr.kf_below _ b1) (Wk.kn_below b1 hXX) ⟨Kb.kept b1 i1, i2.trans (b1.mono (Nat.le_trans (Nat.le_of_lt hqI) i2.size))⟩ (Kb.h1_0 X _)
          obtain ⟨⟨d, a⟩, hx⟩ := x
          cases a with
          | mk tag val kv ks =>
          simp only [Nt.AT.kv, Nt.AT.kids] at ek
          subst ek
          simp only [Wq.slots, Wq.nc, Nt.AT.tag, Nt.AT.val, Nt.AT.kv, List.setIfInBounds_toArray, List.set_cons_succ, List.set_cons_zero] at K1 ⊢
          clear i1 i2 hx b1 hK
          generalize ks.length = kl at *
          gi_wp2
          exact K1
        case ibody =>
          clear hd2 h3' t0 t1 t2 t3 c8 f8 c4 f4 c11 f11 n0 n1 n2 hblk HD hP0
          rintro l2 pre x blk X hl2 - ⟨i1, i2⟩ hblk hpl
          obtain ⟨P2, HP⟩ : ∃ P : Nat, Hid (pre.length = P) := ⟨_, rfl⟩
          have hPM : P2 < M := by have h1 := HP.out; have h2 := HS5.out; have h3 := HM.out; omega
          have hPL : P2 < (Wk.steps 1 ts0).length := by rw [HM.out]; exact hPM
          have HLn : Hid (((pre ++ [x]).length : Int) = (P2 : Int) + 1) := by
            show _ = _
            rw [List.length_append, HP.out]; simp
          have HOFF : Hid (Wq.key (Wk.steps 1 ts0)[P2] ≠ Wq.key x.1 → Wq.Off (Wk.steps 1 ts0) (pre ++ [x])) := fun h => Wq.off_mk pre x (by rw [HP.out]; exact hPL) (by simpa only [HP.out] using h)
          rw [HP.out] at i1
          have hXk : Below Z0.heap.size Z0 X := hZI.trans (i2.mono hz13)
          have rowr := Nt.owns_keep HROW.out fun q hq => hXk.block q (HROW.out.lt q hq).2
          obtain ⟨t0, t1, t2, t3⟩ := Pd.step_cells rowr P2 hPL
          obtain ⟨ko0, kc0, ek0⟩ := HKV0.out _ (List.getElem_mem hPL)
          rw [ek0] at t3
          obtain ⟨y, hy⟩ : ∃ y, y = (Wk.steps 1 ts0)[P2] := ⟨_, rfl⟩
          rw [← hy] at HOFF t0 t1 t2 t3
          obtain ⟨ko, kc, ek⟩ := HKV5.out x.1 x.2
          obtain ⟨c8, f8⟩ := one1 (Kb.kept hXk HM8.out)
          obtain ⟨c4, f4⟩ := one1 (Kb.kept hXk HM4.out)
          obtain ⟨c11, f11⟩ := one1 i1
          generalize pre ++ [x] = pre2 at *
          obtain ⟨⟨d, a⟩, hx⟩ := x
          obtain ⟨d0, a0⟩ := y
          cases a with
          | mk tag val kv ks =>
          cases a0 with
          | mk tag0 val0 kv0 ks0 =>
          simp only [Wq.nc, Nt.AT.tag, Nt.AT.val, Nt.AT.kv, Nt.AT.kids] at ek hblk HOFF t0 t1 t2 t3
          subst ek
          obtain ⟨n0, n1, n2⟩ := Bd.cell3 hblk
          simp only [Wq.slots, Wq.nc, Nt.AT.tag, Nt.AT.val, Nt.AT.kv, List.setIfInBounds_toArray, List.set_cons_succ, List.set_cons_zero]
          clear hx ek0 hy rowr HP hpl
          generalize ks.length = kl at *
          generalize ks0.length = kl0 at *
          clear t2 t3
          by_cases e1 : d = d0
          case neg =>
            have hoff := HOFF.out (by intro h; simp only [Wq.key, Nt.AT.tag, Nt.AT.val, Nt.AT.kids, Prod.mk.injEq] at h; omega)
            have HO : Hid (Wq.Off (Wk.steps 1 ts0) pre2) := hoff
            have HD : Hid (decide (M ≤ P2) = false) := decide_eq_false (by omega)
            have hP0 : (P2 : Int) < (M : Int) := by omega
            clear hoff HOFF
            gi_wp2
            have hd2 := HD.out
            have e5' : ((d : Int) != (d0 : Int)) = true := by simp only [bne_iff_ne, ne_eq]; omega
            have e4' : (d != d0) = true := by simpa using e1
            refine Rq.region_round (F := Fence.wide) rfl (by kernel_rfl) (by kernel_rfl) (by kernel_rfl) ?_
            repeat (gi_big_quiet_step (fail))
            refine wpQuietIn_nil ?_
            intro _ hw'
            obtain ⟨nq, hw''⟩ := hw'
            subst hw''
            gi_wp2
            exact ⟨⟨Nat.le_of_eq (by simp), fun k o _ hk ho => (KeepsOthers.setCell (X.drewN nq) ⟨w.heap.size + 1, 0, none⟩ (.bool false)).same k o hk ho⟩, HO.out⟩
          subst e1
          by_cases e1 : tag = tag0
          case neg =>
            have hoff := HOFF.out (by intro h; simp only [Wq.key, Nt.AT.tag, Nt.AT.val, Nt.AT.kids, Prod.mk.injEq] at h; exact e1 h.2.1.symm)
            have HO : Hid (Wq.Off (Wk.steps 1 ts0) pre2) := hoff
            have HD : Hid (decide (M ≤ P2) = false) := decide_eq_false (by omega)
            have hP0 : (P2 : Int) < (M : Int) := by omega
            clear hoff HOFF
            gi_wp2
            have hd2 := HD.out
            have e4' : (tag != tag0) = true := by simpa using e1
            refine Rq.region_round (F := Fence.wide) rfl (by kernel_rfl) (by kernel_rfl) (by kernel_rfl) ?_
            repeat (gi_big_quiet_step (fail))
            refine wpQuietIn_nil ?_
            intro _ hw'
            obtain ⟨nq, hw''⟩ := hw'
            subst hw''
            gi_wp2
            exact ⟨⟨Nat.le_of_eq (by simp), fun k o _ hk ho => (KeepsOthers.setCell (X.drewN nq) ⟨w.heap.size + 1, 0, none⟩ (.bool false)).same k o hk ho⟩, HO.out⟩
          subst e1
          have HD : Hid (decide (M ≤ P2) = false) := decide_eq_false (by omega)
          have hP0 : (P2 : Int) < (M : Int) := by omega
          clear HOFF
          gi_wp2
          have hd2 := HD.out
          refine Rq.region_round (F := Fence.wide) rfl (by kernel_rfl) (by kernel_rfl) (by kernel_rfl) ?_
          repeat (gi_big_quiet_step (fail))
          refine wpQuietIn_nil ?_
          intro _ hw'
          obtain ⟨nq, hw''⟩ := hw'
          subst hw''
          gi_wp2
          have j1 : (X.drewN nq).heap[q13]? = some (.cells #[.int .i64 (P2 : Int)] 3) := i1
          have j2 : Below q13 XI (X.drewN nq) := below_dn i2 nq
          have kx : Wk.KN Z0.heap.size X (X.drewN nq) := ⟨below_dn (Below.refl _ X) nq, fun _ _ _ _ => rfl⟩
          exact ⟨⟨Nat.le_of_eq (by simp), fun k o _ hk ho => (KeepsOthers.setCell (X.drewN nq) ⟨q13, 0, none⟩ (.int .i64 ((P2 : Int) + 1))).same k o hk ho⟩, Wk.kn_t kx (Wk.kn_set j1 (by decide) hz13 0 _), by rw [HLn.out]; exact Wr.setCell_heap' j1 0 _, j2.setCell (p := ⟨q13, 0, none⟩) (Nat.le_refl _) _⟩
        case idone =>
          clear hd2 h3' t0 t1 t2 t3 c8 f8 c4 f4 c11 f11 n0 n1 n2 hblk HD hP0
          rintro xs X4 hS ⟨i3, i4⟩
          have hxl : xs.length = M := by
            have h1 := congrArg List.length hS
            have h2 := HS5.out
            have h3 := HM.out
            simp only [List.length_map] at h1
            omega
          rw [hxl] at i3
          have hZ4 : Below Z0.heap.size Z0 X4 := hZI.trans (i4.mono hz13)
          obtain ⟨c8, f8⟩ := one1 (Kb.kept hZ4 HM8.out)
          obtain ⟨c13, f13⟩ := one1 i3
          gi_wp2
          have hI4 : Below XS.heap.size XS X4 := by rw [s14.out]; exact B13.trans i4
          refine ⟨⟨Nat.le_trans HKFS.out.size hI4.size, fun k o hB hk ho => ?_⟩, Wk.kn_t HKNS.out (Wk.kn_below hI4 hZS.size), ?_, ?_⟩
          · have h1 := HKFS.out.same k o hB hk ho
            exact (hI4.block k (Array.getElem?_eq_some_iff.1 h1).1).trans h1
          · rw [HLn.out]; exact Kb.kept hI4 HJN.out
          · exact hbS.trans (hI4.mono (by have := hbS.size; have := hqY; omega))
    case stop =>
      rintro D c pre X hD hS hF hK
      exact (Wq.off_no hF hS HKEY.out).elim
    rintro D1 xs X2 hD1 hS ⟨i1, i2⟩ hK1
    have hxl : xs.length = M := by
      have h1 := congrArg List.length hS
      have h2 := HS5.out
      have h3 := HM.out
      simp only [List.length_map] at h1
      omega
    rw [hxl] at i1
    have HX2 : Hid (Below Z0.heap.size Z0 X2) := HY1.out.trans (i2.mono hzX)
    obtain ⟨c8, f8⟩ := one1 (Kb.kept HX2.out HM8.out)
    obtain ⟨c11, f11⟩ := one1 i1
    have HK1 : Hid (X2.heap[D1]? = some (.deferred (some []))) := hK1
    have h1K : Hid (Below X1.heap.size X1 X2) := by
      have e := hq1.out
      show Below _ _ _
      rw [e]
      exact HB1Y.out.trans i2
    have hD1' : D1 < X2.heap.size := (Array.getElem?_eq_some_iff.1 hK1).1
    have hX1 : X1.heap.size < Y1.heap.size := by have := hq1.out; omega
    clear hS hxl xs hK1 i2 i1 s11 hzX hqY M11
    go_wp2_with fail
    clear c8 f8 c11 f11
    rw [rounds_succ]
    have B18 := Kb.below_one X2 (.cells #[.int .i64 0] 3)
    have M18 := Kb.h1_0 X2 (.cells #[.int .i64 0] 3)
    have s18 : (X2.alloc (.cells #[.int .i64 0] 3)).heap.size = X2.heap.size + 1 := by simp
    have hzX := HX2.out.size
    have m9 := Kb.kept (Kb.keepB HX2.out B18) HM9.out
    obtain ⟨c9, f9⟩ := one1 m9
    go_wp2_with fail
    generalize X2.alloc (.cells #[.int .i64 0] 3) = Y2 at *
    replace HK0 : Hid (Y2.heap[D0]? = some (.deferred (some []))) := Kb.kept (h1K.out.trans (B18.mono h1K.out.size)) HK0.out
    replace HK1 : Hid (Y2.heap[D1]? = some (.deferred (some []))) := Kb.kept B18 HK1.out
    generalize hq2 : X2.heap.size = q2 at *
    replace hq2 : Hid (X2.heap.size = q2) := hq2
    have HY2 : Hid (Below Z0.heap.size Z0 Y2) := by
      have h1 := HX2.out
      show Below _ _ _
      refine h1.trans (B18.mono ?_)
      exact hzX
    have hqY : q2 < Y2.heap.size := by omega
    clear c9 f9 m9 B18
    refine (wpIn_wide (n := 8)).1 ?_
    refine Wx.range3E rfl (by omega) (gf := 48) (lb := #[.pointer (some ⟨b, 0, none⟩)]) rfl trivial (enters_of Try.func48 (by kernel_rfl) rfl)
      (Wk.goes_all HRD5.out (by have := HD5.out; omega) _ Y2 HY2.out (Kb.kept HY2.out HMB.out)) Wk.kn_t (Wk.kn_b HY2.out.size) (Below.refl _ _) 18 19
      (fun X => ∃ N : Nat, X.heap[q2]? = some (.cells #[.int .i64 (N : Int)] 3) ∧ Below q2 Y2 X ∧ (N = M ∨ a1 ≤ 0 ∨ (N : Int) = a1))
      (fun pre X => X.heap[q2]? = some (.cells #[.int .i64 (pre.length : Int)] 3) ∧ Below q2 Y2 X ∧ (pre.length = 0 ∨ (pre.length : Int) ≤ a1))
      (fun c pre X => Wq.Off (Wk.steps 1 ts0) pre ∨ (c = .exit 6 ∧ ∃ N : Nat, X.heap[q2]? = some (.cells #[.int .i64 (N : Int)] 3) ∧ Below q2 Y2 X ∧ (N = M ∨ a1 ≤ 0 ∨ (N : Int) = a1)))
      (fun s X Y row hs hg hrow => ⟨Wr.cells_on hs.1 hg (fun r e => (hrow r e).2), hs.2.1.grown hg (Nat.le_trans (Nat.le_of_lt hqY) hs.2.1.size) (fun k e => by have := (hrow k e).1; omega), hs.2.2⟩)
      (fun c s X Y row hs hg hrow => by
        rcases hs with hs | ⟨hc, N, h1, h2, h3⟩
        · exact .inl hs
        · exact .inr ⟨hc, N, Wr.cells_on h1 hg (fun r e => (hrow r e).2), h2.grown hg (Nat.le_trans (Nat.le_of_lt hqY) h2.size) (fun k e => by have := (hrow k e).1; omega), h3⟩)
      ⟨by simpa using M18, Below.refl _ _, .inl rfl⟩
      (fun xs X hS hi => ⟨xs.length, hi.1, hi.2.1, .inl (by
        have h1 := congrArg List.length hS
        have h2 := HS5.out
        have h3 := HM.out
        simp only [List.length_map] at h1
        omega)⟩)
      (fun c pre X hS hi => by
        rcases hi with hi | hi
        · exact (Wq.off_no hi hS HKEY.out).elim
        · exact hi) ?assign ?body ?_
    case assign =>
      rintro l pre x X K ⟨i1, i2, i3⟩ hK
      obtain ⟨ko, kc, ek⟩ := HKV5.out x.1 x.2
      have b1 := Kb.below_one X (.cells (Wq.nc x.1) 40)
      have hXX : Z0.heap.size ≤ X.heap.size := Nat.le_trans HY2.out.size i2.size
      have K1 := hK X.heap.size _ (Wr.kf_below _ b1) (Wk.kn_below b1 hXX) ⟨Kb.kept b1 i1, i2.trans (b1.mono (Nat.le_trans (Nat.le_of_lt hqY) i2.size)), i3⟩ (Kb.h1_0 X _)
      obtain ⟨⟨d, a⟩, hx⟩ := x
      cases a with
      | mk tag val kv ks =>
      simp only [Nt.AT.kv, Nt.AT.kids] at ek
      subst ek
      simp only [Wq.slots, Wq.nc, Nt.AT.tag, Nt.AT.val, Nt.AT.kv, List.setIfInBounds_toArray, List.set_cons_succ, List.set_cons_zero] at K1 ⊢
      clear i1 i2 i3 hx b1 hK
      generalize ks.length = kl at *
      gi_wp2
      exact K1
    case body =>
      as_aux_lemma =>
        rintro l pre x blk X hl - ⟨i1, i2, i3⟩ hblk hpl
        obtain ⟨P, HP⟩ : ∃ P : Nat, Hid (pre.length = P) := ⟨_, rfl⟩
        have hPM : P < M := by have h1 := HP.out; have h2 := HS5.out; have h3 := HM.out; omega
        have hPL : P < (Wk.steps 1 ts0).length := by rw [HM.out]; exact hPM
        have HLn : Hid ((pre ++ [x]).length = P + 1) := by
          show _ = _
          rw [List.length_append, HP.out]; simp
        have HOFF : Hid (Wq.key (Wk.steps 1 ts0)[P] ≠ Wq.key x.1 → Wq.Off (Wk.steps 1 ts0) (pre ++ [x])) := fun h => Wq.off_mk pre x (by rw [HP.out]; exact hPL) (by simpa only [HP.out] using h)
        rw [HP.out] at i1 i3
        have HI3 : Hid (P = 0 ∨ (P : Int) ≤ a1) := i3
        have hXk : Below Z0.heap.size Z0 X := HY2.out.trans (i2.mono hzX)
        obtain ⟨c3, f3⟩ := one1 (Kb.kept hXk HM3.out)
        obtain ⟨c11, f11⟩ := one1 i1
        clear i3
        by_cases hst : a1 ≤ (P : Int)
        case pos =>
          generalize pre ++ [x] = pre2 at *
          clear HOFF HLn HP hpl
          simp only [Wq.slots, Wq.nc, List.setIfInBounds_toArray, List.set_cons_succ, List.set_cons_zero]
          gi_wp2
          refine ⟨KeepsFrom.refl _ _, .inr ⟨rfl, P, i1, i2, ?_⟩⟩
          have := HI3.out
          omega
        obtain ⟨gs, rfl⟩ : ∃ gs, so = some ⟨gs, 0, none⟩ := by
          rcases HROW.out.2 with ⟨e, hz⟩ | ⟨g, c2, cur, e, _⟩
          · omega
          · injection e with e1 e2 e3; exact ⟨g, e1⟩
        have rowr := Nt.owns_keep HROW.out fun q hq => hXk.block q (HROW.out.lt q hq).2
        obtain ⟨t0, t1, t2, t3⟩ := Pd.step_cells rowr P hPL
        obtain ⟨ko0, kc0, ek0⟩ := HKV0.out _ (List.getElem_mem hPL)
        rw [ek0] at t3
        obtain ⟨y, hy⟩ : ∃ y, y = (Wk.steps 1 ts0)[P] := ⟨_, rfl⟩
        rw [← hy] at HOFF t0 t1 t2 t3
        obtain ⟨ko, kc, ek⟩ := HKV5.out x.1 x.2
        obtain ⟨c8, f8⟩ := one1 (Kb.kept hXk HM8.out)
        obtain ⟨c4, f4⟩ := one1 (Kb.kept hXk HM4.out)
        generalize pre ++ [x] = pre2 at *
        obtain ⟨⟨d, a⟩, hx⟩ := x
        obtain ⟨d0, a0⟩ := y
        cases a with
        | mk tag val kv ks =>
        cases a0 with
        | mk tag0 val0 kv0 ks0 =>
        simp only [Wq.nc, Nt.AT.tag, Nt.AT.val, Nt.AT.kv, Nt.AT.kids] at ek hblk HOFF t0 t1 t2 t3
        subst ek
        obtain ⟨n0, n1, n2⟩ := Bd.cell3 hblk
        simp only [Wq.slots, Wq.nc, Nt.AT.tag, Nt.AT.val, Nt.AT.kv, List.setIfInBounds_toArray, List.set_cons_succ, List.set_cons_zero]
        clear hx ek0 hy rowr HP hpl
        generalize ks.length = kl at *
        generalize ks0.length = kl0 at *
        clear t2 t3
        by_cases e1 : d = d0
        case neg =>
          have hoff := HOFF.out (by intro h; simp only [Wq.key, Nt.AT.tag, Nt.AT.val, Nt.AT.kids, Prod.mk.injEq] at h; omega)
          have HO : Hid (Wq.Off (Wk.steps 1 ts0) pre2) := hoff
          have HD : Hid (decide (M ≤ P) = false) := decide_eq_false (by omega)
          have hP0 : (P : Int) < (M : Int) := by omega
          clear hoff HOFF
          gi_wp2
          have hd2 := HD.out
          have e5' : ((d : Int) != (d0 : Int)) = true := by simp only [bne_iff_ne, ne_eq]; omega
          have e4' : (d != d0) = true := by simpa using e1
          refine Rq.region_round (F := Fence.wide) rfl (by kernel_rfl) (by kernel_rfl) (by kernel_rfl) ?_
          repeat (gi_big_quiet_step (fail))
          refine wpQuietIn_nil ?_
          intro _ hw'
          obtain ⟨nq, hw''⟩ := hw'
          subst hw''
          gi_wp2
          exact ⟨⟨Nat.le_of_eq (by simp), fun k o _ hk ho => (KeepsOthers.setCell (X.drewN nq) ⟨w.heap.size + 1, 0, none⟩ (.bool false)).same k o hk ho⟩, .inl HO.out⟩
        subst e1
        by_cases e1 : tag = tag0
        case neg =>
          have hoff := HOFF.out (by intro h; simp only [Wq.key, Nt.AT.tag, Nt.AT.val, Nt.AT.kids, Prod.mk.injEq] at h; exact e1 h.2.1.symm)
          have HO : Hid (Wq.Off (Wk.steps 1 ts0) pre2) := hoff
          have HD : Hid (decide (M ≤ P) = false) := decide_eq_false (by omega)
          have hP0 : (P : Int) < (M : Int) := by omega
          clear hoff HOFF
          gi_wp2
          have hd2 := HD.out
          have e4' : (tag != tag0) = true := by simpa using e1
          refine Rq.region_round (F := Fence.wide) rfl (by kernel_rfl) (by kernel_rfl) (by kernel_rfl) ?_
          repeat (gi_big_quiet_step (fail))
          refine wpQuietIn_nil ?_
          intro _ hw'
          obtain ⟨nq, hw''⟩ := hw'
          subst hw''
          gi_wp2
          exact ⟨⟨Nat.le_of_eq (by simp), fun k o _ hk ho => (KeepsOthers.setCell (X.drewN nq) ⟨w.heap.size + 1, 0, none⟩ (.bool false)).same k o hk ho⟩, .inl HO.out⟩
        subst e1
        have HD : Hid (decide (M ≤ P) = false) := decide_eq_false (by omega)
        have hP0 : (P : Int) < (M : Int) := by omega
        clear HOFF
        gi_wp2
        have hd2 := HD.out
        refine Rq.region_round (F := Fence.wide) rfl (by kernel_rfl) (by kernel_rfl) (by kernel_rfl) ?_
        repeat (gi_big_quiet_step (fail))
        refine wpQuietIn_nil ?_
        intro _ hw'
        obtain ⟨nq, hw''⟩ := hw'
        subst hw''
        gi_wp2
        have j1 : (X.drewN nq).heap[q2]? = some (.cells #[.int .i64 (P : Int)] 3) := i1
        have j2 : Below q2 Y2 (X.drewN nq) := below_dn i2 nq
        have kx : Wk.KN Z0.heap.size X (X.drewN nq) := ⟨below_dn (Below.refl _ X) nq, fun _ _ _ _ => rfl⟩
        exact ⟨⟨Nat.le_of_eq (by simp), fun k o _ hk ho => (KeepsOthers.setCell (X.drewN nq) ⟨q2, 0, none⟩ (.int .i64 ((P : Int) + 1))).same k o hk ho⟩, Wk.kn_t kx (Wk.kn_set j1 (by decide) hzX 0 _), by rw [HLn.out]; exact Wr.setCell_heap' j1 0 _, j2.setCell (p := ⟨q2, 0, none⟩) (Nat.le_refl _) _, .inr (by rw [HLn.out]; omega)⟩
    rintro D2 X3 hD2 ⟨N, n1, n2, n3⟩ hK2
    have HX3 : Hid (Below Z0.heap.size Z0 X3) := HY2.out.trans (n2.mono hzX)
    replace HK0 : Hid (X3.heap[D0]? = some (.deferred (some []))) := (n2.block D0 (by have := h1K.out.size; have := hq2.out; have := hq1.out; omega)).trans HK0.out
    replace HK1 : Hid (X3.heap[D1]? = some (.deferred (some []))) := (n2.block D1 (by have := hq2.out; omega)).trans HK1.out
    have HK2 : Hid (X3.heap[D2]? = some (.deferred (some []))) := hK2
    have hd10 : D0 < D1 := by have := hq1.out; omega
    have hd21 : D1 < D2 := by have := hq2.out; omega
    have hd2q : q2 < D2 := by omega
    have hdz : Z0.heap.size ≤ D0 := by have := HY0.out.size; omega
    have hd0w : w.heap.size + 1 < D0 := by omega
    have hN3 : Hid (N = M ∨ a1 ≤ 0 ∨ (N : Int) = a1) := n3
    clear n2 n3 hK2 M18 s18
    go_wp2_with fail
    refine (Pe.print_all a5 _ X3 (HRD5.out.below HX3.out) (by have := HD5.out; omega) (by have h1 := HS5.out; have h2 := HM.out; omega)).mono ?_
    rintro _ x1 ⟨rfl, h1⟩
    obtain ⟨S, HSS⟩ : ∃ S : ByteArray, Hid ((⟨(Pn.prS (Wk.steps 1 a5)).toArray⟩ : ByteArray) = S) := ⟨_, rfl⟩
    rw [HSS.out]
    replace n1 := Kb.kept h1 n1
    have HXa : Hid (Below Z0.heap.size Z0 x1) := HX3.out.trans (h1.mono HX3.out.size)
    replace HK0 : Hid (x1.heap[D0]? = some (.deferred (some []))) := Kb.kept h1 HK0.out
    replace HK1 : Hid (x1.heap[D1]? = some (.deferred (some []))) := Kb.kept h1 HK1.out
    replace HK2 : Hid (x1.heap[D2]? = some (.deferred (some []))) := Kb.kept h1 HK2.out
    clear h1 HX3
    go_wp2_with fail
    refine (Pf.print_doc ts0 _ x1 (HL.out.below (Kb.keepB HB4.out (HXa.out.mono (Nat.le_refl _)))) (by have h2 := HM.out; omega) (by have := HD0.out; omega)).mono ?_
    rintro _ x2 ⟨rfl, h1⟩
    have e2 : (⟨(Pn.prS (Wk.steps 1 ts0)).toArray⟩ : ByteArray) = S := by rw [← Wx.prS_key _ _ HKEY.out]; exact HSS.out
    rw [e2]
    replace n1 := Kb.kept h1 n1
    have HXb : Hid (Below Z0.heap.size Z0 x2) := HXa.out.trans (h1.mono HXa.out.size)
    replace HK0 : Hid (x2.heap[D0]? = some (.deferred (some []))) := Kb.kept h1 HK0.out
    replace HK1 : Hid (x2.heap[D1]? = some (.deferred (some []))) := Kb.kept h1 HK1.out
    replace HK2 : Hid (x2.heap[D2]? = some (.deferred (some []))) := Kb.kept h1 HK2.out
    clear h1 HXa e2
    go_wp2_with fail
    refine (Ke.kept_any a5 ts0 _ _ x2 yS.heap.size (HL5.out.below HXb.out) (HL.out.below (Kb.keepB HB4.out HXb.out)) HE5.out).mono ?_
    rintro _ x3 ⟨rfl, h1⟩
    replace n1 := Kb.kept h1 n1
    have HXc : Hid (Below Z0.heap.size Z0 x3) := HXb.out.trans (h1.mono HXb.out.size)
    replace HK0 : Hid (x3.heap[D0]? = some (.deferred (some []))) := Kb.kept h1 HK0.out
    replace HK1 : Hid (x3.heap[D1]? = some (.deferred (some []))) := Kb.kept h1 HK1.out
    replace HK2 : Hid (x3.heap[D2]? = some (.deferred (some []))) := Kb.kept h1 HK2.out
    clear h1 HXb HSS
    obtain ⟨c3, f3⟩ := one1 (Kb.kept HXc.out HM3.out)
    obtain ⟨c8, f8⟩ := one1 (Kb.kept HXc.out HM8.out)
    obtain ⟨cq, fq⟩ := one1 n1
    have HN1 : Hid (x3.heap[q2]? = some (.cells #[.int .i64 (N : Int)] 3)) := n1
    clear n1
    by_cases h5 : N5 = 0
    case pos =>
      subst h5
      obtain rfl : a5 = [] := List.length_eq_zero_iff.1 HN5.out
      have m4 := Kb.kept HXc.out HM4.out
      have m9 := Kb.kept HXc.out HM9.out
      have mb := Kb.kept HXc.out HMB.out
      have k0 := HK0.out
      have k1 := HK1.out
      have k2 := HK2.out
      have hwd : Hid (Below w.heap.size w x3) := Kb.keepB HB4.out HXc.out
      have HRE : Hid (Nt.Rdn x3 (.slice (some ⟨g5, 0, none⟩) 0 cap5) []) := HRD5.out.below HXc.out
      have HDE : Hid (Wk.dep [] ≤ 999999) := by show _ ≤ _; simp [Wk.dep]
      have HHD : Hid (∀ x : Wk.El, [x] <+: Wk.steps 1 [] → x.1 = 1 ∧ x.2.tag = 5 ∧ x.2.val = ⟨#[99, 104, 97, 110, 103, 101, 100]⟩) := fun x hx => by simp [Wk.steps] at hx
      have HKVE : Hid (∀ x ∈ Wk.steps 1 [], ∃ ko kc, x.2.kv = .slice ko x.2.kids.length kc) := fun x hx => by simp [Wk.steps] at hx
      clear HROW
      by_cases hnm : N = M
      case pos =>
        subst hnm
        as_aux_lemma =>
          obtain ⟨c9, f9⟩ := one1 m9
          go_wp2_with fail
          clear c9 f9
          have HD2W : Hid (x3.heap[D2]? = some (.deferred (some []))) := k2
          refine (wpIn_wide (n := 8)).1 ?_
          refine Wx.range3E rfl (by omega) (gf := 48) (lb := #[.pointer (some ⟨b, 0, none⟩)]) rfl trivial (enters_of Try.func48 (by kernel_rfl) rfl)
            (Wk.goes_all HRE.out HDE.out _ x3 (Below.refl _ _) mb) Wk.kn_t (Wk.kn_b (Nat.le_refl _)) (Below.refl _ _) 23 24
            (fun X => Below x3.heap.size x3 X)
            (fun pre X => pre = [] ∧ Below x3.heap.size x3 X)
            (fun c pre X => (∃ x, pre = [x] ∧ ¬ (x.1.1 = 1 ∧ x.1.2.tag = 5 ∧ x.1.2.val = ⟨#[99, 104, 97, 110, 103, 101, 100]⟩)) ∨ (c = .exit 8 ∧ Below x3.heap.size x3 X))
            (fun s X Y row hs hg hrow => ⟨hs.1, hs.2.grown hg hs.2.size (fun k e => by have := (hrow k e).1; omega)⟩)
            (fun c s X Y row hs hg hrow => by
              rcases hs with hs | ⟨hc, h1⟩
              · exact .inl hs
              · exact .inr ⟨hc, h1.grown hg h1.size (fun k e => by have := (hrow k e).1; omega)⟩)
            ⟨rfl, Below.refl _ _⟩
            (fun xs X hS hi => hi.2)
            (fun c pre X hS hi => by
              rcases hi with ⟨x, rfl, hn⟩ | hi
              · exact (hn (HHD.out x.1 (by simpa using hS))).elim
              · exact hi) ?assign ?body ?_
          case assign =>
            rintro l pre x X K ⟨i1, i2⟩ hK
            obtain ⟨ko, kc, ek⟩ := HKVE.out x.1 x.2
            have b1 := Kb.below_one X (.cells (Wq.nc x.1) 40)
            have K1 := hK X.heap.size _ (Wr.kf_below _ b1) (Wk.kn_below b1 i2.size) ⟨i1, i2.trans (b1.mono i2.size)⟩ (Kb.h1_0 X _)
            obtain ⟨⟨d, a⟩, hx⟩ := x
            cases a with
            | mk tag val kv ks =>
            simp only [Nt.AT.kv, Nt.AT.kids] at ek
            subst ek
            simp only [Wq.slots, Wq.nc, Nt.AT.tag, Nt.AT.val, Nt.AT.kv, List.setIfInBounds_toArray, List.set_cons_succ, List.set_cons_zero] at K1 ⊢
            clear i1 i2 hx b1 hK
            generalize ks.length = kl at *
            gi_wp2
            exact K1
          case body =>
            rintro l pre x blk X hl - ⟨rfl, i2⟩ hblk hpl
            obtain ⟨c4, f4⟩ := one1 (Kb.kept i2 m4)
            obtain ⟨ko, kc, ek⟩ := HKVE.out x.1 x.2
            have HIX : Hid (∀ h : ¬ (x.1.1 = 1 ∧ x.1.2.tag = 5 ∧ x.1.2.val = ⟨#[99, 104, 97, 110, 103, 101, 100]⟩), ∃ x', [] ++ [x] = [x'] ∧ ¬ (x'.1.1 = 1 ∧ x'.1.2.tag = 5 ∧ x'.1.2.val = ⟨#[99, 104, 97, 110, 103, 101, 100]⟩)) := fun h => ⟨x, rfl, h⟩
            generalize [] ++ [x] = pre2 at *
            obtain ⟨⟨d, a⟩, hx⟩ := x
            cases a with
            | mk tag val kv ks =>
            simp only [Wq.nc, Nt.AT.tag, Nt.AT.val, Nt.AT.kv, Nt.AT.kids] at ek hblk HIX
            subst ek
            obtain ⟨n0, n1, n2⟩ := Bd.cell3 hblk
            simp only [Wq.slots, Wq.nc, Nt.AT.tag, Nt.AT.val, Nt.AT.kv, List.setIfInBounds_toArray, List.set_cons_succ, List.set_cons_zero]
            clear hx hpl
            generalize ks.length = kl at *
            by_cases e1 : d = 1
            case neg =>
              have hne : ¬ (d : Int) = 1 := by omega
              have HO := HIX.out (fun h => e1 h.1)
              replace HO : Hid (∃ x', pre2 = [x'] ∧ ¬ (x'.1.1 = 1 ∧ x'.1.2.tag = 5 ∧ x'.1.2.val = ⟨#[99, 104, 97, 110, 103, 101, 100]⟩)) := HO
              clear HIX
              gi_wp2
              exact ⟨⟨Nat.le_of_eq (by simp), fun k o _ hk ho => (KeepsOthers.setCell X ⟨w.heap.size + 1, 0, none⟩ (.bool false)).same k o hk ho⟩, .inl HO.out⟩
            subst e1
            by_cases e1 : tag = 5
            case neg =>
              have HO := HIX.out (fun h => e1 h.2.1)
              replace HO : Hid (∃ x', pre2 = [x'] ∧ ¬ (x'.1.1 = 1 ∧ x'.1.2.tag = 5 ∧ x'.1.2.val = ⟨#[99, 104, 97, 110, 103, 101, 100]⟩)) := HO
              clear HIX
              gi_wp2
              exact ⟨⟨Nat.le_of_eq (by simp), fun k o _ hk ho => (KeepsOthers.setCell X ⟨w.heap.size + 1, 0, none⟩ (.bool false)).same k o hk ho⟩, .inl HO.out⟩
            subst e1
            by_cases e1 : val = ⟨#[99, 104, 97, 110, 103, 101, 100]⟩
            case neg =>
              have HO := HIX.out (fun h => e1 h.2.2)
              replace HO : Hid (∃ x', pre2 = [x'] ∧ ¬ (x'.1.1 = 1 ∧ x'.1.2.tag = 5 ∧ x'.1.2.val = ⟨#[99, 104, 97, 110, 103, 101, 100]⟩)) := HO
              have hv : ¬ val.toList = [99, 104, 97, 110, 103, 101, 100] := by
                rw [ByteArray.toList_eq]
                intro h
                exact e1 (ByteArray.ext (Array.toList_inj.1 h))
              have hv2 : (val.toList == [99, 104, 97, 110, 103, 101, 100]) = false := by simpa using hv
              clear HIX e1 hv
              gi_wp2
              exact ⟨⟨Nat.le_of_eq (by simp), fun k o _ hk ho => (KeepsOthers.setCell X ⟨w.heap.size + 1, 0, none⟩ (.bool false)).same k o hk ho⟩, .inl HO.out⟩
            subst e1
            clear HIX
            gi_wp2
            exact ⟨KeepsFrom.refl _ _, .inr ⟨rfl, i2⟩⟩
          rintro D3 x6 hD3 i6 hK3
          have m4' := Kb.kept i6 m4
          obtain ⟨c4, f4⟩ := one1 m4'
          replace k0 := Kb.kept i6 k0
          replace k1 := Kb.kept i6 k1
          replace k2 := Kb.kept i6 k2
          have b6 := hwd.out.trans (i6.mono hwd.out.size)
          have hd3 : D2 < D3 := by
            have h1 := (Array.getElem?_eq_some_iff.1 HD2W.out).1
            omega
          go_wp2_with fail
          have u0 := (KeepsOthers.setCell x6 ⟨w.heap.size + 1, 0, none⟩ (.bool true)).same D0 _ k0 rfl
          have u1 := (KeepsOthers.setCell x6 ⟨w.heap.size + 1, 0, none⟩ (.bool true)).same D1 _ k1 rfl
          have u2 := (KeepsOthers.setCell x6 ⟨w.heap.size + 1, 0, none⟩ (.bool true)).same D2 _ k2 rfl
          have u3 := (KeepsOthers.setCell x6 ⟨w.heap.size + 1, 0, none⟩ (.bool true)).same D3 _ hK3 rfl
          have mr := Wr.setCell_heap' m4' 0 (.bool true)
          have bz := b6.setCell (p := ⟨w.heap.size + 1, 0, none⟩) (by simp) (.bool true)
          generalize x6.setCell ⟨w.heap.size + 1, 0, none⟩ (.bool true) = V0 at *
          obtain ⟨v2, v1, v0, cr, bw⟩ := Wx.fin hd0w hd10 hd21 hd3 mr u0 u1 u2 u3 bz
          refine ⟨by simp, .inl ⟨_, _, rfl, run_takeDeferred u3, by simp, .inl ⟨_, _, rfl, run_takeDeferred v2, by simp, .inl ⟨_, _, rfl, run_takeDeferred v1, by simp, .inl ⟨_, _, rfl, run_takeDeferred v0, ?_⟩⟩⟩⟩⟩
          refine ⟨.bool true, ?_, rfl, bw⟩
          simp [results, Try.f6, go_sem, cr]
      case neg =>
        have hm1 : (N != M) = true := by simpa using hnm
        have hm2 : ((N : Int) != (M : Int)) = true := by simp only [bne_iff_ne, ne_eq]; omega
        by_cases hna : (N : Int) = a1
        case pos =>
          subst hna
          as_aux_lemma =>
            obtain ⟨c9, f9⟩ := one1 m9
            go_wp2_with fail
            clear c9 f9
            have HD2W : Hid (x3.heap[D2]? = some (.deferred (some []))) := k2
            refine (wpIn_wide (n := 8)).1 ?_
            refine Wx.range3E rfl (by omega) (gf := 48) (lb := #[.pointer (some ⟨b, 0, none⟩)]) rfl trivial (enters_of Try.func48 (by kernel_rfl) rfl)
              (Wk.goes_all HRE.out HDE.out _ x3 (Below.refl _ _) mb) Wk.kn_t (Wk.kn_b (Nat.le_refl _)) (Below.refl _ _) 23 24
              (fun X => Below x3.heap.size x3 X)
              (fun pre X => pre = [] ∧ Below x3.heap.size x3 X)
              (fun c pre X => (∃ x, pre = [x] ∧ ¬ (x.1.1 = 1 ∧ x.1.2.tag = 5 ∧ x.1.2.val = ⟨#[99, 104, 97, 110, 103, 101, 100]⟩)) ∨ (c = .exit 8 ∧ Below x3.heap.size x3 X))
              (fun s X Y row hs hg hrow => ⟨hs.1, hs.2.grown hg hs.2.size (fun k e => by have := (hrow k e).1; omega)⟩)
              (fun c s X Y row hs hg hrow => by
                rcases hs with hs | ⟨hc, h1⟩
                · exact .inl hs
                · exact .inr ⟨hc, h1.grown hg h1.size (fun k e => by have := (hrow k e).1; omega)⟩)
              ⟨rfl, Below.refl _ _⟩
              (fun xs X hS hi => hi.2)
              (fun c pre X hS hi => by
                rcases hi with ⟨x, rfl, hn⟩ | hi
                · exact (hn (HHD.out x.1 (by simpa using hS))).elim
                · exact hi) ?assign ?body ?_
            case assign =>
              rintro l pre x X K ⟨i1, i2⟩ hK
              obtain ⟨ko, kc, ek⟩ := HKVE.out x.1 x.2
              have b1 := Kb.below_one X (.cells (Wq.nc x.1) 40)
              have K1 := hK X.heap.size _ (Wr.kf_below _ b1) (Wk.kn_below b1 i2.size) ⟨i1, i2.trans (b1.mono i2.size)⟩ (Kb.h1_0 X _)
              obtain ⟨⟨d, a⟩, hx⟩ := x
              cases a with
              | mk tag val kv ks =>
              simp only [Nt.AT.kv, Nt.AT.kids] at ek
              subst ek
              simp only [Wq.slots, Wq.nc, Nt.AT.tag, Nt.AT.val, Nt.AT.kv, List.setIfInBounds_toArray, List.set_cons_succ, List.set_cons_zero] at K1 ⊢
              clear i1 i2 hx b1 hK
              generalize ks.length = kl at *
              gi_wp2
              exact K1
            case body =>
              rintro l pre x blk X hl - ⟨rfl, i2⟩ hblk hpl
              obtain ⟨c4, f4⟩ := one1 (Kb.kept i2 m4)
              obtain ⟨ko, kc, ek⟩ := HKVE.out x.1 x.2
              have HIX : Hid (∀ h : ¬ (x.1.1 = 1 ∧ x.1.2.tag = 5 ∧ x.1.2.val = ⟨#[99, 104, 97, 110, 103, 101, 100]⟩), ∃ x', [] ++ [x] = [x'] ∧ ¬ (x'.1.1 = 1 ∧ x'.1.2.tag = 5 ∧ x'.1.2.val = ⟨#[99, 104, 97, 110, 103, 101, 100]⟩)) := fun h => ⟨x, rfl, h⟩
              generalize [] ++ [x] = pre2 at *
              obtain ⟨⟨d, a⟩, hx⟩ := x
              cases a with
              | mk tag val kv ks =>
              simp only [Wq.nc, Nt.AT.tag, Nt.AT.val, Nt.AT.kv, Nt.AT.kids] at ek hblk HIX
              subst ek
              obtain ⟨n0, n1, n2⟩ := Bd.cell3 hblk
              simp only [Wq.slots, Wq.nc, Nt.AT.tag, Nt.AT.val, Nt.AT.kv, List.setIfInBounds_toArray, List.set_cons_succ, List.set_cons_zero]
              clear hx hpl
              generalize ks.length = kl at *
              by_cases e1 : d = 1
              case neg =>
                have hne : ¬ (d : Int) = 1 := by omega
                have HO := HIX.out (fun h => e1 h.1)
                replace HO : Hid (∃ x', pre2 = [x'] ∧ ¬ (x'.1.1 = 1 ∧ x'.1.2.tag = 5 ∧ x'.1.2.val = ⟨#[99, 104, 97, 110, 103, 101, 100]⟩)) := HO
                clear HIX
                gi_wp2
                exact ⟨⟨Nat.le_of_eq (by simp), fun k o _ hk ho => (KeepsOthers.setCell X ⟨w.heap.size + 1, 0, none⟩ (.bool false)).same k o hk ho⟩, .inl HO.out⟩
              subst e1
              by_cases e1 : tag = 5
              case neg =>
                have HO := HIX.out (fun h => e1 h.2.1)
                replace HO : Hid (∃ x', pre2 = [x'] ∧ ¬ (x'.1.1 = 1 ∧ x'.1.2.tag = 5 ∧ x'.1.2.val = ⟨#[99, 104, 97, 110, 103, 101, 100]⟩)) := HO
                clear HIX
                gi_wp2
                exact ⟨⟨Nat.le_of_eq (by simp), fun k o _ hk ho => (KeepsOthers.setCell X ⟨w.heap.size + 1, 0, none⟩ (.bool false)).same k o hk ho⟩, .inl HO.out⟩
              subst e1
              by_cases e1 : val = ⟨#[99, 104, 97, 110, 103, 101, 100]⟩
              case neg =>
                have HO := HIX.out (fun h => e1 h.2.2)
                replace HO : Hid (∃ x', pre2 = [x'] ∧ ¬ (x'.1.1 = 1 ∧ x'.1.2.tag = 5 ∧ x'.1.2.val = ⟨#[99, 104, 97, 110, 103, 101, 100]⟩)) := HO
                have hv : ¬ val.toList = [99, 104, 97, 110, 103, 101, 100] := by
                  rw [ByteArray.toList_eq]
                  intro h
                  exact e1 (ByteArray.ext (Array.toList_inj.1 h))
                have hv2 : (val.toList == [99, 104, 97, 110, 103, 101, 100]) = false := by simpa using hv
                clear HIX e1 hv
                gi_wp2
                exact ⟨⟨Nat.le_of_eq (by simp), fun k o _ hk ho => (KeepsOthers.setCell X ⟨w.heap.size + 1, 0, none⟩ (.bool false)).same k o hk ho⟩, .inl HO.out⟩
              subst e1
              clear HIX
              gi_wp2
              exact ⟨KeepsFrom.refl _ _, .inr ⟨rfl, i2⟩⟩
            rintro D3 x6 hD3 i6 hK3
            have m4' := Kb.kept i6 m4
            obtain ⟨c4, f4⟩ := one1 m4'
            replace k0 := Kb.kept i6 k0
            replace k1 := Kb.kept i6 k1
            replace k2 := Kb.kept i6 k2
            have b6 := hwd.out.trans (i6.mono hwd.out.size)
            have hd3 : D2 < D3 := by
              have h1 := (Array.getElem?_eq_some_iff.1 HD2W.out).1
              omega
            go_wp2_with fail
            have u0 := (KeepsOthers.setCell x6 ⟨w.heap.size + 1, 0, none⟩ (.bool true)).same D0 _ k0 rfl
            have u1 := (KeepsOthers.setCell x6 ⟨w.heap.size + 1, 0, none⟩ (.bool true)).same D1 _ k1 rfl
            have u2 := (KeepsOthers.setCell x6 ⟨w.heap.size + 1, 0, none⟩ (.bool true)).same D2 _ k2 rfl
            have u3 := (KeepsOthers.setCell x6 ⟨w.heap.size + 1, 0, none⟩ (.bool true)).same D3 _ hK3 rfl
            have mr := Wr.setCell_heap' m4' 0 (.bool true)
            have bz := b6.setCell (p := ⟨w.heap.size + 1, 0, none⟩) (by simp) (.bool true)
            generalize x6.setCell ⟨w.heap.size + 1, 0, none⟩ (.bool true) = V0 at *
            obtain ⟨v2, v1, v0, cr, bw⟩ := Wx.fin hd0w hd10 hd21 hd3 mr u0 u1 u2 u3 bz
            refine ⟨by simp, .inl ⟨_, _, rfl, run_takeDeferred u3, by simp, .inl ⟨_, _, rfl, run_takeDeferred v2, by simp, .inl ⟨_, _, rfl, run_takeDeferred v1, by simp, .inl ⟨_, _, rfl, run_takeDeferred v0, ?_⟩⟩⟩⟩⟩
            refine ⟨.bool true, ?_, rfl, bw⟩
            simp [results, Try.f6, go_sem, cr]
        case neg =>
          have hlv : ¬ (0 : Int) < a1 := by have := hN3.out; omega
          have ha2 : ((N : Int) != a1) = true := by simpa using hna
          as_aux_lemma =>
            obtain ⟨c9, f9⟩ := one1 m9
            go_wp2_with fail
            clear c9 f9
            have HD2W : Hid (x3.heap[D2]? = some (.deferred (some []))) := k2
            refine (wpIn_wide (n := 8)).1 ?_
            refine Wx.range3E rfl (by omega) (gf := 48) (lb := #[.pointer (some ⟨b, 0, none⟩)]) rfl trivial (enters_of Try.func48 (by kernel_rfl) rfl)
              (Wk.goes_all HRE.out HDE.out _ x3 (Below.refl _ _) mb) Wk.kn_t (Wk.kn_b (Nat.le_refl _)) (Below.refl _ _) 23 24
              (fun X => Below x3.heap.size x3 X)
              (fun pre X => pre = [] ∧ Below x3.heap.size x3 X)
              (fun c pre X => (∃ x, pre = [x] ∧ ¬ (x.1.1 = 1 ∧ x.1.2.tag = 5 ∧ x.1.2.val = ⟨#[99, 104, 97, 110, 103, 101, 100]⟩)) ∨ (c = .exit 8 ∧ Below x3.heap.size x3 X))
              (fun s X Y row hs hg hrow => ⟨hs.1, hs.2.grown hg hs.2.size (fun k e => by have := (hrow k e).1; omega)⟩)
              (fun c s X Y row hs hg hrow => by
                rcases hs with hs | ⟨hc, h1⟩
                · exact .inl hs
                · exact .inr ⟨hc, h1.grown hg h1.size (fun k e => by have := (hrow k e).1; omega)⟩)
              ⟨rfl, Below.refl _ _⟩
              (fun xs X hS hi => hi.2)
              (fun c pre X hS hi => by
                rcases hi with ⟨x, rfl, hn⟩ | hi
                · exact (hn (HHD.out x.1 (by simpa using hS))).elim
                · exact hi) ?assign ?body ?_
            case assign =>
              rintro l pre x X K ⟨i1, i2⟩ hK
              obtain ⟨ko, kc, ek⟩ := HKVE.out x.1 x.2
              have b1 := Kb.below_one X (.cells (Wq.nc x.1) 40)
              have K1 := hK X.heap.size _ (Wr.kf_below _ b1) (Wk.kn_below b1 i2.size) ⟨i1, i2.trans (b1.mono i2.size)⟩ (Kb.h1_0 X _)
              obtain ⟨⟨d, a⟩, hx⟩ := x
              cases a with
              | mk tag val kv ks =>
              simp only [Nt.AT.kv, Nt.AT.kids] at ek
              subst ek
              simp only [Wq.slots, Wq.nc, Nt.AT.tag, Nt.AT.val, Nt.AT.kv, List.setIfInBounds_toArray, List.set_cons_succ, List.set_cons_zero] at K1 ⊢
              clear i1 i2 hx b1 hK
              generalize ks.length = kl at *
              gi_wp2
              exact K1
            case body =>
              rintro l pre x blk X hl - ⟨rfl, i2⟩ hblk hpl
              obtain ⟨c4, f4⟩ := one1 (Kb.kept i2 m4)
              obtain ⟨ko, kc, ek⟩ := HKVE.out x.1 x.2
              have HIX : Hid (∀ h : ¬ (x.1.1 = 1 ∧ x.1.2.tag = 5 ∧ x.1.2.val = ⟨#[99, 104, 97, 110, 103, 101, 100]⟩), ∃ x', [] ++ [x] = [x'] ∧ ¬ (x'.1.1 = 1 ∧ x'.1.2.tag = 5 ∧ x'.1.2.val = ⟨#[99, 104, 97, 110, 103, 101, 100]⟩)) := fun h => ⟨x, rfl, h⟩
              generalize [] ++ [x] = pre2 at *
              obtain ⟨⟨d, a⟩, hx⟩ := x
              cases a with
              | mk tag val kv ks =>
              simp only [Wq.nc, Nt.AT.tag, Nt.AT.val, Nt.AT.kv, Nt.AT.kids] at ek hblk HIX
              subst ek
              obtain ⟨n0, n1, n2⟩ := Bd.cell3 hblk
              simp only [Wq.slots, Wq.nc, Nt.AT.tag, Nt.AT.val, Nt.AT.kv, List.setIfInBounds_toArray, List.set_cons_succ, List.set_cons_zero]
              clear hx hpl
              generalize ks.length = kl at *
              by_cases e1 : d = 1
              case neg =>
                have hne : ¬ (d : Int) = 1 := by omega
                have HO := HIX.out (fun h => e1 h.1)
                replace HO : Hid (∃ x', pre2 = [x'] ∧ ¬ (x'.1.1 = 1 ∧ x'.1.2.tag = 5 ∧ x'.1.2.val = ⟨#[99, 104, 97, 110, 103, 101, 100]⟩)) := HO
                clear HIX
                gi_wp2
                exact ⟨⟨Nat.le_of_eq (by simp), fun k o _ hk ho => (KeepsOthers.setCell X ⟨w.heap.size + 1, 0, none⟩ (.bool false)).same k o hk ho⟩, .inl HO.out⟩
              subst e1
              by_cases e1 : tag = 5
              case neg =>
                have HO := HIX.out (fun h => e1 h.2.1)
                replace HO : Hid (∃ x', pre2 = [x'] ∧ ¬ (x'.1.1 = 1 ∧ x'.1.2.tag = 5 ∧ x'.1.2.val = ⟨#[99, 104, 97, 110, 103, 101, 100]⟩)) := HO
                clear HIX
                gi_wp2
                exact ⟨⟨Nat.le_of_eq (by simp), fun k o _ hk ho => (KeepsOthers.setCell X ⟨w.heap.size + 1, 0, none⟩ (.bool false)).same k o hk ho⟩, .inl HO.out⟩
              subst e1
              by_cases e1 : val = ⟨#[99, 104, 97, 110, 103, 101, 100]⟩
              case neg =>
                have HO := HIX.out (fun h => e1 h.2.2)
                replace HO : Hid (∃ x', pre2 = [x'] ∧ ¬ (x'.1.1 = 1 ∧ x'.1.2.tag = 5 ∧ x'.1.2.val = ⟨#[99, 104, 97, 110, 103, 101, 100]⟩)) := HO
                have hv : ¬ val.toList = [99, 104, 97, 110, 103, 101, 100] := by
                  rw [ByteArray.toList_eq]
                  intro h
                  exact e1 (ByteArray.ext (Array.toList_inj.1 h))
                have hv2 : (val.toList == [99, 104, 97, 110, 103, 101, 100]) = false := by simpa using hv
                clear HIX e1 hv
                gi_wp2
                exact ⟨⟨Nat.le_of_eq (by simp), fun k o _ hk ho => (KeepsOthers.setCell X ⟨w.heap.size + 1, 0, none⟩ (.bool false)).same k o hk ho⟩, .inl HO.out⟩
              subst e1
              clear HIX
              gi_wp2
              exact ⟨KeepsFrom.refl _ _, .inr ⟨rfl, i2⟩⟩
            rintro D3 x6 hD3 i6 hK3
            have m4' := Kb.kept i6 m4
            obtain ⟨c4, f4⟩ := one1 m4'
            replace k0 := Kb.kept i6 k0
            replace k1 := Kb.kept i6 k1
            replace k2 := Kb.kept i6 k2
            have b6 := hwd.out.trans (i6.mono hwd.out.size)
            have hd3 : D2 < D3 := by
              have h1 := (Array.getElem?_eq_some_iff.1 HD2W.out).1
              omega
            go_wp2_with fail
            have u0 := (KeepsOthers.setCell x6 ⟨w.heap.size + 1, 0, none⟩ (.bool true)).same D0 _ k0 rfl
            have u1 := (KeepsOthers.setCell x6 ⟨w.heap.size + 1, 0, none⟩ (.bool true)).same D1 _ k1 rfl
            have u2 := (KeepsOthers.setCell x6 ⟨w.heap.size + 1, 0, none⟩ (.bool true)).same D2 _ k2 rfl
            have u3 := (KeepsOthers.setCell x6 ⟨w.heap.size + 1, 0, none⟩ (.bool true)).same D3 _ hK3 rfl
            have mr := Wr.setCell_heap' m4' 0 (.bool true)
            have bz := b6.setCell (p := ⟨w.heap.size + 1, 0, none⟩) (by simp) (.bool true)
            generalize x6.setCell ⟨w.heap.size + 1, 0, none⟩ (.bool true) = V0 at *
            obtain ⟨v2, v1, v0, cr, bw⟩ := Wx.fin hd0w hd10 hd21 hd3 mr u0 u1 u2 u3 bz
            refine ⟨by simp, .inl ⟨_, _, rfl, run_takeDeferred u3, by simp, .inl ⟨_, _, rfl, run_takeDeferred v2, by simp, .inl ⟨_, _, rfl, run_takeDeferred v1, by simp, .inl ⟨_, _, rfl, run_takeDeferred v0, ?_⟩⟩⟩⟩⟩
            refine ⟨.bool true, ?_, rfl, bw⟩
            simp [results, Try.f6, go_sem, cr]
    case neg =>
      obtain ⟨a, al, rfl⟩ : ∃ a al, a5 = a :: al := by
        cases a5 with
        | nil => exact absurd HN5.out.symm (by simpa using h5)
        | cons a al => exact ⟨a, al, rfl⟩
      have hpos : 0 < N5 := by omega
      have hpos' : (0 : Int) < (N5 : Int) := by omega
      have L5 := HL5.out.below HXc.out
      obtain ⟨t0, v0, kv0, g0, g1, g2, fz, hb5, hg5'⟩ := Lc.Lnt.cells HN5.out L5 (i := 0) hpos
      simp only [Nat.zero_mul, Nat.zero_add] at g0 g1 g2
      have fz0 := fz 0
      have fz1 := fz 1
      obtain ⟨-, gc, gfr, hgb⟩ := Wx.lnt_blk L5
      have m4 := Kb.kept HXc.out HM4.out
      have m9 := Kb.kept HXc.out HM9.out
      have mb := Kb.kept HXc.out HMB.out
      have k0 := HK0.out
      have k1 := HK1.out
      have k2 := HK2.out
      have d4 := Wx.ne_ty hgb m4 (by decide)
      have d9 := Wx.ne_ty hgb m9 (by decide)
      have db := Wx.ne_ty hgb mb (by decide)
      have e0 := Wx.ne_def hgb k0
      have e1 := Wx.ne_def hgb k1
      have e2 := Wx.ne_def hgb k2
      have L6 := Wx.own_first HN5.out L5 ⟨#[99, 104, 97, 110, 103, 101, 100]⟩ (by decide) 5 (by unfold Nt.tagB; omega)
      have hwd : Hid (Below w.heap.size w ((x3.setCell ⟨g5, 1, none⟩ (.string ⟨#[99, 104, 97, 110, 103, 101, 100]⟩)).setCell ⟨g5, 0, none⟩ (.int .i64 5))) := ((Kb.keepB HB4.out HXc.out).setCell (p := ⟨g5, 1, none⟩) (by simp only; omega) _).setCell (p := ⟨g5, 0, none⟩) (by simp only; omega) _
      have two : ∀ (k : Nat) (o : Obj), g5 ≠ k → x3.heap[k]? = some o → ((x3.setCell ⟨g5, 1, none⟩ (.string ⟨#[99, 104, 97, 110, 103, 101, 100]⟩)).setCell ⟨g5, 0, none⟩ (.int .i64 5)).heap[k]? = some o := fun k o hk ho => (Gd.setCell_ne hk 0 _).trans ((Gd.setCell_ne hk 1 _).trans ho)
      replace m4 := two _ _ d4 m4
      replace m9 := two _ _ d9 m9
      replace mb := two _ _ db mb
      replace k0 := two _ _ e0 k0
      replace k1 := two _ _ e1 k1
      replace k2 := two _ _ e2 k2
      have HL6 : Hid (Le.Lnt ((x3.setCell ⟨g5, 1, none⟩ (.string ⟨#[99, 104, 97, 110, 103, 101, 100]⟩)).setCell ⟨g5, 0, none⟩ (.int .i64 5)) yS.heap.size (.slice (some ⟨g5, 0, none⟩) N5 cap5) (.mk 5 ⟨#[99, 104, 97, 110, 103, 101, 100]⟩ a.kv a.kids :: al)) := L6
      have HDE : Hid (Wk.dep (.mk 5 ⟨#[99, 104, 97, 110, 103, 101, 100]⟩ a.kv a.kids :: al) ≤ 999999) := by
        have h1 := HD5.out
        show _ ≤ _
        cases a with
        | mk t v kv ks =>
        simp only [Wk.dep, Nt.AT.kids] at h1 ⊢
        omega
      have HHD : Hid (∀ x : Wk.El, [x] <+: Wk.steps 1 (.mk 5 ⟨#[99, 104, 97, 110, 103, 101, 100]⟩ a.kv a.kids :: al) → x.1 = 1 ∧ x.2.tag = 5 ∧ x.2.val = ⟨#[99, 104, 97, 110, 103, 101, 100]⟩) := fun x hx => by
        have := Wx.head_step (by rw [Wk.steps]) hx
        subst this
        exact ⟨rfl, rfl, rfl⟩
      have nq9 : ¬ q9 = g5 := fun h => d9 h.symm
      have nq9' : ¬ g5 = q9 := d9
      clear L5 L6 fz two d4 d9 db e0 e1 e2 hgb HROW g2
      obtain ⟨c9, f9⟩ := one1 m9
      by_cases hnm : N = M
      case pos =>
        subst hnm
        as_aux_lemma =>
          go_wp2_with fail
          generalize (x3.setCell ⟨g5, 1, none⟩ (.string ⟨#[99, 104, 97, 110, 103, 101, 100]⟩)).setCell ⟨g5, 0, none⟩ (.int .i64 5) = W5 at *
          generalize hAE : Nt.AT.mk 5 ⟨#[99, 104, 97, 110, 103, 101, 100]⟩ a.kv a.kids :: al = aE at *
          clear hAE
          have HRE : Hid (Nt.Rdn W5 (.slice (some ⟨g5, 0, none⟩) N5 cap5) aE) := HL6.out.reads
          have HKVE : Hid (∀ x ∈ Wk.steps 1 aE, ∃ ko kc, x.2.kv = .slice ko x.2.kids.length kc) := fun x hx => Wk.kv_form (Wr.steps_read 1 aE HRE.out.kids x hx).1.row
          clear c9 f9
          have HD2W : Hid (W5.heap[D2]? = some (.deferred (some []))) := k2
          refine (wpIn_wide (n := 8)).1 ?_
          refine Wx.range3E rfl (by omega) (gf := 48) (lb := #[.pointer (some ⟨b, 0, none⟩)]) rfl trivial (enters_of Try.func48 (by kernel_rfl) rfl)
            (Wk.goes_all HRE.out HDE.out _ W5 (Below.refl _ _) mb) Wk.kn_t (Wk.kn_b (Nat.le_refl _)) (Below.refl _ _) 23 24
            (fun X => Below W5.heap.size W5 X)
            (fun pre X => pre = [] ∧ Below W5.heap.size W5 X)
            (fun c pre X => (∃ x, pre = [x] ∧ ¬ (x.1.1 = 1 ∧ x.1.2.tag = 5 ∧ x.1.2.val = ⟨#[99, 104, 97, 110, 103, 101, 100]⟩)) ∨ (c = .exit 8 ∧ Below W5.heap.size W5 X))
            (fun s X Y row hs hg hrow => ⟨hs.1, hs.2.grown hg hs.2.size (fun k e => by have := (hrow k e).1; omega)⟩)
            (fun c s X Y row hs hg hrow => by
              rcases hs with hs | ⟨hc, h1⟩
              · exact .inl hs
              · exact .inr ⟨hc, h1.grown hg h1.size (fun k e => by have := (hrow k e).1; omega)⟩)
            ⟨rfl, Below.refl _ _⟩
            (fun xs X hS hi => hi.2)
            (fun c pre X hS hi => by
              rcases hi with ⟨x, rfl, hn⟩ | hi
              · exact (hn (HHD.out x.1 (by simpa using hS))).elim
              · exact hi) ?assign ?body ?_
          case assign =>
            rintro l pre x X K ⟨i1, i2⟩ hK
            obtain ⟨ko, kc, ek⟩ := HKVE.out x.1 x.2
            have b1 := Kb.below_one X (.cells (Wq.nc x.1) 40)
            have K1 := hK X.heap.size _ (Wr.kf_below _ b1) (Wk.kn_below b1 i2.size) ⟨i1, i2.trans (b1.mono i2.size)⟩ (Kb.h1_0 X _)
            obtain ⟨⟨d, a⟩, hx⟩ := x
            cases a with
            | mk tag val kv ks =>
            simp only [Nt.AT.kv, Nt.AT.kids] at ek
            subst ek
            simp only [Wq.slots, Wq.nc, Nt.AT.tag, Nt.AT.val, Nt.AT.kv, List.setIfInBounds_toArray, List.set_cons_succ, List.set_cons_zero] at K1 ⊢
            clear i1 i2 hx b1 hK
            generalize ks.length = kl at *
            gi_wp2
            exact K1
          case body =>
            rintro l pre x blk X hl - ⟨rfl, i2⟩ hblk hpl
            obtain ⟨c4, f4⟩ := one1 (Kb.kept i2 m4)
            obtain ⟨ko, kc, ek⟩ := HKVE.out x.1 x.2
            have HIX : Hid (∀ h : ¬ (x.1.1 = 1 ∧ x.1.2.tag = 5 ∧ x.1.2.val = ⟨#[99, 104, 97, 110, 103, 101, 100]⟩), ∃ x', [] ++ [x] = [x'] ∧ ¬ (x'.1.1 = 1 ∧ x'.1.2.tag = 5 ∧ x'.1.2.val = ⟨#[99, 104, 97, 110, 103, 101, 100]⟩)) := fun h => ⟨x, rfl, h⟩
            generalize [] ++ [x] = pre2 at *
            obtain ⟨⟨d, a⟩, hx⟩ := x
            cases a with
            | mk tag val kv ks =>
            simp only [Wq.nc, Nt.AT.tag, Nt.AT.val, Nt.AT.kv, Nt.AT.kids] at ek hblk HIX
            subst ek
            obtain ⟨n0, n1, n2⟩ := Bd.cell3 hblk
            simp only [Wq.slots, Wq.nc, Nt.AT.tag, Nt.AT.val, Nt.AT.kv, List.setIfInBounds_toArray, List.set_cons_succ, List.set_cons_zero]
            clear hx hpl
            generalize ks.length = kl at *
            by_cases e1 : d = 1
            case neg =>
              have hne : ¬ (d : Int) = 1 := by omega
              have HO := HIX.out (fun h => e1 h.1)
              replace HO : Hid (∃ x', pre2 = [x'] ∧ ¬ (x'.1.1 = 1 ∧ x'.1.2.tag = 5 ∧ x'.1.2.val = ⟨#[99, 104, 97, 110, 103, 101, 100]⟩)) := HO
              clear HIX
              gi_wp2
              exact ⟨⟨Nat.le_of_eq (by simp), fun k o _ hk ho => (KeepsOthers.setCell X ⟨w.heap.size + 1, 0, none⟩ (.bool false)).same k o hk ho⟩, .inl HO.out⟩
            subst e1
            by_cases e1 : tag = 5
            case neg =>
              have HO := HIX.out (fun h => e1 h.2.1)
              replace HO : Hid (∃ x', pre2 = [x'] ∧ ¬ (x'.1.1 = 1 ∧ x'.1.2.tag = 5 ∧ x'.1.2.val = ⟨#[99, 104, 97, 110, 103, 101, 100]⟩)) := HO
              clear HIX
              gi_wp2
              exact ⟨⟨Nat.le_of_eq (by simp), fun k o _ hk ho => (KeepsOthers.setCell X ⟨w.heap.size + 1, 0, none⟩ (.bool false)).same k o hk ho⟩, .inl HO.out⟩
            subst e1
            by_cases e1 : val = ⟨#[99, 104, 97, 110, 103, 101, 100]⟩
            case neg =>
              have HO := HIX.out (fun h => e1 h.2.2)
              replace HO : Hid (∃ x', pre2 = [x'] ∧ ¬ (x'.1.1 = 1 ∧ x'.1.2.tag = 5 ∧ x'.1.2.val = ⟨#[99, 104, 97, 110, 103, 101, 100]⟩)) := HO
              have hv : ¬ val.toList = [99, 104, 97, 110, 103, 101, 100] := by
                rw [ByteArray.toList_eq]
                intro h
                exact e1 (ByteArray.ext (Array.toList_inj.1 h))
              have hv2 : (val.toList == [99, 104, 97, 110, 103, 101, 100]) = false := by simpa using hv
              clear HIX e1 hv
              gi_wp2
              exact ⟨⟨Nat.le_of_eq (by simp), fun k o _ hk ho => (KeepsOthers.setCell X ⟨w.heap.size + 1, 0, none⟩ (.bool false)).same k o hk ho⟩, .inl HO.out⟩
            subst e1
            clear HIX
            gi_wp2
            exact ⟨KeepsFrom.refl _ _, .inr ⟨rfl, i2⟩⟩
          rintro D3 x6 hD3 i6 hK3
          have m4' := Kb.kept i6 m4
          obtain ⟨c4, f4⟩ := one1 m4'
          replace k0 := Kb.kept i6 k0
          replace k1 := Kb.kept i6 k1
          replace k2 := Kb.kept i6 k2
          have b6 := hwd.out.trans (i6.mono hwd.out.size)
          have hd3 : D2 < D3 := by
            have h1 := (Array.getElem?_eq_some_iff.1 HD2W.out).1
            omega
          go_wp2_with fail
          have u0 := (KeepsOthers.setCell x6 ⟨w.heap.size + 1, 0, none⟩ (.bool true)).same D0 _ k0 rfl
          have u1 := (KeepsOthers.setCell x6 ⟨w.heap.size + 1, 0, none⟩ (.bool true)).same D1 _ k1 rfl
          have u2 := (KeepsOthers.setCell x6 ⟨w.heap.size + 1, 0, none⟩ (.bool true)).same D2 _ k2 rfl
          have u3 := (KeepsOthers.setCell x6 ⟨w.heap.size + 1, 0, none⟩ (.bool true)).same D3 _ hK3 rfl
          have mr := Wr.setCell_heap' m4' 0 (.bool true)
          have bz := b6.setCell (p := ⟨w.heap.size + 1, 0, none⟩) (by simp) (.bool true)
          generalize x6.setCell ⟨w.heap.size + 1, 0, none⟩ (.bool true) = V0 at *
          obtain ⟨v2, v1, v0, cr, bw⟩ := Wx.fin hd0w hd10 hd21 hd3 mr u0 u1 u2 u3 bz
          refine ⟨by simp, .inl ⟨_, _, rfl, run_takeDeferred u3, by simp, .inl ⟨_, _, rfl, run_takeDeferred v2, by simp, .inl ⟨_, _, rfl, run_takeDeferred v1, by simp, .inl ⟨_, _, rfl, run_takeDeferred v0, ?_⟩⟩⟩⟩⟩
          refine ⟨.bool true, ?_, rfl, bw⟩
          simp [results, Try.f6, go_sem, cr]
      case neg =>
        have hm1 : (N != M) = true := by simpa using hnm
        have hm2 : ((N : Int) != (M : Int)) = true := by simp only [bne_iff_ne, ne_eq]; omega
        by_cases hna : (N : Int) = a1
        case pos =>
          subst hna
          as_aux_lemma =>
            go_wp2_with fail
            generalize (x3.setCell ⟨g5, 1, none⟩ (.string ⟨#[99, 104, 97, 110, 103, 101, 100]⟩)).setCell ⟨g5, 0, none⟩ (.int .i64 5) = W5 at *
            generalize hAE : Nt.AT.mk 5 ⟨#[99, 104, 97, 110, 103, 101, 100]⟩ a.kv a.kids :: al = aE at *
            clear hAE
            have HRE : Hid (Nt.Rdn W5 (.slice (some ⟨g5, 0, none⟩) N5 cap5) aE) := HL6.out.reads
            have HKVE : Hid (∀ x ∈ Wk.steps 1 aE, ∃ ko kc, x.2.kv = .slice ko x.2.kids.length kc) := fun x hx => Wk.kv_form (Wr.steps_read 1 aE HRE.out.kids x hx).1.row
            clear c9 f9
            have HD2W : Hid (W5.heap[D2]? = some (.deferred (some []))) := k2
            refine (wpIn_wide (n := 8)).1 ?_
            refine Wx.range3E rfl (by omega) (gf := 48) (lb := #[.pointer (some ⟨b, 0, none⟩)]) rfl trivial (enters_of Try.func48 (by kernel_rfl) rfl)
              (Wk.goes_all HRE.out HDE.out _ W5 (Below.refl _ _) mb) Wk.kn_t (Wk.kn_b (Nat.le_refl _)) (Below.refl _ _) 23 24
              (fun X => Below W5.heap.size W5 X)
              (fun pre X => pre = [] ∧ Below W5.heap.size W5 X)
              (fun c pre X => (∃ x, pre = [x] ∧ ¬ (x.1.1 = 1 ∧ x.1.2.tag = 5 ∧ x.1.2.val = ⟨#[99, 104, 97, 110, 103, 101, 100]⟩)) ∨ (c = .exit 8 ∧ Below W5.heap.size W5 X))
              (fun s X Y row hs hg hrow => ⟨hs.1, hs.2.grown hg hs.2.size (fun k e => by have := (hrow k e).1; omega)⟩)
              (fun c s X Y row hs hg hrow => by
                rcases hs with hs | ⟨hc, h1⟩
                · exact .inl hs
                · exact .inr ⟨hc, h1.grown hg h1.size (fun k e => by have := (hrow k e).1; omega)⟩)
              ⟨rfl, Below.refl _ _⟩
              (fun xs X hS hi => hi.2)
              (fun c pre X hS hi => by
                rcases hi with ⟨x, rfl, hn⟩ | hi
                · exact (hn (HHD.out x.1 (by simpa using hS))).elim
                · exact hi) ?assign ?body ?_
            case assign =>
              rintro l pre x X K ⟨i1, i2⟩ hK
              obtain ⟨ko, kc, ek⟩ := HKVE.out x.1 x.2
              have b1 := Kb.below_one X (.cells (Wq.nc x.1) 40)
              have K1 := hK X.heap.size _ (Wr.kf_below _ b1) (Wk.kn_below b1 i2.size) ⟨i1, i2.trans (b1.mono i2.size)⟩ (Kb.h1_0 X _)
              obtain ⟨⟨d, a⟩, hx⟩ := x
              cases a with
              | mk tag val kv ks =>
              simp only [Nt.AT.kv, Nt.AT.kids] at ek
              subst ek
              simp only [Wq.slots, Wq.nc, Nt.AT.tag, Nt.AT.val, Nt.AT.kv, List.setIfInBounds_toArray, List.set_cons_succ, List.set_cons_zero] at K1 ⊢
              clear i1 i2 hx b1 hK
              generalize ks.length = kl at *
              gi_wp2
              exact K1
            case body =>
              rintro l pre x blk X hl - ⟨rfl, i2⟩ hblk hpl
              obtain ⟨c4, f4⟩ := one1 (Kb.kept i2 m4)
              obtain ⟨ko, kc, ek⟩ := HKVE.out x.1 x.2
              have HIX : Hid (∀ h : ¬ (x.1.1 = 1 ∧ x.1.2.tag = 5 ∧ x.1.2.val = ⟨#[99, 104, 97, 110, 103, 101, 100]⟩), ∃ x', [] ++ [x] = [x'] ∧ ¬ (x'.1.1 = 1 ∧ x'.1.2.tag = 5 ∧ x'.1.2.val = ⟨#[99, 104, 97, 110, 103, 101, 100]⟩)) := fun h => ⟨x, rfl, h⟩
              generalize [] ++ [x] = pre2 at *
              obtain ⟨⟨d, a⟩, hx⟩ := x
              cases a with
              | mk tag val kv ks =>
              simp only [Wq.nc, Nt.AT.tag, Nt.AT.val, Nt.AT.kv, Nt.AT.kids] at ek hblk HIX
              subst ek
              obtain ⟨n0, n1, n2⟩ := Bd.cell3 hblk
              simp only [Wq.slots, Wq.nc, Nt.AT.tag, Nt.AT.val, Nt.AT.kv, List.setIfInBounds_toArray, List.set_cons_succ, List.set_cons_zero]
              clear hx hpl
              generalize ks.length = kl at *
              by_cases e1 : d = 1
              case neg =>
                have hne : ¬ (d : Int) = 1 := by omega
                have HO := HIX.out (fun h => e1 h.1)
                replace HO : Hid (∃ x', pre2 = [x'] ∧ ¬ (x'.1.1 = 1 ∧ x'.1.2.tag = 5 ∧ x'.1.2.val = ⟨#[99, 104, 97, 110, 103, 101, 100]⟩)) := HO
                clear HIX
                gi_wp2
                exact ⟨⟨Nat.le_of_eq (by simp), fun k o _ hk ho => (KeepsOthers.setCell X ⟨w.heap.size + 1, 0, none⟩ (.bool false)).same k o hk ho⟩, .inl HO.out⟩
              subst e1
              by_cases e1 : tag = 5
              case neg =>
                have HO := HIX.out (fun h => e1 h.2.1)
                replace HO : Hid (∃ x', pre2 = [x'] ∧ ¬ (x'.1.1 = 1 ∧ x'.1.2.tag = 5 ∧ x'.1.2.val = ⟨#[99, 104, 97, 110, 103, 101, 100]⟩)) := HO
                clear HIX
                gi_wp2
                exact ⟨⟨Nat.le_of_eq (by simp), fun k o _ hk ho => (KeepsOthers.setCell X ⟨w.heap.size + 1, 0, none⟩ (.bool false)).same k o hk ho⟩, .inl HO.out⟩
              subst e1
              by_cases e1 : val = ⟨#[99, 104, 97, 110, 103, 101, 100]⟩
              case neg =>
                have HO := HIX.out (fun h => e1 h.2.2)
                replace HO : Hid (∃ x', pre2 = [x'] ∧ ¬ (x'.1.1 = 1 ∧ x'.1.2.tag = 5 ∧ x'.1.2.val = ⟨#[99, 104, 97, 110, 103, 101, 100]⟩)) := HO
                have hv : ¬ val.toList = [99, 104, 97, 110, 103, 101, 100] := by
                  rw [ByteArray.toList_eq]
                  intro h
                  exact e1 (ByteArray.ext (Array.toList_inj.1 h))
                have hv2 : (val.toList == [99, 104, 97, 110, 103, 101, 100]) = false := by simpa using hv
                clear HIX e1 hv
                gi_wp2
                exact ⟨⟨Nat.le_of_eq (by simp), fun k o _ hk ho => (KeepsOthers.setCell X ⟨w.heap.size + 1, 0, none⟩ (.bool false)).same k o hk ho⟩, .inl HO.out⟩
              subst e1
              clear HIX
              gi_wp2
              exact ⟨KeepsFrom.refl _ _, .inr ⟨rfl, i2⟩⟩
            rintro D3 x6 hD3 i6 hK3
            have m4' := Kb.kept i6 m4
            obtain ⟨c4, f4⟩ := one1 m4'
            replace k0 := Kb.kept i6 k0
            replace k1 := Kb.kept i6 k1
            replace k2 := Kb.kept i6 k2
            have b6 := hwd.out.trans (i6.mono hwd.out.size)
            have hd3 : D2 < D3 := by
              have h1 := (Array.getElem?_eq_some_iff.1 HD2W.out).1
              omega
            go_wp2_with fail
            have u0 := (KeepsOthers.setCell x6 ⟨w.heap.size + 1, 0, none⟩ (.bool true)).same D0 _ k0 rfl
            have u1 := (KeepsOthers.setCell x6 ⟨w.heap.size + 1, 0, none⟩ (.bool true)).same D1 _ k1 rfl
            have u2 := (KeepsOthers.setCell x6 ⟨w.heap.size + 1, 0, none⟩ (.bool true)).same D2 _ k2 rfl
            have u3 := (KeepsOthers.setCell x6 ⟨w.heap.size + 1, 0, none⟩ (.bool true)).same D3 _ hK3 rfl
            have mr := Wr.setCell_heap' m4' 0 (.bool true)
            have bz := b6.setCell (p := ⟨w.heap.size + 1, 0, none⟩) (by simp) (.bool true)
            generalize x6.setCell ⟨w.heap.size + 1, 0, none⟩ (.bool true) = V0 at *
            obtain ⟨v2, v1, v0, cr, bw⟩ := Wx.fin hd0w hd10 hd21 hd3 mr u0 u1 u2 u3 bz
            refine ⟨by simp, .inl ⟨_, _, rfl, run_takeDeferred u3, by simp, .inl ⟨_, _, rfl, run_takeDeferred v2, by simp, .inl ⟨_, _, rfl, run_takeDeferred v1, by simp, .inl ⟨_, _, rfl, run_takeDeferred v0, ?_⟩⟩⟩⟩⟩
            refine ⟨.bool true, ?_, rfl, bw⟩
            simp [results, Try.f6, go_sem, cr]
        case neg =>
          have hlv : ¬ (0 : Int) < a1 := by have := hN3.out; omega
          have ha2 : ((N : Int) != a1) = true := by simpa using hna
          as_aux_lemma =>
            go_wp2_with fail
            generalize (x3.setCell ⟨g5, 1, none⟩ (.string ⟨#[99, 104, 97, 110, 103, 101, 100]⟩)).setCell ⟨g5, 0, none⟩ (.int .i64 5) = W5 at *
            generalize hAE : Nt.AT.mk 5 ⟨#[99, 104, 97, 110, 103, 101, 100]⟩ a.kv a.kids :: al = aE at *
            clear hAE
            have HRE : Hid (Nt.Rdn W5 (.slice (some ⟨g5, 0, none⟩) N5 cap5) aE) := HL6.out.reads
            have HKVE : Hid (∀ x ∈ Wk.steps 1 aE, ∃ ko kc, x.2.kv = .slice ko x.2.kids.length kc) := fun x hx => Wk.kv_form (Wr.steps_read 1 aE HRE.out.kids x hx).1.row
            clear c9 f9
            have HD2W : Hid (W5.heap[D2]? = some (.deferred (some []))) := k2
            refine (wpIn_wide (n := 8)).1 ?_
            refine Wx.range3E rfl (by omega) (gf := 48) (lb := #[.pointer (some ⟨b, 0, none⟩)]) rfl trivial (enters_of Try.func48 (by kernel_rfl) rfl)
              (Wk.goes_all HRE.out HDE.out _ W5 (Below.refl _ _) mb) Wk.kn_t (Wk.kn_b (Nat.le_refl _)) (Below.refl _ _) 23 24
              (fun X => Below W5.heap.size W5 X)
              (fun pre X => pre = [] ∧ Below W5.heap.size W5 X)
              (fun c pre X => (∃ x, pre = [x] ∧ ¬ (x.1.1 = 1 ∧ x.1.2.tag = 5 ∧ x.1.2.val = ⟨#[99, 104, 97, 110, 103, 101, 100]⟩)) ∨ (c = .exit 8 ∧ Below W5.heap.size W5 X))
              (fun s X Y row hs hg hrow => ⟨hs.1, hs.2.grown hg hs.2.size (fun k e => by have := (hrow k e).1; omega)⟩)
              (fun c s X Y row hs hg hrow => by
                rcases hs with hs | ⟨hc, h1⟩
                · exact .inl hs
                · exact .inr ⟨hc, h1.grown hg h1.size (fun k e => by have := (hrow k e).1; omega)⟩)
              ⟨rfl, Below.refl _ _⟩
              (fun xs X hS hi => hi.2)
              (fun c pre X hS hi => by
                rcases hi with ⟨x, rfl, hn⟩ | hi
                · exact (hn (HHD.out x.1 (by simpa using hS))).elim
                · exact hi) ?assign ?body ?_
            case assign =>
              rintro l pre x X K ⟨i1, i2⟩ hK
              obtain ⟨ko, kc, ek⟩ := HKVE.out x.1 x.2
              have b1 := Kb.below_one X (.cells (Wq.nc x.1) 40)
              have K1 := hK X.heap.size _ (Wr.kf_below _ b1) (Wk.kn_below b1 i2.size) ⟨i1, i2.trans (b1.mono i2.size)⟩ (Kb.h1_0 X _)
              obtain ⟨⟨d, a⟩, hx⟩ := x
              cases a with
              | mk tag val kv ks =>
              simp only [Nt.AT.kv, Nt.AT.kids] at ek
              subst ek
              simp only [Wq.slots, Wq.nc, Nt.AT.tag, Nt.AT.val, Nt.AT.kv, List.setIfInBounds_toArray, List.set_cons_succ, List.set_cons_zero] at K1 ⊢
              clear i1 i2 hx b1 hK
              generalize ks.length = kl at *
              gi_wp2
              exact K1
            case body =>
              rintro l pre x blk X hl - ⟨rfl, i2⟩ hblk hpl
              obtain ⟨c4, f4⟩ := one1 (Kb.kept i2 m4)
              obtain ⟨ko, kc, ek⟩ := HKVE.out x.1 x.2
              have HIX : Hid (∀ h : ¬ (x.1.1 = 1 ∧ x.1.2.tag = 5 ∧ x.1.2.val = ⟨#[99, 104, 97, 110, 103, 101, 100]⟩), ∃ x', [] ++ [x] = [x'] ∧ ¬ (x'.1.1 = 1 ∧ x'.1.2.tag = 5 ∧ x'.1.2.val = ⟨#[99, 104, 97, 110, 103, 101, 100]⟩)) := fun h => ⟨x, rfl, h⟩
              generalize [] ++ [x] = pre2 at *
              obtain ⟨⟨d, a⟩, hx⟩ := x
              cases a with
              | mk tag val kv ks =>
              simp only [Wq.nc, Nt.AT.tag, Nt.AT.val, Nt.AT.kv, Nt.AT.kids] at ek hblk HIX
              subst ek
              obtain ⟨n0, n1, n2⟩ := Bd.cell3 hblk
              simp only [Wq.slots, Wq.nc, Nt.AT.tag, Nt.AT.val, Nt.AT.kv, List.setIfInBounds_toArray, List.set_cons_succ, List.set_cons_zero]
              clear hx hpl
              generalize ks.length = kl at *
              by_cases e1 : d = 1
              case neg =>
                have hne : ¬ (d : Int) = 1 := by omega
                have HO := HIX.out (fun h => e1 h.1)
                replace HO : Hid (∃ x', pre2 = [x'] ∧ ¬ (x'.1.1 = 1 ∧ x'.1.2.tag = 5 ∧ x'.1.2.val = ⟨#[99, 104, 97, 110, 103, 101, 100]⟩)) := HO
                clear HIX
                gi_wp2
                exact ⟨⟨Nat.le_of_eq (by simp), fun k o _ hk ho => (KeepsOthers.setCell X ⟨w.heap.size + 1, 0, none⟩ (.bool false)).same k o hk ho⟩, .inl HO.out⟩
              subst e1
              by_cases e1 : tag = 5
              case neg =>
                have HO := HIX.out (fun h => e1 h.2.1)
                replace HO : Hid (∃ x', pre2 = [x'] ∧ ¬ (x'.1.1 = 1 ∧ x'.1.2.tag = 5 ∧ x'.1.2.val = ⟨#[99, 104, 97, 110, 103, 101, 100]⟩)) := HO
                clear HIX
                gi_wp2
                exact ⟨⟨Nat.le_of_eq (by simp), fun k o _ hk ho => (KeepsOthers.setCell X ⟨w.heap.size + 1, 0, none⟩ (.bool false)).same k o hk ho⟩, .inl HO.out⟩
              subst e1
              by_cases e1 : val = ⟨#[99, 104, 97, 110, 103, 101, 100]⟩
              case neg =>
                have HO := HIX.out (fun h => e1 h.2.2)
                replace HO : Hid (∃ x', pre2 = [x'] ∧ ¬ (x'.1.1 = 1 ∧ x'.1.2.tag = 5 ∧ x'.1.2.val = ⟨#[99, 104, 97, 110, 103, 101, 100]⟩)) := HO
                have hv : ¬ val.toList = [99, 104, 97, 110, 103, 101, 100] := by
                  rw [ByteArray.toList_eq]
                  intro h
                  exact e1 (ByteArray.ext (Array.toList_inj.1 h))
                have hv2 : (val.toList == [99, 104, 97, 110, 103, 101, 100]) = false := by simpa using hv
                clear HIX e1 hv
                gi_wp2
                exact ⟨⟨Nat.le_of_eq (by simp), fun k o _ hk ho => (KeepsOthers.setCell X ⟨w.heap.size + 1, 0, none⟩ (.bool false)).same k o hk ho⟩, .inl HO.out⟩
              subst e1
              clear HIX
              gi_wp2
              exact ⟨KeepsFrom.refl _ _, .inr ⟨rfl, i2⟩⟩
            rintro D3 x6 hD3 i6 hK3
            have m4' := Kb.kept i6 m4
            obtain ⟨c4, f4⟩ := one1 m4'
            replace k0 := Kb.kept i6 k0
            replace k1 := Kb.kept i6 k1
            replace k2 := Kb.kept i6 k2
            have b6 := hwd.out.trans (i6.mono hwd.out.size)
            have hd3 : D2 < D3 := by
              have h1 := (Array.getElem?_eq_some_iff.1 HD2W.out).1
              omega
            go_wp2_with fail
            have u0 := (KeepsOthers.setCell x6 ⟨w.heap.size + 1, 0, none⟩ (.bool true)).same D0 _ k0 rfl
            have u1 := (KeepsOthers.setCell x6 ⟨w.heap.size + 1, 0, none⟩ (.bool true)).same D1 _ k1 rfl
            have u2 := (KeepsOthers.setCell x6 ⟨w.heap.size + 1, 0, none⟩ (.bool true)).same D2 _ k2 rfl
            have u3 := (KeepsOthers.setCell x6 ⟨w.heap.size + 1, 0, none⟩ (.bool true)).same D3 _ hK3 rfl
            have mr := Wr.setCell_heap' m4' 0 (.bool true)
            have bz := b6.setCell (p := ⟨w.heap.size + 1, 0, none⟩) (by simp) (.bool true)
            generalize x6.setCell ⟨w.heap.size + 1, 0, none⟩ (.bool true) = V0 at *
            obtain ⟨v2, v1, v0, cr, bw⟩ := Wx.fin hd0w hd10 hd21 hd3 mr u0 u1 u2 u3 bz
            refine ⟨by simp, .inl ⟨_, _, rfl, run_takeDeferred u3, by simp, .inl ⟨_, _, rfl, run_takeDeferred v2, by simp, .inl ⟨_, _, rfl, run_takeDeferred v1, by simp, .inl ⟨_, _, rfl, run_takeDeferred v0, ?_⟩⟩⟩⟩⟩
            refine ⟨.bool true, ?_, rfl, bw⟩
            simp [results, Try.f6, go_sem, cr]

set_option maxRecDepth 100000 in
theorem contract (H : Type) (enc : TypeId × Value → H) (W : World) (base : Nat) (args : Array Value) (ds gs : List (DataW H)) (before : List MemPlace)
    (hval : ∀ (j : Nat) t v, Try.f6.params[j]? = some t → args[j]? = some v → Value.okWide Try.prog W .any base t v)
    (hW : DataW.Whole enc Try.prog Try.f6.params.toList Rows.tlvWalksSpec.vars false W args.toList ds gs before) (hk : Rows.uptoSmall H (ds ++ gs) = true) :
    Calls Try.prog 6 args W fun e W' => ∃ v, e = .returned v ∧ Rows.tlvWalksSpec.post enc Try.prog Try.f6 false true false false W args v W' := by
  have hW' := hW
  obtain ⟨p, q, hA0, hV, rfl, hfz, hnd⟩ := hW
  have hA : DataW.TrodAll enc Try.prog W 0 (fun _ => true) true Try.f6.params.toList args.toList ds p := hA0
  rw [Try.params6] at hA hval
  obtain ⟨v0, vs0, d0, ds0, p0, q0, hargs, rfl, rfl, h0, r0⟩ := trodAll_cons hA
  obtain ⟨v1, vs1, d1, ds1, p1, q1, rfl, rfl, rfl, h1, r1⟩ := trodAll_cons r0
  obtain ⟨rfl, rfl, rfl⟩ := trodAll_nil r1
  obtain rfl : args = #[v0, v1] := by cases args; simp_all
  obtain ⟨rfl, rfl⟩ := trodVars_none hV
  obtain ⟨a1, rfl, rfl, rfl, w1⟩ := open_int Try.underlying3 (hval 1 3 v1 rfl rfl) h1
  clear hA0
  simp only [List.append_nil] at hk
  have hk1 := of_decide_eq_true hk
  simp only [Rows.uptoBulkAll] at hk1
  obtain ⟨ts0, w0, lt0⟩ := On.open_nodes (hval 0 23 v0 rfl rfl) h0 (by omega)
  refine (walk v0 ts0 a1 W w0 w1).mono fun e W' ⟨he, bel⟩ => ?_
  subst he
  exact ⟨_, rfl, _, _, _, [], _, [], hW', trodAll_mk1 (shut_bool Try.underlying4 _), (trodAll_cons_mk (Below.trod (by kernel_rfl) (by kernel_rfl) (of_decide_eq_true (by kernel_rfl)) h0 bel lt0) (trodAll_cons_mk (shut_int Try.underlying3 w1) trodAll_mk0)), rfl, bel.frame _, fun h => by cases h⟩

set_option maxRecDepth 100000 in
theorem lifted (os : Os) (started : os.Started) (H : Type) (enc : TypeId × Value → H) (F : Stop.Interp) :
    ReturnsInHanded {} Try.checked os 6 .any ((Rows.OpenSpec.upto Rows.tlvWalksSpec).pre6 enc Try.prog Try.f6 Rows.tlvWalksUptoRow.domain false) (((Rows.OpenSpec.upto Rows.tlvWalksSpec).at F).post enc Try.prog Try.f6 false true false false) := by
  refine returnsInHanded_of_cond (C := Try.checked) (s := Rows.OpenSpec.upto Rows.tlvWalksSpec) (k := Rows.uptoSmall) rfl own started (by kernel_rfl) Try.func6
    (OpenSpec.witness (enc := enc) (C := Try.checked) (s := Rows.OpenSpec.upto Rows.tlvWalksSpec) (k := Rows.uptoSmall) rfl false ⟨#[], #[.slice none 0 0, .int .i64 0], []⟩ 8 (by kernel_rfl) (by kernel_rfl) (by kernel_rfl)
      (x := ([.nil, .lit (.int .i64 0)], [], [])) (by kernel_rfl) rfl (by kernel_rfl)) ?_
  intro W base args ds gs before hval hW _ hk _
  exact contract H enc W base args ds gs before hval hW hk

theorem proved : Rows.TlvWalksUptoSaid :=
  OpenClaim.holds_of_cond 6 Try.f6 rfl rfl rfl rfl rfl rfl rfl ⟨rfl, rfl, rfl, rfl, rfl⟩ rfl rfl rfl rfl rfl (by kernel_rfl) Try.func6 (by kernel_rfl)
    (of_decide_eq_true (by kernel_rfl)) (by unfold Func.isWrapper; first | (rw [if_pos (by decide +kernel)]; kernel_rfl) | (rw [if_neg (by decide +kernel)]; exact ⟨rfl, rfl⟩))
    (fun os started H enc _ F => lifted os started H enc F)
#print axioms proved
end Go.Proofs.Ytgidjfhlooggkaa.tlvWalks
