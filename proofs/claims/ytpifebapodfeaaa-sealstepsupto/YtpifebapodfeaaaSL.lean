/- SealSteps: the law out of the contracts; the frame of the row. -/
import Derived.Test.YtpifebapodfeaaaRows
import Derived.WalkKit
import Derived.ProofKit
import Derived.OpenShut
import Derived.ShutString
import Derived.ChangeOld
import Derived.Below
import Derived.JoinedCond
import Derived.Carry
import Derived.SizedLaws
import Derived.Test.YtpifebapodfeaaaSt
namespace Go.Proofs.Ytpifebapodfeaaa.sealSteps
open Go.ChangeShapes Go.WideShapes Go.ChangeAt Go.RowKit
open Go.ChangeMaps (open_string shut_string)
set_option linter.unusedVariables false

theorem own : ownKnob Try.prog.godebug = none := by kernel_rfl

set_option maxRecDepth 100000 in
set_option maxHeartbeats 1600000 in
theorem walk (a0 : Int) (a1 : Int) (a2 : ByteArray) (a3 : ByteArray) (w : World) (w0 : (Lit.int .i64 a0).wf = true) (w1 : (Lit.int .i64 a1).wf = true) (w2 : a2.size ≤ maxLen) (w3 : a3.size ≤ maxLen) (k2 : a2.size ≤ 1048576) (k3 : a3.size ≤ 1048576) :
    Calls Try.prog 5 #[.int .i64 a0, .int .i64 a1, .string a2, .string a3] w fun e w' => e = .returned (.bool true) ∧ Below w.heap.size w w' := by
  obtain ⟨p0, alg, l0, l1, hal, hA, PK⟩ := Ft.pick_alg a0 w0
  obtain ⟨p1, m, l2, l3, hm, hM, PM⟩ := Ft.pick_met a1 w1
  rcases hal with rfl | rfl
  · obtain rfl : p0 = 0 := by omega
    have FI := fun y => Ft.fitted_any a2 8 (by decide) (by omega) y
    have AL := fun (r : ByteArray) (hr : r.size = 8) => St.all 1 m (.inl rfl) hm a3 k3 r hr
    have g3 : (1 : Int) ≤ (m : Int) ∧ (m : Int) ≤ 2 := by omega
    obtain ⟨g3, g4⟩ := g3
    generalize (m : Int) = Me at *
    have Hk3 : Hid (a3.size ≤ 1048576) := k3
    clear hm k2 w1 w2 w3
    go_enter Try.func5, Try.ntmps5
    go_wp2_with (first
      | (go_at_call_of 13 (Value.int .i64 a0); refine (PK _).mono ?_; rintro e x1 ⟨rfl, h1⟩; rw [h1])
      | (go_at_call_of 13 (Value.int .i64 a1); refine (PM _).mono ?_; rintro e x2 ⟨rfl, h2⟩; rw [h2])
      | (go_at_call 14; refine (FI _).mono ?_; rintro e x3 ⟨r, rfl, hr, h3⟩))
    obtain ⟨T, P, N, c, x, n1, sP, sP1, sP2, pre, sT, c0, TA, PA, NE, XO, EN, E1, E3⟩ := AL r hr
    have u1 : ((P.size : Int) == 0) = false := by simp only [beq_eq_false_iff_ne]; omega
    have u2 : ((P.size : Int) % 8 != 0) = false := by simp only [bne_eq_false_iff_eq]; omega
    have u3 : ¬ (P.size : Int) < (a3.size : Int) := by omega
    have u4 : ¬ (P.size : Int) > (a3.size : Int) + 8 := by omega
    have u5 : (a3.size : Int) ≤ (P.size : Int) := by omega
    have u6 : (P.size : Int) ≤ 1048600 := by have := Hk3.out; omega
    have u7 : (8 : Int) ≤ (r.size : Int) := by omega
    have u8 : ((T.size : Int) == 8) = true := by rw [sT]; rfl
    have sPi : Hid (P.size = 8 * N) := sP
    have sri : Hid (r.size = 8) := hr
    have E1h : Hid (T = c N) := E1 trivial
    clear AL hr sP sP1 sP2 sT FI PK PM n1 E1 E3
    go_wp2_with (first
      | (go_at_call 11; refine (TA _).mono ?_; rintro e x4 ⟨rfl, h4⟩)
      | (go_at_call 8; refine (PA _).mono ?_; rintro e x5 ⟨rfl, h5⟩)
      | (go_at_call 15; refine (NE _).mono ?_; rintro e x6 ⟨g, rfl, ky, h6⟩))
    have hmk := Fl.madeP x6 8 (by decide)
    rw [show ((8 : Nat) : Int) = 8 from rfl] at hmk
    have hcv := Fl.convP x6 8
    rw [show Pe.zs 8 = c 0 by rw [c0]; rfl] at hcv
    have h7 := Cb.below_one x6 (Obj.cells (Pd.R (List.replicate 8 0)) 5)
    generalize x6.alloc (Obj.cells (Pd.R (List.replicate 8 0)) 5) = W1 at *
    have B0 : Below w.heap.size w W1 := Cb.keepB (Cb.keepB (Cb.keepB (Cb.keepB h3 h4) h5) h6) h7
    have ky1 := Bk.key_kept h7 ky
    clear c0 h3 h4 h5 h6
    rw [hmk]
    go_wp2
    go_loopw [18, 19] (fun v k wr => ∃ j : Nat, j ≤ N ∧ v = .string (c j) ∧ k = .int .i64 (8 * (j : Int)) ∧ Bk.Key wr g 1 (r.data.toList.take 8) ∧ Below w.heap.size w wr) (fun _ k _ => 8 * N + 1 - (intOf k).toNat)
    case atStart => exact ⟨0, Nat.zero_le _, rfl, rfl, ky1, B0⟩
    case round =>
      obtain ⟨j, hj, rfl, rfl, hk, hb⟩ := hrel
      have eN := sPi.out
      by_cases hlt : j < N
      · have q0 : (0 : Int) ≤ 8 * (j : Int) := by omega
        have q1 : 8 * (j : Int) < (P.size : Int) := by omega
        have q2 : 8 * (j : Int) + 8 ≤ (P.size : Int) := by omega
        have X1 := XO j hlt
        have M1 := EN j hlt
        have hH : Hid (8 * (j + 1) ≤ 8 * N) := (by omega : 8 * (j + 1) ≤ 8 * N)
        clear XO EN eN ky1 B0
        generalize c j = CJ at *
        generalize hLB : c (j + 1) = LB at *
        have HLB : Hid (c (j + 1) = LB) := hLB
        clear hLB
        generalize x j = M at *
        go_wp2_with (first
          | (go_at_call 16; refine (X1 _).mono ?_; rintro e z2 ⟨rfl, b2⟩; have k2 := Bk.key_kept b2 hk)
          | (go_at_call 17; refine (M1 g _ k2).mono ?_; rintro e z3 ⟨rfl, b3⟩; have k3 := Bk.key_kept b3 k2))
        refine ⟨⟨j + 1, hlt, by rw [HLB.out], by congr 1, k3, Cb.keepB (Cb.keepB hb b2) b3⟩, by have := hH.out; simp only [intOf]; omega⟩
      · obtain rfl : j = N := by omega
        have q1 : ¬ 8 * (j : Int) < (P.size : Int) := by omega
        clear XO EN eN ky1 B0
        have e1 := E1h.out
        subst e1
        clear E1h
        generalize c j = CJ at *
        go_wp2
        go_ret
        exact ⟨by simp, hb⟩
  · obtain rfl : p0 = 1 := by omega
    have FI := fun y => Ft.fitted_any a2 16 (by decide) (by omega) y
    have AL := fun (r : ByteArray) (hr : r.size = 16) => St.all 3 m (.inr rfl) hm a3 k3 r hr
    have g3 : (1 : Int) ≤ (m : Int) ∧ (m : Int) ≤ 2 := by omega
    obtain ⟨g3, g4⟩ := g3
    generalize (m : Int) = Me at *
    have Hk3 : Hid (a3.size ≤ 1048576) := k3
    clear hm k2 w1 w2 w3
    go_enter Try.func5, Try.ntmps5
    go_wp2_with (first
      | (go_at_call_of 13 (Value.int .i64 a0); refine (PK _).mono ?_; rintro e x1 ⟨rfl, h1⟩; rw [h1])
      | (go_at_call_of 13 (Value.int .i64 a1); refine (PM _).mono ?_; rintro e x2 ⟨rfl, h2⟩; rw [h2])
      | (go_at_call 14; refine (FI _).mono ?_; rintro e x3 ⟨r, rfl, hr, h3⟩))
    obtain ⟨T, P, N, c, x, n1, sP, sP1, sP2, pre, sT, c0, TA, PA, NE, XO, EN, E1, E3⟩ := AL r hr
    have u1 : ((P.size : Int) == 0) = false := by simp only [beq_eq_false_iff_ne]; omega
    have u2 : ((P.size : Int) % 8 != 0) = false := by simp only [bne_eq_false_iff_eq]; omega
    have u3 : ¬ (P.size : Int) < (a3.size : Int) := by omega
    have u4 : ¬ (P.size : Int) > (a3.size : Int) + 8 := by omega
    have u5 : (a3.size : Int) ≤ (P.size : Int) := by omega
    have u6 : (P.size : Int) ≤ 1048600 := by have := Hk3.out; omega
    have u7 : (8 : Int) ≤ (r.size : Int) := by omega
    have u8 : ((T.size : Int) == 8) = true := by rw [sT]; rfl
    have sPi : Hid (P.size = 8 * N) := sP
    have sri : Hid (r.size = 16) := hr
    obtain ⟨NF, D, DD, DE⟩ := E3 trivial
    clear AL hr sP sP1 sP2 sT FI PK PM n1 E1 E3
    go_wp2_with (first
      | (go_at_call 11; refine (TA _).mono ?_; rintro e x4 ⟨rfl, h4⟩)
      | (go_at_call 8; refine (PA _).mono ?_; rintro e x5 ⟨rfl, h5⟩)
      | (go_at_call 15; refine (NE _).mono ?_; rintro e x6 ⟨g, rfl, ky, h6⟩))
    have hmk := Fl.madeP x6 8 (by decide)
    rw [show ((8 : Nat) : Int) = 8 from rfl] at hmk
    have hcv := Fl.convP x6 8
    rw [show Pe.zs 8 = c 0 by rw [c0]; rfl] at hcv
    have h7 := Cb.below_one x6 (Obj.cells (Pd.R (List.replicate 8 0)) 5)
    generalize x6.alloc (Obj.cells (Pd.R (List.replicate 8 0)) 5) = W1 at *
    have B0 : Below w.heap.size w W1 := Cb.keepB (Cb.keepB (Cb.keepB (Cb.keepB h3 h4) h5) h6) h7
    have ky1 := Bk.key_kept h7 ky
    clear c0 h3 h4 h5 h6
    rw [hmk]
    go_wp2
    go_loopw [18, 19] (fun v k wr => ∃ j : Nat, j ≤ N ∧ v = .string (c j) ∧ k = .int .i64 (8 * (j : Int)) ∧ Bk.Key wr g 1 (r.data.toList.take 8) ∧ Below w.heap.size w wr) (fun _ k _ => 8 * N + 1 - (intOf k).toNat)
    case atStart => exact ⟨0, Nat.zero_le _, rfl, rfl, ky1, B0⟩
    case round =>
      obtain ⟨j, hj, rfl, rfl, hk, hb⟩ := hrel
      have eN := sPi.out
      by_cases hlt : j < N
      · have q0 : (0 : Int) ≤ 8 * (j : Int) := by omega
        have q1 : 8 * (j : Int) < (P.size : Int) := by omega
        have q2 : 8 * (j : Int) + 8 ≤ (P.size : Int) := by omega
        have X1 := XO j hlt
        have M1 := EN j hlt
        have hH : Hid (8 * (j + 1) ≤ 8 * N) := (by omega : 8 * (j + 1) ≤ 8 * N)
        clear XO EN eN ky1 B0 NF DD DE
        generalize c j = CJ at *
        generalize hLB : c (j + 1) = LB at *
        have HLB : Hid (c (j + 1) = LB) := hLB
        clear hLB
        generalize x j = M at *
        go_wp2_with (first
          | (go_at_call 16; refine (X1 _).mono ?_; rintro e z2 ⟨rfl, b2⟩; have k2 := Bk.key_kept b2 hk)
          | (go_at_call 17; refine (M1 g _ k2).mono ?_; rintro e z3 ⟨rfl, b3⟩; have k3 := Bk.key_kept b3 k2))
        refine ⟨⟨j + 1, hlt, by rw [HLB.out], by congr 1, k3, Cb.keepB (Cb.keepB hb b2) b3⟩, by have := hH.out; simp only [intOf]; omega⟩
      · obtain rfl : j = N := by omega
        have q1 : ¬ 8 * (j : Int) < (P.size : Int) := by omega
        clear XO EN eN ky1 B0
        generalize c j = CJ at *
        go_wp2_with (first
          | (go_at_call 15; refine (NF _).mono ?_; rintro e y1 ⟨g2, rfl, ky2, b1⟩; have hk1 := Bk.key_kept b1 hk)
          | (go_at_call 18; refine (DD g2 _ ky2).mono ?_; rintro e y2 ⟨rfl, b2⟩; have hk2 := Bk.key_kept b2 hk1)
          | (go_at_call 17; refine (DE g _ hk2).mono ?_; rintro e y3 ⟨rfl, b3⟩))
        go_ret
        exact ⟨by simp, Cb.keepB (Cb.keepB (Cb.keepB hb b1) b2) b3⟩

theorem contract (H : Type) (enc : TypeId × Value → H) (W : World) (base : Nat) (args : Array Value) (ds gs : List (DataW H)) (before : List MemPlace)
    (hval : ∀ (j : Nat) t v, Try.f5.params[j]? = some t → args[j]? = some v → Value.okWide Try.prog W .any base t v)
    (hW : DataW.Whole enc Try.prog Try.f5.params.toList Rows.sealStepsSpec.vars false W args.toList ds gs before) (hk : Rows.uptoSmall H (ds ++ gs) = true) :
    Calls Try.prog 5 args W fun e W' => ∃ v, e = .returned v ∧ Rows.sealStepsSpec.post enc Try.prog Try.f5 false true false false W args v W' := by
  have hW' := hW
  obtain ⟨p, q, hA0, hV, rfl, hfz, hnd⟩ := hW
  have hA : DataW.TrodAll enc Try.prog W 0 (fun _ => true) true Try.f5.params.toList args.toList ds p := hA0
  rw [Try.params5] at hA hval
  obtain ⟨v0, vs0, d0, ds0, p0, q0, hargs, rfl, rfl, h0, r0⟩ := trodAll_cons hA
  obtain ⟨v1, vs1, d1, ds1, p1, q1, rfl, rfl, rfl, h1, r1⟩ := trodAll_cons r0
  obtain ⟨v2, vs2, d2, ds2, p2, q2, rfl, rfl, rfl, h2, r2⟩ := trodAll_cons r1
  obtain ⟨v3, vs3, d3, ds3, p3, q3, rfl, rfl, rfl, h3, r3⟩ := trodAll_cons r2
  obtain ⟨rfl, rfl, rfl⟩ := trodAll_nil r3
  obtain rfl : args = #[v0, v1, v2, v3] := by cases args; simp_all
  obtain ⟨rfl, rfl⟩ := trodVars_none hV
  obtain ⟨a0, rfl, rfl, rfl, w0⟩ := open_int Try.underlying3 (hval 0 3 v0 rfl rfl) h0
  obtain ⟨a1, rfl, rfl, rfl, w1⟩ := open_int Try.underlying3 (hval 1 3 v1 rfl rfl) h1
  obtain ⟨a2, rfl, rfl, rfl, w2⟩ := open_string Try.underlying9 (hval 2 9 v2 rfl rfl) h2
  obtain ⟨a3, rfl, rfl, rfl, w3⟩ := open_string Try.underlying9 (hval 3 9 v3 rfl rfl) h3
  clear hA0
  simp only [List.append_nil] at hk
  have hk1 := of_decide_eq_true hk
  simp only [Rows.uptoBulkAll, Rows.uptoBulk] at hk1
  have e2 : a2.data.toList.length = a2.size := by rw [Array.length_toList]; rfl
  have e3 : a3.data.toList.length = a3.size := by rw [Array.length_toList]; rfl
  refine (walk a0 a1 a2 a3 W w0 w1 w2 w3 (by omega) (by omega)).mono fun e W' ⟨he, bel⟩ => ?_
  subst he
  exact ⟨_, rfl, _, _, _, [], _, [], hW', trodAll_mk1 (shut_bool Try.underlying4 _), (trodAll_cons_mk (shut_int Try.underlying3 w0) (trodAll_cons_mk (shut_int Try.underlying3 w1) (trodAll_cons_mk (shut_string Try.underlying9 w2) (trodAll_cons_mk (shut_string Try.underlying9 w3) trodAll_mk0)))), rfl, bel.frame _, fun h => by cases h⟩

set_option maxRecDepth 100000 in
theorem lifted (os : Os) (started : os.Started) (H : Type) (enc : TypeId × Value → H) (F : Stop.Interp) :
    ReturnsInHanded {} Try.checked os 5 .any ((Rows.OpenSpec.upto Rows.sealStepsSpec).pre6 enc Try.prog Try.f5 Rows.sealStepsUptoRow.domain false) (((Rows.OpenSpec.upto Rows.sealStepsSpec).at F).post enc Try.prog Try.f5 false true false false) := by
  refine returnsInHanded_of_cond (C := Try.checked) (s := Rows.OpenSpec.upto Rows.sealStepsSpec) (k := Rows.uptoSmall) rfl own started (by kernel_rfl) Try.func5
    (OpenSpec.witness (enc := enc) (C := Try.checked) (s := Rows.OpenSpec.upto Rows.sealStepsSpec) (k := Rows.uptoSmall) rfl false ⟨#[], #[.int .i64 0, .int .i64 0, .string .empty, .string .empty], []⟩ 8 (by kernel_rfl) (by kernel_rfl) (by kernel_rfl)
      (x := ([.lit (.int .i64 0), .lit (.int .i64 0), .lit (.string []), .lit (.string [])], [], [])) (by kernel_rfl) rfl (by kernel_rfl)) ?_
  intro W base args ds gs before hval hW _ hk _
  exact contract H enc W base args ds gs before hval hW hk

theorem proved : Rows.SealStepsUptoSaid :=
  OpenClaim.holds_of_cond 5 Try.f5 rfl rfl rfl rfl rfl rfl rfl ⟨rfl, rfl, rfl, rfl, rfl⟩ rfl rfl rfl rfl rfl (by kernel_rfl) Try.func5 (by kernel_rfl)
    (of_decide_eq_true (by kernel_rfl)) (by unfold Func.isWrapper; first | (rw [if_pos (by decide +kernel)]; kernel_rfl) | (rw [if_neg (by decide +kernel)]; exact ⟨rfl, rfl⟩))
    (fun os started H enc _ F => lifted os started H enc F)
#print axioms proved
end Go.Proofs.Ytpifebapodfeaaa.sealSteps
