/- PinRight: the law out of the contracts; the frame of the row. -/
import Derived.Test.YtciblmdpngnakabRows
import Derived.WalkKit
import Derived.ProofKit
import Derived.OpenShut
import Derived.ShutString
import Derived.ChangeOld
import Derived.Below
import Derived.JoinedCond
import Derived.Carry
import Derived.SizedLaws
import Derived.Test.YtciblmdpngnakabBr
namespace Go.Proofs.Ytciblmdpngnakab.pinRight
open Go.ChangeShapes Go.WideShapes Go.ChangeAt Go.RowKit
open Go.ChangeMaps (open_string shut_string)
set_option linter.unusedVariables false

theorem own : ownKnob Try.prog.godebug = none := by kernel_rfl

set_option maxRecDepth 100000 in
set_option maxHeartbeats 1600000 in
theorem walk (a0 : Int) (a1 : ByteArray) (a2 : ByteArray) (a3 : Int) (w : World) (w0 : (Lit.int .i64 a0).wf = true) (w1 : a1.size ≤ maxLen) (w2 : a2.size ≤ maxLen) (w3 : (Lit.int .i64 a3).wf = true) :
    Calls Try.prog 3 #[.int .i64 a0, .string a1, .string a2, .int .i64 a3] w fun e w' => e = .returned (.bool true) ∧ Below w.heap.size w w' := by
  have bnd : ∀ {x : Int}, (Lit.int .i64 x).wf = true → -9223372036854775808 ≤ x ∧ x ≤ 9223372036854775807 := by
    intro x h; simp [Lit.wf, IntKind.min, IntKind.max, IntKind.signed, IntKind.bits] at h; omega
  have KN := fun u => Py.known_any u
  have WF := fun u => La.which_any a0 (bnd w0).1 (bnd w0).2 u
  have hf := La.wh_kn a0
  have f3 : 0 ≤ La.wh a0 ∧ La.wh a0 ≤ 3 := by have := (Pp.kn_iff _).1 hf; omega
  obtain ⟨l, l7, el⟩ := Fx.picked a3 7 (by decide)
  have P2 := fun u => Pick.pick_any a3 7 u (bnd w3).1 (bnd w3).2 (by decide) (by decide)
  rw [show Pick.pickOf a3 7 = (l : Int) from el] at P2
  obtain ⟨v, Hv⟩ : ∃ v : Nat, Hid (13 + l = v) := ⟨_, rfl⟩
  have ev := Hv.out
  have v13 : 13 ≤ v := by omega
  have v19 : v ≤ 19 := by omega
  have y1 : IntKind.i64.wrap (13 + (l : Int)) = (v : Int) := by rw [IntKind.wrap_i64]; omega
  have y2 : 13 + (l : Int) = (v : Int) := by omega
  have y3 : IntKind.i64.wrap (v : Int) = (v : Int) := by rw [IntKind.wrap_i64]; omega
  have D2 := fun u => La.digits_any a2 v (by omega) w2 u
  have F1 := fun u => Fi.fit_any a1 8 (by decide) u
  generalize La.wh a0 = f at *
  clear ev el l7
  go_enter Try.func3, Try.ntmps3
  go_wp2_with fail
  refine (KN _).mono ?_
  rintro e z1 ⟨rfl, k1⟩
  go_wp2_with fail
  refine (WF _).mono ?_
  rintro e z2 ⟨rfl, k2⟩
  go_wp2_with fail
  refine (F1 _).mono ?_
  rintro e z3 ⟨b, rfl, b8, k3⟩
  go_wp2_with fail
  refine (P2 _).mono ?_
  rintro e u ⟨rfl, hu⟩
  rw [hu]
  clear hu u
  go_wp2_with fail
  refine (D2 _).mono ?_
  rintro e z4 ⟨q, rfl, qs, qa, k4⟩
  have hq := Fx.pan_of q v qs v13 v19 qa
  have K4 := Cb.keepB (Cb.keepB (Cb.keepB k1 k2) k3) k4
  clear k1 k2 k3 k4
  have OA := fun u => Pq.open_any f b q (by unfold maxLen; omega) (by unfold maxLen; omega) u
  have b00 : 0 < b.size := by omega
  have g0 := Ph.gb_eq b 0 b00
  have OP := Br.opened f b q b8 hf hq
  rw [← g0] at OP
  have c3 : (0 : Int) < (b.size : Int) := by omega
  have c8 : ((b[0]'b00).toNat : Int) < 256 := Lib0.toNat_lt _
  have c5 : IntKind.i64.wrap ((b[0]'b00).toNat : Int) = ((b[0]'b00).toNat : Int) := by rw [IntKind.wrap_i64]; omega
  obtain ⟨A, HA⟩ : ∃ A : Nat, Hid ((b[0]'b00).toNat / 16 = A) := ⟨(b[0]'b00).toNat / 16, rfl⟩
  obtain ⟨M, HM⟩ : ∃ M : Nat, Hid ((b[0]'b00).toNat % 16 = M) := ⟨(b[0]'b00).toNat % 16, rfl⟩
  rw [HA.out, HM.out] at OP
  have x2 : Int.tdiv ((b[0]'b00).toNat : Int) 16 = (A : Int) := by rw [Int.tdiv_eq_ediv_of_nonneg (by omega), ← HA.out]; omega
  have x4 : ((b[0]'b00).toNat : Int) / 16 = (A : Int) := by rw [← HA.out]; omega
  have x5 : IntKind.i64.wrap (A : Int) = (A : Int) := by have := HA.out; rw [IntKind.wrap_i64]; omega
  have x6 : Int.tmod ((b[0]'b00).toNat : Int) 16 = (M : Int) := by rw [Int.tmod_eq_emod_of_nonneg (by omega), ← HM.out]; omega
  have x7 : ((b[0]'b00).toNat : Int) % 16 = (M : Int) := by rw [← HM.out]; omega
  clear g0 KN WF F1 P2 D2
  rcases OP with ⟨e1, h1⟩ | ⟨h1, e1 | ⟨p, e1, hp, ps, h0⟩⟩
  · rw [e1] at OA
    have d1 : ((A : Int) != f) = true := by rw [bne_iff_ne]; exact h1
    have OA' : ∀ u, Calls Try.prog 10 #[.int .i64 f, .string b, .string q] u (Fx.R2 ⟨#[]⟩ 61 u) := OA
    clear OA e1 h1 hf hq qa qs b8
    go_wp2_with fail
    refine (OA' _).mono ?_
    rintro e z5 ⟨rfl, k5⟩
    go_wp2
    go_ret
    exact ⟨by simp, Cb.keepB K4 k5⟩
  · rw [e1] at OA
    have d1 : ((A : Int) != f) = false := by rw [bne_eq_false_iff_eq]; exact h1
    have OA' : ∀ u, Calls Try.prog 10 #[.int .i64 f, .string b, .string q] u (Fx.R2 ⟨#[]⟩ 60 u) := OA
    clear OA e1 h1 hf hq qa qs b8
    go_wp2_with fail
    refine (OA' _).mono ?_
    rintro e z5 ⟨rfl, k5⟩
    go_wp2
    go_ret
    exact ⟨by simp, Cb.keepB K4 k5⟩
  · rw [e1] at OA
    have OA' : ∀ u, Calls Try.prog 10 #[.int .i64 f, .string b, .string q] u (Fx.R2 p 0 u) := OA
    have pp := (Pp.pinB_iff p).1 hp
    have NU := fun u => Br.number_any p u (by unfold maxLen; omega)
    rw [pp.2.2] at NU
    have FI := fun u => La.filling_any f ⟨#[]⟩ p.size pp.2.1 (by decide) u
    obtain ⟨B, hB, s8, BA, OB, -⟩ := Fx.one f p q ⟨#[]⟩ p.size hf rfl pp.2.1 hp hq
    have r1 : ¬ (p.size : Int) < 4 := by omega
    have r2 : ¬ (12 : Int) < (p.size : Int) := by omega
    have r3 : ((p.size : Int) != (M : Int)) = false := by rw [bne_eq_false_iff_eq]; omega
    have r4 : (4 : Int) ≤ (p.size : Int) := by omega
    have r5 : (p.size : Int) ≤ 12 := by omega
    by_cases hz : f = 0
    · have hBb : B = b := by rw [← hB]; exact h0 hz ⟨#[]⟩
      subst hBb
      have z0 : (f != 0) = false := by rw [bne_eq_false_iff_eq]; exact hz
      generalize La.filS f ⟨#[]⟩ p.size = W at *
      clear OA e1 h1 hf hq qa qs b8 hp ps h0 pp hB s8 OB hz
      go_wp2_with fail
      refine (OA' _).mono ?_
      rintro e z5 ⟨rfl, k5⟩
      go_wp2_with fail
      refine (NU _).mono ?_
      rintro e u ⟨rfl, hu⟩
      rw [hu]
      clear hu u
      go_wp2_with fail
      refine (FI _).mono ?_
      rintro e z6 ⟨rfl, k6⟩
      go_wp2_with fail
      refine (BA _).mono ?_
      rintro e z7 ⟨rfl, k7⟩
      go_wp2_with fail
      refine (OA' _).mono ?_
      rintro e z8 ⟨rfl, k8⟩
      go_wp2
      go_ret
      exact ⟨by simp, Cb.keepB (Cb.keepB (Cb.keepB (Cb.keepB K4 k5) k6) k7) k8⟩
    · have z0 : (f != 0) = true := by rw [bne_iff_ne]; exact hz
      generalize La.filS f ⟨#[]⟩ p.size = W at *
      clear OA e1 h1 hf hq qa qs b8 hp ps h0 pp hB s8 hz
      go_wp2_with fail
      refine (OA' _).mono ?_
      rintro e z5 ⟨rfl, k5⟩
      go_wp2_with fail
      refine (NU _).mono ?_
      rintro e u ⟨rfl, hu⟩
      rw [hu]
      clear hu u
      go_wp2_with fail
      refine (FI _).mono ?_
      rintro e z6 ⟨rfl, k6⟩
      go_wp2_with fail
      refine (BA _).mono ?_
      rintro e z7 ⟨rfl, k7⟩
      go_wp2_with fail
      refine (OB _).mono ?_
      rintro e z8 ⟨rfl, k8⟩
      go_wp2
      go_ret
      exact ⟨by simp, Cb.keepB (Cb.keepB (Cb.keepB (Cb.keepB K4 k5) k6) k7) k8⟩

set_option maxRecDepth 100000 in
theorem contract (H : Type) (enc : TypeId × Value → H) (W : World) (base : Nat) (args : Array Value) (ds gs : List (DataW H)) (before : List MemPlace)
    (hval : ∀ (j : Nat) t v, Try.f3.params[j]? = some t → args[j]? = some v → Value.okWide Try.prog W .any base t v)
    (hW : DataW.Whole enc Try.prog Try.f3.params.toList Rows.pinRightSpec.vars false W args.toList ds gs before) :
    Calls Try.prog 3 args W fun e W' => ∃ v, e = .returned v ∧ Rows.pinRightSpec.post enc Try.prog Try.f3 false true false false W args v W' := by
  have hW' := hW
  obtain ⟨p, q, hA0, hV, rfl, hfz, hnd⟩ := hW
  have hA : DataW.TrodAll enc Try.prog W 0 (fun _ => true) true Try.f3.params.toList args.toList ds p := hA0
  rw [Try.params3] at hA hval
  obtain ⟨v0, vs0, d0, ds0, p0, q0, hargs, rfl, rfl, h0, r0⟩ := trodAll_cons hA
  obtain ⟨v1, vs1, d1, ds1, p1, q1, rfl, rfl, rfl, h1, r1⟩ := trodAll_cons r0
  obtain ⟨v2, vs2, d2, ds2, p2, q2, rfl, rfl, rfl, h2, r2⟩ := trodAll_cons r1
  obtain ⟨v3, vs3, d3, ds3, p3, q3, rfl, rfl, rfl, h3, r3⟩ := trodAll_cons r2
  obtain ⟨rfl, rfl, rfl⟩ := trodAll_nil r3
  obtain rfl : args = #[v0, v1, v2, v3] := by cases args; simp_all
  obtain ⟨rfl, rfl⟩ := trodVars_none hV
  obtain ⟨a0, rfl, rfl, rfl, w0⟩ := open_int Try.underlying3 (hval 0 3 v0 rfl rfl) h0
  obtain ⟨a1, rfl, rfl, rfl, w1⟩ := open_string Try.underlying9 (hval 1 9 v1 rfl rfl) h1
  obtain ⟨a2, rfl, rfl, rfl, w2⟩ := open_string Try.underlying9 (hval 2 9 v2 rfl rfl) h2
  obtain ⟨a3, rfl, rfl, rfl, w3⟩ := open_int Try.underlying3 (hval 3 3 v3 rfl rfl) h3
  clear hA0
  refine (walk a0 a1 a2 a3 W w0 w1 w2 w3).mono fun e W' ⟨he, bel⟩ => ?_
  subst he
  exact ⟨_, rfl, _, _, _, [], _, [], hW', trodAll_mk1 (shut_bool Try.underlying4 _), (trodAll_cons_mk (shut_int Try.underlying3 w0) (trodAll_cons_mk (shut_string Try.underlying9 w1) (trodAll_cons_mk (shut_string Try.underlying9 w2) (trodAll_cons_mk (shut_int Try.underlying3 w3) trodAll_mk0)))), rfl, bel.frame _, fun h => by cases h⟩

set_option maxRecDepth 100000 in
theorem lifted (os : Os) (started : os.Started) (H : Type) (enc : TypeId × Value → H) :
    ReturnsInHanded {} Try.checked os 3 .any (Rows.pinRightSpec.pre6 enc Try.prog Try.f3 Rows.pinRightRow.domain false) (Rows.pinRightSpec.post enc Try.prog Try.f3 false true false false) := by
  refine returnsInHanded_of_change (C := Try.checked) own started (by kernel_rfl) Try.func3
    (ChangeSpec.witness6 (enc := enc) (C := Try.checked) false ⟨#[], #[.int .i64 0, .string .empty, .string .empty, .int .i64 0], []⟩ 8 (by kernel_rfl) (by kernel_rfl) (by kernel_rfl) (by kernel_rfl)) ?_
  intro W base args ds gs before hval hW _ _
  exact contract H enc W base args ds gs before hval hW

theorem proved : Rows.PinRightSaid :=
  OpenClaim.holds_of_wide 3 Try.f3 rfl rfl rfl rfl rfl rfl rfl ⟨rfl, rfl, rfl, rfl, rfl⟩ rfl rfl rfl rfl rfl (by kernel_rfl) Try.func3 (by kernel_rfl)
    (of_decide_eq_true (by kernel_rfl)) (by unfold Func.isWrapper; first | (rw [if_pos (by decide +kernel)]; kernel_rfl) | (rw [if_neg (by decide +kernel)]; exact ⟨rfl, rfl⟩))
    (fun os started H enc _ => lifted os started H enc)
#print axioms proved
end Go.Proofs.Ytciblmdpngnakab.pinRight
