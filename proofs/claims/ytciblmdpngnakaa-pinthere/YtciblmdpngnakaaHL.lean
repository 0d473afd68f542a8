/- PinThere: the law out of the contracts; the frame of the row. -/
import Derived.Test.YtciblmdpngnakaaRows
import Derived.WalkKit
import Derived.ProofKit
import Derived.OpenShut
import Derived.ShutString
import Derived.ChangeOld
import Derived.Below
import Derived.JoinedCond
import Derived.Carry
import Derived.SizedLaws
import Derived.Test.YtciblmdpngnakaaFx
namespace Go.Proofs.Ytciblmdpngnakaa.pinThere
open Go.ChangeShapes Go.WideShapes Go.ChangeAt Go.RowKit
open Go.ChangeMaps (open_string shut_string)
set_option linter.unusedVariables false

theorem own : ownKnob Try.prog.godebug = none := by kernel_rfl

set_option maxRecDepth 100000 in
set_option maxHeartbeats 1600000 in
theorem walk (a0 : ByteArray) (a1 : Int) (a2 : ByteArray) (a3 : Int) (a4 : ByteArray) (a5 : ByteArray) (a6 : Int) (a7 : Int) (a8 : ByteArray) (a9 : ByteArray) (w : World) (w0 : a0.size ≤ maxLen) (w1 : (Lit.int .i64 a1).wf = true) (w2 : a2.size ≤ maxLen) (w3 : (Lit.int .i64 a3).wf = true) (w4 : a4.size ≤ maxLen) (w5 : a5.size ≤ maxLen) (w6 : (Lit.int .i64 a6).wf = true) (w7 : (Lit.int .i64 a7).wf = true) (w8 : a8.size ≤ maxLen) (w9 : a9.size ≤ maxLen) :
    Calls Try.prog 6 #[.string a0, .int .i64 a1, .string a2, .int .i64 a3, .string a4, .string a5, .int .i64 a6, .int .i64 a7, .string a8, .string a9] w fun e w' => e = .returned (.bool true) ∧ Below w.heap.size w w' := by
  have bnd : ∀ {x : Int}, (Lit.int .i64 x).wf = true → -9223372036854775808 ≤ x ∧ x ≤ 9223372036854775807 := by
    intro x h; simp [Lit.wf, IntKind.min, IntKind.max, IntKind.signed, IntKind.bits] at h; omega
  have KN := fun u => Py.known_any u
  have WF := fun u => La.which_any a6 (bnd w6).1 (bnd w6).2 u
  have WG := fun u => La.which_any a7 (bnd w7).1 (bnd w7).2 u
  have hf := La.wh_kn a6
  have hg := La.wh_kn a7
  obtain ⟨m, m9, em⟩ := Fx.picked a1 9 (by decide)
  obtain ⟨l, l7, el⟩ := Fx.picked a3 7 (by decide)
  have P1 := fun u => Pick.pick_any a1 9 u (bnd w1).1 (bnd w1).2 (by decide) (by decide)
  have P2 := fun u => Pick.pick_any a3 7 u (bnd w3).1 (bnd w3).2 (by decide) (by decide)
  rw [show Pick.pickOf a1 9 = (m : Int) from em] at P1
  rw [show Pick.pickOf a3 7 = (l : Int) from el] at P2
  obtain ⟨n, Hn⟩ : ∃ n : Nat, Hid (4 + m = n) := ⟨_, rfl⟩
  obtain ⟨v, Hv⟩ : ∃ v : Nat, Hid (13 + l = v) := ⟨_, rfl⟩
  have en := Hn.out
  have ev := Hv.out
  have n4 : 4 ≤ n := by omega
  have n12 : n ≤ 12 := by omega
  have v13 : 13 ≤ v := by omega
  have v19 : v ≤ 19 := by omega
  have x1 : IntKind.i64.wrap (4 + (m : Int)) = (n : Int) := by rw [IntKind.wrap_i64]; omega
  have x2 : 4 + (m : Int) = (n : Int) := by omega
  have x3 : IntKind.i64.wrap (n : Int) = (n : Int) := by rw [IntKind.wrap_i64]; omega
  have y1 : IntKind.i64.wrap (13 + (l : Int)) = (v : Int) := by rw [IntKind.wrap_i64]; omega
  have y2 : 13 + (l : Int) = (v : Int) := by omega
  have y3 : IntKind.i64.wrap (v : Int) = (v : Int) := by rw [IntKind.wrap_i64]; omega
  have D1 := fun u => La.digits_any a0 n (by omega) w0 u
  have D2 := fun u => La.digits_any a2 v (by omega) w2 u
  have F1 := fun u => Fi.fit_any a4 16 (by decide) u
  have F2 := fun u => Fi.fit_any a5 16 (by decide) u
  have G1 := fun u => La.filling_any (La.wh a6) a8 n n12 w8 u
  have G2 := fun u => La.filling_any (La.wh a7) a9 n n12 w9 u
  generalize La.wh a6 = f at *
  generalize La.wh a7 = g at *
  clear en ev em el m9 l7
  go_enter Try.func6, Try.ntmps6
  go_wp2_with fail
  refine (KN _).mono ?_
  rintro e z1 ⟨rfl, k1⟩
  go_wp2_with fail
  refine (P1 _).mono ?_
  rintro e u ⟨rfl, hu⟩
  rw [hu]
  clear hu u
  go_wp2_with fail
  refine (D1 _).mono ?_
  rintro e z3 ⟨p, rfl, ps, pa, k3⟩
  go_wp2_with fail
  refine (P2 _).mono ?_
  rintro e u ⟨rfl, hu⟩
  rw [hu]
  clear hu u
  go_wp2_with fail
  refine (D2 _).mono ?_
  rintro e z4 ⟨q, rfl, qs, qa, k4⟩
  go_wp2_with fail
  refine (F1 _).mono ?_
  rintro e z5 ⟨ka, rfl, sa, k5⟩
  go_wp2_with fail
  refine (F2 _).mono ?_
  rintro e z6 ⟨kb, rfl, sb, k6⟩
  go_wp2_with fail
  refine (WF _).mono ?_
  rintro e z7 ⟨rfl, k7⟩
  go_wp2_with fail
  refine (WG _).mono ?_
  rintro e z8 ⟨rfl, k8⟩
  have hp := Fx.pin_of p n ps n4 n12 pa
  have hq := Fx.pan_of q v qs v13 v19 qa
  obtain ⟨B, hB, s8, -, -, -⟩ := Fx.one f p q a8 n hf ps n12 hp hq
  obtain ⟨C, hC, c8, -, -, -⟩ := Fx.one g p q a9 n hg ps n12 hp hq
  obtain ⟨SA, -⟩ := Fx.keyed ka f p q a8 B n sa hf ps n12 hp hq hB s8
  obtain ⟨-, UA⟩ := Fx.keyed kb g p q a9 C n sb hg ps n12 hp hq hC c8
  have M1 := Fx.moved ka kb f g p q a8 a9 B C n sa sb hf hg ps n12 hp hq hB hC s8
  have M2 := Fx.moved kb ka g f p q a9 a8 C B n sb sa hg hf ps n12 hp hq hC hB c8
  generalize Wa.eK ka B = S at *
  generalize Wa.eK kb C = T at *
  generalize La.filS f a8 n = W1 at *
  generalize La.filS g a9 n = W2 at *
  clear s8 c8 ps qs sa sb hp hq pa qa hB hC KN WF WG P1 P2 D1 D2 F1 F2 hf hg
  go_wp2_with fail
  refine (G1 _).mono ?_
  rintro e z9 ⟨rfl, k9⟩
  go_wp2_with fail
  refine (SA _).mono ?_
  rintro e z10 ⟨rfl, k10⟩
  go_wp2_with fail
  refine (G2 _).mono ?_
  rintro e z11 ⟨rfl, k11⟩
  go_wp2_with fail
  refine (M1 _).mono ?_
  rintro e z12 ⟨rfl, k12⟩
  go_wp2_with fail
  refine (UA _).mono ?_
  rintro e z13 ⟨rfl, k13⟩
  go_wp2_with fail
  refine (G1 _).mono ?_
  rintro e z14 ⟨rfl, k14⟩
  go_wp2_with fail
  refine (M2 _).mono ?_
  rintro e z15 ⟨rfl, k15⟩
  go_wp2
  go_ret
  exact ⟨by simp, Cb.keepB (Cb.keepB (Cb.keepB (Cb.keepB (Cb.keepB (Cb.keepB (Cb.keepB (Cb.keepB (Cb.keepB (Cb.keepB (Cb.keepB (Cb.keepB (Cb.keepB k1 k3) k4) k5) k6) k7) k8) k9) k10) k11) k12) k13) k14) k15⟩

set_option maxRecDepth 100000 in
theorem contract (H : Type) (enc : TypeId × Value → H) (W : World) (base : Nat) (args : Array Value) (ds gs : List (DataW H)) (before : List MemPlace)
    (hval : ∀ (j : Nat) t v, Try.f6.params[j]? = some t → args[j]? = some v → Value.okWide Try.prog W .any base t v)
    (hW : DataW.Whole enc Try.prog Try.f6.params.toList Rows.pinThereSpec.vars false W args.toList ds gs before) :
    Calls Try.prog 6 args W fun e W' => ∃ v, e = .returned v ∧ Rows.pinThereSpec.post enc Try.prog Try.f6 false true false false W args v W' := by
  have hW' := hW
  obtain ⟨p, q, hA0, hV, rfl, hfz, hnd⟩ := hW
  have hA : DataW.TrodAll enc Try.prog W 0 (fun _ => true) true Try.f6.params.toList args.toList ds p := hA0
  rw [Try.params6] at hA hval
  obtain ⟨v0, vs0, d0, ds0, p0, q0, hargs, rfl, rfl, h0, r0⟩ := trodAll_cons hA
  obtain ⟨v1, vs1, d1, ds1, p1, q1, rfl, rfl, rfl, h1, r1⟩ := trodAll_cons r0
  obtain ⟨v2, vs2, d2, ds2, p2, q2, rfl, rfl, rfl, h2, r2⟩ := trodAll_cons r1
  obtain ⟨v3, vs3, d3, ds3, p3, q3, rfl, rfl, rfl, h3, r3⟩ := trodAll_cons r2
  obtain ⟨v4, vs4, d4, ds4, p4, q4, rfl, rfl, rfl, h4, r4⟩ := trodAll_cons r3
  obtain ⟨v5, vs5, d5, ds5, p5, q5, rfl, rfl, rfl, h5, r5⟩ := trodAll_cons r4
  obtain ⟨v6, vs6, d6, ds6, p6, q6, rfl, rfl, rfl, h6, r6⟩ := trodAll_cons r5
  obtain ⟨v7, vs7, d7, ds7, p7, q7, rfl, rfl, rfl, h7, r7⟩ := trodAll_cons r6
  obtain ⟨v8, vs8, d8, ds8, p8, q8, rfl, rfl, rfl, h8, r8⟩ := trodAll_cons r7
  obtain ⟨v9, vs9, d9, ds9, p9, q9, rfl, rfl, rfl, h9, r9⟩ := trodAll_cons r8
  obtain ⟨rfl, rfl, rfl⟩ := trodAll_nil r9
  obtain rfl : args = #[v0, v1, v2, v3, v4, v5, v6, v7, v8, v9] := by cases args; simp_all
  obtain ⟨rfl, rfl⟩ := trodVars_none hV
  obtain ⟨a0, rfl, rfl, rfl, w0⟩ := open_string Try.underlying9 (hval 0 9 v0 rfl rfl) h0
  obtain ⟨a1, rfl, rfl, rfl, w1⟩ := open_int Try.underlying3 (hval 1 3 v1 rfl rfl) h1
  obtain ⟨a2, rfl, rfl, rfl, w2⟩ := open_string Try.underlying9 (hval 2 9 v2 rfl rfl) h2
  obtain ⟨a3, rfl, rfl, rfl, w3⟩ := open_int Try.underlying3 (hval 3 3 v3 rfl rfl) h3
  obtain ⟨a4, rfl, rfl, rfl, w4⟩ := open_string Try.underlying9 (hval 4 9 v4 rfl rfl) h4
  obtain ⟨a5, rfl, rfl, rfl, w5⟩ := open_string Try.underlying9 (hval 5 9 v5 rfl rfl) h5
  obtain ⟨a6, rfl, rfl, rfl, w6⟩ := open_int Try.underlying3 (hval 6 3 v6 rfl rfl) h6
  obtain ⟨a7, rfl, rfl, rfl, w7⟩ := open_int Try.underlying3 (hval 7 3 v7 rfl rfl) h7
  obtain ⟨a8, rfl, rfl, rfl, w8⟩ := open_string Try.underlying9 (hval 8 9 v8 rfl rfl) h8
  obtain ⟨a9, rfl, rfl, rfl, w9⟩ := open_string Try.underlying9 (hval 9 9 v9 rfl rfl) h9
  clear hA0
  refine (walk a0 a1 a2 a3 a4 a5 a6 a7 a8 a9 W w0 w1 w2 w3 w4 w5 w6 w7 w8 w9).mono fun e W' ⟨he, bel⟩ => ?_
  subst he
  exact ⟨_, rfl, _, _, _, [], _, [], hW', trodAll_mk1 (shut_bool Try.underlying4 _), (trodAll_cons_mk (shut_string Try.underlying9 w0) (trodAll_cons_mk (shut_int Try.underlying3 w1) (trodAll_cons_mk (shut_string Try.underlying9 w2) (trodAll_cons_mk (shut_int Try.underlying3 w3) (trodAll_cons_mk (shut_string Try.underlying9 w4) (trodAll_cons_mk (shut_string Try.underlying9 w5) (trodAll_cons_mk (shut_int Try.underlying3 w6) (trodAll_cons_mk (shut_int Try.underlying3 w7) (trodAll_cons_mk (shut_string Try.underlying9 w8) (trodAll_cons_mk (shut_string Try.underlying9 w9) trodAll_mk0)))))))))), rfl, bel.frame _, fun h => by cases h⟩

set_option maxRecDepth 100000 in
theorem lifted (os : Os) (started : os.Started) (H : Type) (enc : TypeId × Value → H) :
    ReturnsInHanded {} Try.checked os 6 .any (Rows.pinThereSpec.pre6 enc Try.prog Try.f6 Rows.pinThereRow.domain false) (Rows.pinThereSpec.post enc Try.prog Try.f6 false true false false) := by
  refine returnsInHanded_of_change (C := Try.checked) own started (by kernel_rfl) Try.func6
    (ChangeSpec.witness6 (enc := enc) (C := Try.checked) false ⟨#[], #[.string .empty, .int .i64 0, .string .empty, .int .i64 0, .string .empty, .string .empty, .int .i64 0, .int .i64 0, .string .empty, .string .empty], []⟩ 8 (by kernel_rfl) (by kernel_rfl) (by kernel_rfl) (by kernel_rfl)) ?_
  intro W base args ds gs before hval hW _ _
  exact contract H enc W base args ds gs before hval hW

theorem proved : Rows.PinThereSaid :=
  OpenClaim.holds_of_wide 6 Try.f6 rfl rfl rfl rfl rfl rfl rfl ⟨rfl, rfl, rfl, rfl, rfl⟩ rfl rfl rfl rfl rfl (by kernel_rfl) Try.func6 (by kernel_rfl)
    (of_decide_eq_true (by kernel_rfl)) (by unfold Func.isWrapper; first | (rw [if_pos (by decide +kernel)]; kernel_rfl) | (rw [if_neg (by decide +kernel)]; exact ⟨rfl, rfl⟩))
    (fun os started H enc _ => lifted os started H enc)
#print axioms proved
end Go.Proofs.Ytciblmdpngnakaa.pinThere
