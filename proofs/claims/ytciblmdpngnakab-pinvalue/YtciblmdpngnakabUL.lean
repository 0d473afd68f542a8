/- PinValue: the law out of the contracts; the frame of the row. -/
import Derived.Test.YtciblmdpngnakabRows
import Derived.WalkKit
import Derived.ProofKit
import Derived.OpenShut
import Derived.ShutString
import Derived.ChangeOld
import Derived.Below
import Derived.JoinedCond
import Derived.Carry
import Derived.SizedLaws
import Derived.Test.YtciblmdpngnakabBv
namespace Go.Proofs.Ytciblmdpngnakab.pinValue
open Go.ChangeShapes Go.WideShapes Go.ChangeAt Go.RowKit
open Go.ChangeMaps (open_string shut_string)
set_option linter.unusedVariables false

theorem own : ownKnob Try.prog.godebug = none := by kernel_rfl

set_option maxRecDepth 100000 in
set_option maxHeartbeats 3200000 in
theorem walk (a0 : ByteArray) (a1 : ByteArray) (a2 : Int) (a3 : ByteArray) (a4 : Int) (a5 : ByteArray) (a6 : Int) (a7 : Int) (w : World) (w0 : a0.size ≤ maxLen) (w1 : a1.size ≤ maxLen) (w2 : (Lit.int .i64 a2).wf = true) (w3 : a3.size ≤ maxLen) (w4 : (Lit.int .i64 a4).wf = true) (w5 : a5.size ≤ maxLen) (w6 : (Lit.int .i64 a6).wf = true) (w7 : (Lit.int .i64 a7).wf = true) :
    Calls Try.prog 4 #[.string a0, .string a1, .int .i64 a2, .string a3, .int .i64 a4, .string a5, .int .i64 a6, .int .i64 a7] w fun e w' => e = .returned (.bool true) ∧ Below w.heap.size w w' := by
  have bnd : ∀ {x : Int}, (Lit.int .i64 x).wf = true → -9223372036854775808 ≤ x ∧ x ≤ 9223372036854775807 := by
    intro x h; simp [Lit.wf, IntKind.min, IntKind.max, IntKind.signed, IntKind.bits] at h; omega
  have KN := fun u => Py.known_any u
  obtain ⟨l, l7, el⟩ := Fx.picked a2 7 (by decide)
  obtain ⟨i6, i6b, ei⟩ := Fx.picked a4 6 (by decide)
  obtain ⟨m, m9, em⟩ := Fx.picked a6 9 (by decide)
  obtain ⟨t10, t10b, et⟩ := Fx.picked a7 10 (by decide)
  have P1 := fun u => Pick.pick_any a2 7 u (bnd w2).1 (bnd w2).2 (by decide) (by decide)
  have P2 := fun u => Pick.pick_any a4 6 u (bnd w4).1 (bnd w4).2 (by decide) (by decide)
  have P3 := fun u => Pick.pick_any a6 9 u (bnd w6).1 (bnd w6).2 (by decide) (by decide)
  have P4 := fun u => Pick.pick_any a7 10 u (bnd w7).1 (bnd w7).2 (by decide) (by decide)
  rw [show Pick.pickOf a2 7 = (l : Int) from el] at P1
  rw [show Pick.pickOf a4 6 = (i6 : Int) from ei] at P2
  rw [show Pick.pickOf a6 9 = (m : Int) from em] at P3
  rw [show Pick.pickOf a7 10 = (t10 : Int) from et] at P4
  obtain ⟨v, Hv⟩ : ∃ v : Nat, Hid (13 + l = v) := ⟨_, rfl⟩
  obtain ⟨V, HV⟩ : ∃ V : Nat, Hid (49 + i6 = V) := ⟨_, rfl⟩
  obtain ⟨T, HT⟩ : ∃ T : Nat, Hid (48 + t10 = T) := ⟨_, rfl⟩
  obtain ⟨v1, Hv1⟩ : ∃ v1 : Nat, Hid (v - 1 = v1) := ⟨_, rfl⟩
  obtain ⟨v12, Hv12⟩ : ∃ v12 : Nat, Hid (v - 12 = v12) := ⟨_, rfl⟩
  have ev := Hv.out
  have eV := HV.out
  have eT := HT.out
  have ev1 := Hv1.out
  have ev12 := Hv12.out
  have v13 : 13 ≤ v := by omega
  have v19 : v ≤ 19 := by omega
  have y1 : IntKind.i64.wrap (13 + (l : Int)) = (v : Int) := by rw [IntKind.wrap_i64]; omega
  have y2 : 13 + (l : Int) = (v : Int) := by omega
  have y3 : IntKind.i64.wrap (v : Int) = (v : Int) := by rw [IntKind.wrap_i64]; omega
  have j1 : IntKind.i64.wrap (49 + (i6 : Int)) = (V : Int) := by rw [IntKind.wrap_i64]; omega
  have j2 : 49 + (i6 : Int) = (V : Int) := by omega
  have j3 : IntKind.i64.wrap (V : Int) = (V : Int) := by rw [IntKind.wrap_i64]; omega
  have j4 : IntKind.u8.wrap (V : Int) = (V : Int) := by rw [Lib0.wrap_u8 _ (by omega) (by omega)]
  have h1 : IntKind.i64.wrap (48 + (t10 : Int)) = (T : Int) := by rw [IntKind.wrap_i64]; omega
  have h2 : 48 + (t10 : Int) = (T : Int) := by omega
  have h3 : IntKind.i64.wrap (T : Int) = (T : Int) := by rw [IntKind.wrap_i64]; omega
  have h4 : IntKind.u8.wrap (T : Int) = (T : Int) := by rw [Lib0.wrap_u8 _ (by omega) (by omega)]
  have s1 : IntKind.i64.wrap ((v : Int) - 1) = (v1 : Int) := by rw [IntKind.wrap_i64]; omega
  have s1' : (v : Int) - 1 = (v1 : Int) := by omega
  have s1'' : IntKind.i64.wrap (v1 : Int) = (v1 : Int) := by rw [IntKind.wrap_i64]; omega
  have s2 : IntKind.i64.wrap ((v : Int) - 12) = (v12 : Int) := by rw [IntKind.wrap_i64]; omega
  have s2' : (v : Int) - 12 = (v12 : Int) := by omega
  have s2'' : IntKind.i64.wrap (v12 : Int) = (v12 : Int) := by rw [IntKind.wrap_i64]; omega
  have D1 := fun u => La.digits_any a0 4 (by decide) w0 u
  have D2 := fun u => La.digits_any a1 v (by omega) w1 u
  have D3 := fun u => La.digits_any a5 m (by omega) w5 u
  have F1 := fun u => Fi.fit_any a3 16 (by decide) u
  have hI := Bv.idx_one V (by omega) (by omega)
  have hL := Bv.dg_one T (by omega) (by omega)
  have cI := fun u g hg => Bv.conv_at V (by omega) u g hg
  have cL := fun u g hg => Bv.conv_at T (by omega) u g hg
  have m8 : m ≤ 8 := by omega
  obtain ⟨I, HI⟩ : ∃ I : ByteArray, Hid ((⟨#[UInt8.ofNat V]⟩ : ByteArray) = I) := ⟨_, rfl⟩
  obtain ⟨L, HL⟩ : ∃ L : ByteArray, Hid ((⟨#[UInt8.ofNat T]⟩ : ByteArray) = L) := ⟨_, rfl⟩
  have L1 : L.size = 1 := by rw [← HL.out]; rfl
  rw [HI.out] at hI cI
  rw [HL.out] at hL cL
  clear el ei em et l7 i6b t10b ev eV eT
  go_enter Try.func4, Try.ntmps4
  go_wp2_with fail
  refine (KN _).mono ?_
  rintro e z1 ⟨rfl, k1⟩
  go_wp2_with fail
  refine (D1 _).mono ?_
  rintro e z2 ⟨p, rfl, ps, pa, k2⟩
  go_wp2_with fail
  refine (P1 _).mono ?_
  rintro e u ⟨rfl, hu⟩
  rw [hu]
  clear hu u
  go_wp2_with fail
  refine (D2 _).mono ?_
  rintro e z3 ⟨q, rfl, qs, qa, k3⟩
  go_wp2_with fail
  refine (F1 _).mono ?_
  rintro e z4 ⟨k, rfl, ks, k4⟩
  go_wp2_with fail
  refine (P2 _).mono ?_
  rintro e u ⟨rfl, hu⟩
  rw [hu]
  clear hu u
  have hq := Fx.pan_of q v qs v13 v19 qa
  have K4 := Cb.keepB (Cb.keepB (Cb.keepB k1 k2) k3) k4
  have cv := cI (z4.alloc (Obj.cells #[.int .u8 (V : Int)] 5)) z4.heap.size (Cb.h1_0 z4 _)
  have K5 := Cb.keepB K4 (Cb.below_one z4 (Obj.cells #[.int .u8 (V : Int)] 5))
  have HP : Hid (p.size = 4 ∧ Pp.adg p = true ∧ q.size = v ∧ k.size = 16 ∧ Pp.panB q = true) := ⟨ps, pa, qs, ks, hq⟩
  clear k1 k2 k3 k4 K4 ps pa qs qa ks hq
  obtain ⟨R, r4, ra, V0, V1, V2, V3⟩ := Bv.four k q I p L HP.out.2.2.2.1 HP.out.2.2.2.2 hI HP.out.1 HP.out.2.1 L1 hL
  have V1' := fun (D : ByteArray) hD1 hD2 => V1 D m hD1 m8 hD2
  rw [HP.out.2.2.1, ev1] at V2
  rw [HP.out.2.2.1, ev12] at V3
  have NU := fun u => Br.number_any R u (by unfold maxLen; omega)
  rw [ra] at NU
  have R4 : ((R.size : Int) == 4) = true := by rw [r4]; rfl
  have HR : Hid (R.size = 4) := r4
  have q1 : (v1 : Int) ≤ (q.size : Int) := by have := HP.out.2.2.1; omega
  have q2 : (v12 : Int) ≤ (q.size : Int) := by have := HP.out.2.2.1; omega
  have q3 : (0 : Int) ≤ (v1 : Int) := by omega
  have q4 : (0 : Int) ≤ (v12 : Int) := by omega
  have qv : Hid (q.size = v) := HP.out.2.2.1
  have n1 : ¬ 9223372036854775807 < (q.extract 0 v1).size + L.size := by rw [ByteArray.size_extract, L1, qv.out]; omega
  have n2 : ¬ 9223372036854775807 < (⟨#[55]⟩ : ByteArray).size + (q.extract v12 v).size := by rw [ByteArray.size_extract, qv.out]; show ¬ _ < 1 + _; omega
  have n2' : ¬ 9223372036854775807 < 1 + (q.extract v12 v).size := n2
  have ex : q.extract v12 q.size = q.extract v12 v := by rw [qv.out]
  clear V1 r4 ra ev1 ev12 hI hL
  go_wp2_with fail
  refine (V0 _).mono ?_
  rintro e z5 ⟨rfl, k5⟩
  go_wp2_with fail
  refine (P3 _).mono ?_
  rintro e u ⟨rfl, hu⟩
  rw [hu]
  clear hu u
  go_wp2_with fail
  refine (D3 _).mono ?_
  rintro e z6 ⟨D, rfl, ds, da, k6⟩
  have n3 : ¬ 9223372036854775807 < p.size + D.size := by have := HP.out.1; omega
  have V1D := V1' D ds da
  clear ds da V1'
  go_wp2_with fail
  refine (V1D _).mono ?_
  rintro e z7 ⟨rfl, k7⟩
  have K7 := Cb.keepB (Cb.keepB (Cb.keepB K5 k5) k6) k7
  clear K5 k5 k6 k7 cv
  go_wp2_with fail
  have cv := cL (z7.alloc (Obj.cells #[.int .u8 (T : Int)] 5)).drew z7.heap.size (Cb.h1_0 z7 _)
  have K8 := Cb.keepB K7 ((Cb.below_one z7 (Obj.cells #[.int .u8 (T : Int)] 5)).drew)
  go_region_with (first
    | (go_at_call 9; refine (P4 _).mono ?_; rintro e u ⟨rfl, hu⟩; rw [hu]; clear hu u)
    | (go_at_call 14; refine (V2 _).mono ?_; rintro e z8 ⟨rfl, k8⟩))
  all_goals
    go_wp2_with fail
    refine (V3 _).mono ?_
    rintro e z9 ⟨rfl, k9⟩
    go_wp2_with fail
    refine (NU _).mono ?_
    rintro e u ⟨rfl, hu⟩
    rw [hu]
    clear hu u
    go_wp2
    go_ret
    exact ⟨by simp, Cb.keepB (Cb.keepB K8 k8) k9⟩

set_option maxRecDepth 100000 in
theorem contract (H : Type) (enc : TypeId × Value → H) (W : World) (base : Nat) (args : Array Value) (ds gs : List (DataW H)) (before : List MemPlace)
    (hval : ∀ (j : Nat) t v, Try.f4.params[j]? = some t → args[j]? = some v → Value.okWide Try.prog W .any base t v)
    (hW : DataW.Whole enc Try.prog Try.f4.params.toList Rows.pinValueSpec.vars false W args.toList ds gs before) :
    Calls Try.prog 4 args W fun e W' => ∃ v, e = .returned v ∧ Rows.pinValueSpec.post enc Try.prog Try.f4 false true false false W args v W' := by
  have hW' := hW
  obtain ⟨p, q, hA0, hV, rfl, hfz, hnd⟩ := hW
  have hA : DataW.TrodAll enc Try.prog W 0 (fun _ => true) true Try.f4.params.toList args.toList ds p := hA0
  rw [Try.params4] at hA hval
  obtain ⟨v0, vs0, d0, ds0, p0, q0, hargs, rfl, rfl, h0, r0⟩ := trodAll_cons hA
  obtain ⟨v1, vs1, d1, ds1, p1, q1, rfl, rfl, rfl, h1, r1⟩ := trodAll_cons r0
  obtain ⟨v2, vs2, d2, ds2, p2, q2, rfl, rfl, rfl, h2, r2⟩ := trodAll_cons r1
  obtain ⟨v3, vs3, d3, ds3, p3, q3, rfl, rfl, rfl, h3, r3⟩ := trodAll_cons r2
  obtain ⟨v4, vs4, d4, ds4, p4, q4, rfl, rfl, rfl, h4, r4⟩ := trodAll_cons r3
  obtain ⟨v5, vs5, d5, ds5, p5, q5, rfl, rfl, rfl, h5, r5⟩ := trodAll_cons r4
  obtain ⟨v6, vs6, d6, ds6, p6, q6, rfl, rfl, rfl, h6, r6⟩ := trodAll_cons r5
  obtain ⟨v7, vs7, d7, ds7, p7, q7, rfl, rfl, rfl, h7, r7⟩ := trodAll_cons r6
  obtain ⟨rfl, rfl, rfl⟩ := trodAll_nil r7
  obtain rfl : args = #[v0, v1, v2, v3, v4, v5, v6, v7] := by cases args; simp_all
  obtain ⟨rfl, rfl⟩ := trodVars_none hV
  obtain ⟨a0, rfl, rfl, rfl, w0⟩ := open_string Try.underlying9 (hval 0 9 v0 rfl rfl) h0
  obtain ⟨a1, rfl, rfl, rfl, w1⟩ := open_string Try.underlying9 (hval 1 9 v1 rfl rfl) h1
  obtain ⟨a2, rfl, rfl, rfl, w2⟩ := open_int Try.underlying3 (hval 2 3 v2 rfl rfl) h2
  obtain ⟨a3, rfl, rfl, rfl, w3⟩ := open_string Try.underlying9 (hval 3 9 v3 rfl rfl) h3
  obtain ⟨a4, rfl, rfl, rfl, w4⟩ := open_int Try.underlying3 (hval 4 3 v4 rfl rfl) h4
  obtain ⟨a5, rfl, rfl, rfl, w5⟩ := open_string Try.underlying9 (hval 5 9 v5 rfl rfl) h5
  obtain ⟨a6, rfl, rfl, rfl, w6⟩ := open_int Try.underlying3 (hval 6 3 v6 rfl rfl) h6
  obtain ⟨a7, rfl, rfl, rfl, w7⟩ := open_int Try.underlying3 (hval 7 3 v7 rfl rfl) h7
  clear hA0
  refine (walk a0 a1 a2 a3 a4 a5 a6 a7 W w0 w1 w2 w3 w4 w5 w6 w7).mono fun e W' ⟨he, bel⟩ => ?_
  subst he
  exact ⟨_, rfl, _, _, _, [], _, [], hW', trodAll_mk1 (shut_bool Try.underlying4 _), (trodAll_cons_mk (shut_string Try.underlying9 w0) (trodAll_cons_mk (shut_string Try.underlying9 w1) (trodAll_cons_mk (shut_int Try.underlying3 w2) (trodAll_cons_mk (shut_string Try.underlying9 w3) (trodAll_cons_mk (shut_int Try.underlying3 w4) (trodAll_cons_mk (shut_string Try.underlying9 w5) (trodAll_cons_mk (shut_int Try.underlying3 w6) (trodAll_cons_mk (shut_int Try.underlying3 w7) trodAll_mk0)))))))), rfl, bel.frame _, fun h => by cases h⟩

set_option maxRecDepth 100000 in
theorem lifted (os : Os) (started : os.Started) (H : Type) (enc : TypeId × Value → H) :
    ReturnsInHanded {} Try.checked os 4 .any (Rows.pinValueSpec.pre6 enc Try.prog Try.f4 Rows.pinValueRow.domain false) (Rows.pinValueSpec.post enc Try.prog Try.f4 false true false false) := by
  refine returnsInHanded_of_change (C := Try.checked) own started (by kernel_rfl) Try.func4
    (ChangeSpec.witness6 (enc := enc) (C := Try.checked) false ⟨#[], #[.string .empty, .string .empty, .int .i64 0, .string .empty, .int .i64 0, .string .empty, .int .i64 0, .int .i64 0], []⟩ 8 (by kernel_rfl) (by kernel_rfl) (by kernel_rfl) (by kernel_rfl)) ?_
  intro W base args ds gs before hval hW _ _
  exact contract H enc W base args ds gs before hval hW

theorem proved : Rows.PinValueSaid :=
  OpenClaim.holds_of_wide 4 Try.f4 rfl rfl rfl rfl rfl rfl rfl ⟨rfl, rfl, rfl, rfl, rfl⟩ rfl rfl rfl rfl rfl (by kernel_rfl) Try.func4 (by kernel_rfl)
    (of_decide_eq_true (by kernel_rfl)) (by unfold Func.isWrapper; first | (rw [if_pos (by decide +kernel)]; kernel_rfl) | (rw [if_neg (by decide +kernel)]; exact ⟨rfl, rfl⟩))
    (fun os started H enc _ => lifted os started H enc)
#print axioms proved
end Go.Proofs.Ytciblmdpngnakab.pinValue
