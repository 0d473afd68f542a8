/- PinBack: the law out of the contracts; the frame of the row. -/
import Derived.Test.YtciblmdpngnakaaRows
import Derived.WalkKit
import Derived.ProofKit
import Derived.OpenShut
import Derived.ShutString
import Derived.ChangeOld
import Derived.Below
import Derived.JoinedCond
import Derived.Carry
import Derived.SizedLaws
import Derived.Test.YtciblmdpngnakaaFx
namespace Go.Proofs.Ytciblmdpngnakaa.pinBack
open Go.ChangeShapes Go.WideShapes Go.ChangeAt Go.RowKit
open Go.ChangeMaps (open_string shut_string)
set_option linter.unusedVariables false

theorem own : ownKnob Try.prog.godebug = none := by kernel_rfl

set_option maxRecDepth 100000 in
set_option maxHeartbeats 1600000 in
theorem walk (a0 : Int) (a1 : ByteArray) (a2 : Int) (a3 : ByteArray) (a4 : Int) (a5 : ByteArray) (a6 : ByteArray) (w : World) (w0 : (Lit.int .i64 a0).wf = true) (w1 : a1.size ≤ maxLen) (w2 : (Lit.int .i64 a2).wf = true) (w3 : a3.size ≤ maxLen) (w4 : (Lit.int .i64 a4).wf = true) (w5 : a5.size ≤ maxLen) (w6 : a6.size ≤ maxLen) :
    Calls Try.prog 5 #[.int .i64 a0, .string a1, .int .i64 a2, .string a3, .int .i64 a4, .string a5, .string a6] w fun e w' => e = .returned (.bool true) ∧ Below w.heap.size w w' := by
  have bnd : ∀ {x : Int}, (Lit.int .i64 x).wf = true → -9223372036854775808 ≤ x ∧ x ≤ 9223372036854775807 := by
    intro x h; simp [Lit.wf, IntKind.min, IntKind.max, IntKind.signed, IntKind.bits] at h; omega
  have KN := fun u => Py.known_any u
  have WH := fun u => La.which_any a0 (bnd w0).1 (bnd w0).2 u
  have hk := La.wh_kn a0
  have f3 : 0 ≤ La.wh a0 ∧ La.wh a0 ≤ 3 := by have := (Pp.kn_iff _).1 hk; omega
  obtain ⟨m, m9, em⟩ := Fx.picked a2 9 (by decide)
  obtain ⟨l, l7, el⟩ := Fx.picked a4 7 (by decide)
  have P1 := fun u => Pick.pick_any a2 9 u (bnd w2).1 (bnd w2).2 (by decide) (by decide)
  have P2 := fun u => Pick.pick_any a4 7 u (bnd w4).1 (bnd w4).2 (by decide) (by decide)
  rw [show Pick.pickOf a2 9 = (m : Int) from em] at P1
  rw [show Pick.pickOf a4 7 = (l : Int) from el] at P2
  obtain ⟨n, Hn⟩ : ∃ n : Nat, Hid (4 + m = n) := ⟨_, rfl⟩
  obtain ⟨v, Hv⟩ : ∃ v : Nat, Hid (13 + l = v) := ⟨_, rfl⟩
  have en := Hn.out
  have ev := Hv.out
  have n4 : 4 ≤ n := by omega
  have n12 : n ≤ 12 := by omega
  have v13 : 13 ≤ v := by omega
  have v19 : v ≤ 19 := by omega
  have x1 : IntKind.i64.wrap (4 + (m : Int)) = (n : Int) := by rw [IntKind.wrap_i64]; omega
  have x2 : 4 + (m : Int) = (n : Int) := by omega
  have x3 : IntKind.i64.wrap (n : Int) = (n : Int) := by rw [IntKind.wrap_i64]; omega
  have y1 : IntKind.i64.wrap (13 + (l : Int)) = (v : Int) := by rw [IntKind.wrap_i64]; omega
  have y2 : 13 + (l : Int) = (v : Int) := by omega
  have y3 : IntKind.i64.wrap (v : Int) = (v : Int) := by rw [IntKind.wrap_i64]; omega
  have D1 := fun u => La.digits_any a1 n (by omega) w1 u
  have D2 := fun u => La.digits_any a3 v (by omega) w3 u
  have F1 := fun u => Fi.fit_any a6 16 (by decide) u
  have G1 := fun u => La.filling_any (La.wh a0) a5 n n12 w5 u
  generalize La.wh a0 = f at *
  clear en ev em el m9 l7
  go_enter Try.func5, Try.ntmps5
  go_wp2_with fail
  refine (KN _).mono ?_
  rintro e z1 ⟨rfl, k1⟩
  go_wp2_with fail
  refine (WH _).mono ?_
  rintro e z2 ⟨rfl, k2⟩
  go_wp2_with fail
  refine (P1 _).mono ?_
  rintro e u ⟨rfl, hu⟩
  rw [hu]
  clear hu u
  go_wp2_with fail
  refine (D1 _).mono ?_
  rintro e z3 ⟨p, rfl, ps, pa, k3⟩
  go_wp2_with fail
  refine (P2 _).mono ?_
  rintro e u ⟨rfl, hu⟩
  rw [hu]
  clear hu u
  go_wp2_with fail
  refine (D2 _).mono ?_
  rintro e z4 ⟨q, rfl, qs, qa, k4⟩
  go_wp2_with fail
  refine (F1 _).mono ?_
  rintro e z5 ⟨k, rfl, ks, k5⟩
  have hp := Fx.pin_of p n ps n4 n12 pa
  have hq := Fx.pan_of q v qs v13 v19 qa
  obtain ⟨B, hB, s8, BA, OA, h0⟩ := Fx.one f p q a5 n hk ps n12 hp hq
  obtain ⟨SA, UA⟩ := Fx.keyed k f p q a5 B n ks hk ps n12 hp hq hB s8
  have NA := fun u => Fx.new16 k ks u
  have EA := fun g u hg => Fx.enc8 k B ks s8 g u hg
  have t8 := Wa.eK_size k B s8
  have b00 : 0 < B.size := by omega
  have g0 := Ph.gb_eq B 0 b00
  have c1 : ((B.size : Int) != 8) = false := by rw [s8]; rfl
  have c2 : (((Wa.eK k B).size : Int) != 8) = false := by rw [t8]; rfl
  have c3 : (0 : Int) < (B.size : Int) := by omega
  have c4 : Int.tdiv ((B[0]'b00).toNat : Int) 16 = f := by rw [Int.tdiv_eq_ediv_of_nonneg (by omega), g0, ← h0]; omega
  have c5 : IntKind.i64.wrap ((B[0]'b00).toNat : Int) = ((B[0]'b00).toNat : Int) := by have := (B[0]'b00).toNat_lt; rw [IntKind.wrap_i64]; omega
  have c6 : IntKind.i64.wrap f = f := by rw [IntKind.wrap_i64]; omega
  have c7 : ((B[0]'b00).toNat : Int) / 16 = f := by rw [g0, ← h0]; omega
  have c8 : ((B[0]'b00).toNat : Int) < 256 := Lib0.toNat_lt _
  have bsz : Hid (B.size = 8 ∧ (Wa.eK k B).size = 8) := ⟨s8, t8⟩
  generalize Wa.eK k B = T at *
  generalize La.filS f a5 n = W at *
  clear h0 g0 s8 t8 ps qs ks hp hq pa qa hB KN WH P1 P2 D1 D2 F1 hk
  go_wp2_with fail
  refine (G1 _).mono ?_
  rintro e z6 ⟨rfl, k6⟩
  go_wp2_with fail
  refine (BA _).mono ?_
  rintro e z7 ⟨rfl, k7⟩
  go_wp2_with fail
  refine (OA _).mono ?_
  rintro e z8 ⟨rfl, k8⟩
  go_wp2_with fail
  refine (G1 _).mono ?_
  rintro e z9 ⟨rfl, k9⟩
  go_wp2_with fail
  refine (SA _).mono ?_
  rintro e z10 ⟨rfl, k10⟩
  go_wp2_with fail
  refine (UA _).mono ?_
  rintro e z11 ⟨rfl, k11⟩
  go_wp2_with fail
  refine (NA _).mono ?_
  rintro e z12 ⟨g, rfl, hg, k12⟩
  go_wp2_with fail
  refine (EA g _ hg).mono ?_
  rintro e z13 ⟨rfl, k13⟩
  go_wp2_with fail
  refine (G1 _).mono ?_
  rintro e z14 ⟨rfl, k14⟩
  go_wp2_with fail
  refine (BA _).mono ?_
  rintro e z15 ⟨rfl, k15⟩
  go_wp2
  go_ret
  exact ⟨by simp, Cb.keepB (Cb.keepB (Cb.keepB (Cb.keepB (Cb.keepB (Cb.keepB (Cb.keepB (Cb.keepB (Cb.keepB (Cb.keepB (Cb.keepB (Cb.keepB (Cb.keepB (Cb.keepB k1 k2) k3) k4) k5) k6) k7) k8) k9) k10) k11) k12) k13) k14) k15⟩

set_option maxRecDepth 100000 in
theorem contract (H : Type) (enc : TypeId × Value → H) (W : World) (base : Nat) (args : Array Value) (ds gs : List (DataW H)) (before : List MemPlace)
    (hval : ∀ (j : Nat) t v, Try.f5.params[j]? = some t → args[j]? = some v → Value.okWide Try.prog W .any base t v)
    (hW : DataW.Whole enc Try.prog Try.f5.params.toList Rows.pinBackSpec.vars false W args.toList ds gs before) :
    Calls Try.prog 5 args W fun e W' => ∃ v, e = .returned v ∧ Rows.pinBackSpec.post enc Try.prog Try.f5 false true false false W args v W' := by
  have hW' := hW
  obtain ⟨p, q, hA0, hV, rfl, hfz, hnd⟩ := hW
  have hA : DataW.TrodAll enc Try.prog W 0 (fun _ => true) true Try.f5.params.toList args.toList ds p := hA0
  rw [Try.params5] at hA hval
  obtain ⟨v0, vs0, d0, ds0, p0, q0, hargs, rfl, rfl, h0, r0⟩ := trodAll_cons hA
  obtain ⟨v1, vs1, d1, ds1, p1, q1, rfl, rfl, rfl, h1, r1⟩ := trodAll_cons r0
  obtain ⟨v2, vs2, d2, ds2, p2, q2, rfl, rfl, rfl, h2, r2⟩ := trodAll_cons r1
  obtain ⟨v3, vs3, d3, ds3, p3, q3, rfl, rfl, rfl, h3, r3⟩ := trodAll_cons r2
  obtain ⟨v4, vs4, d4, ds4, p4, q4, rfl, rfl, rfl, h4, r4⟩ := trodAll_cons r3
  obtain ⟨v5, vs5, d5, ds5, p5, q5, rfl, rfl, rfl, h5, r5⟩ := trodAll_cons r4
  obtain ⟨v6, vs6, d6, ds6, p6, q6, rfl, rfl, rfl, h6, r6⟩ := trodAll_cons r5
  obtain ⟨rfl, rfl, rfl⟩ := trodAll_nil r6
  obtain rfl : args = #[v0, v1, v2, v3, v4, v5, v6] := by cases args; simp_all
  obtain ⟨rfl, rfl⟩ := trodVars_none hV
  obtain ⟨a0, rfl, rfl, rfl, w0⟩ := open_int Try.underlying3 (hval 0 3 v0 rfl rfl) h0
  obtain ⟨a1, rfl, rfl, rfl, w1⟩ := open_string Try.underlying9 (hval 1 9 v1 rfl rfl) h1
  obtain ⟨a2, rfl, rfl, rfl, w2⟩ := open_int Try.underlying3 (hval 2 3 v2 rfl rfl) h2
  obtain ⟨a3, rfl, rfl, rfl, w3⟩ := open_string Try.underlying9 (hval 3 9 v3 rfl rfl) h3
  obtain ⟨a4, rfl, rfl, rfl, w4⟩ := open_int Try.underlying3 (hval 4 3 v4 rfl rfl) h4
  obtain ⟨a5, rfl, rfl, rfl, w5⟩ := open_string Try.underlying9 (hval 5 9 v5 rfl rfl) h5
  obtain ⟨a6, rfl, rfl, rfl, w6⟩ := open_string Try.underlying9 (hval 6 9 v6 rfl rfl) h6
  clear hA0
  refine (walk a0 a1 a2 a3 a4 a5 a6 W w0 w1 w2 w3 w4 w5 w6).mono fun e W' ⟨he, bel⟩ => ?_
  subst he
  exact ⟨_, rfl, _, _, _, [], _, [], hW', trodAll_mk1 (shut_bool Try.underlying4 _), (trodAll_cons_mk (shut_int Try.underlying3 w0) (trodAll_cons_mk (shut_string Try.underlying9 w1) (trodAll_cons_mk (shut_int Try.underlying3 w2) (trodAll_cons_mk (shut_string Try.underlying9 w3) (trodAll_cons_mk (shut_int Try.underlying3 w4) (trodAll_cons_mk (shut_string Try.underlying9 w5) (trodAll_cons_mk (shut_string Try.underlying9 w6) trodAll_mk0))))))), rfl, bel.frame _, fun h => by cases h⟩

set_option maxRecDepth 100000 in
theorem lifted (os : Os) (started : os.Started) (H : Type) (enc : TypeId × Value → H) :
    ReturnsInHanded {} Try.checked os 5 .any (Rows.pinBackSpec.pre6 enc Try.prog Try.f5 Rows.pinBackRow.domain false) (Rows.pinBackSpec.post enc Try.prog Try.f5 false true false false) := by
  refine returnsInHanded_of_change (C := Try.checked) own started (by kernel_rfl) Try.func5
    (ChangeSpec.witness6 (enc := enc) (C := Try.checked) false ⟨#[], #[.int .i64 0, .string .empty, .int .i64 0, .string .empty, .int .i64 0, .string .empty, .string .empty], []⟩ 8 (by kernel_rfl) (by kernel_rfl) (by kernel_rfl) (by kernel_rfl)) ?_
  intro W base args ds gs before hval hW _ _
  exact contract H enc W base args ds gs before hval hW

theorem proved : Rows.PinBackSaid :=
  OpenClaim.holds_of_wide 5 Try.f5 rfl rfl rfl rfl rfl rfl rfl ⟨rfl, rfl, rfl, rfl, rfl⟩ rfl rfl rfl rfl rfl (by kernel_rfl) Try.func5 (by kernel_rfl)
    (of_decide_eq_true (by kernel_rfl)) (by unfold Func.isWrapper; first | (rw [if_pos (by decide +kernel)]; kernel_rfl) | (rw [if_neg (by decide +kernel)]; exact ⟨rfl, rfl⟩))
    (fun os started H enc _ => lifted os started H enc)
#print axioms proved
end Go.Proofs.Ytciblmdpngnakaa.pinBack
