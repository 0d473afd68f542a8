/- MoneyConverts: the law out of the contracts; the frame of the row. -/
import Derived.Test.YtgojcebdlafbeaaRows
import Derived.WalkKit
import Derived.ProofKit
import Derived.OpenShut
import Derived.ShutString
import Derived.ChangeOld
import Derived.Below
import Derived.JoinedCond
import Derived.Carry
import Derived.SizedLaws
import Derived.Test.YtgojcebdlafbeaaRc
import Derived.Test.YtgojcebdlafbeaaNm
namespace Go.Proofs.Ytgojcebdlafbeaa.moneyConverts
open Go.ChangeShapes Go.WideShapes Go.ChangeAt Go.RowKit
open Go.ChangeMaps (open_string shut_string)
set_option linter.unusedVariables false

theorem own : ownKnob Try.prog.godebug = none := by kernel_rfl

theorem tdiv27 (c : Int) (h1 : -9223372036854775808 ≤ c) (h2 : c ≤ 9223372036854775807) : -9223372036854775808 ≤ c.tdiv 27 ∧ c.tdiv 27 ≤ 9223372036854775807 := by
  by_cases h : 0 ≤ c
  · rw [Int.tdiv_eq_ediv_of_nonneg h]; omega
  · obtain ⟨b, rfl⟩ : ∃ b, c = -b := ⟨-c, by omega⟩
    rw [Int.neg_tdiv, Int.tdiv_eq_ediv_of_nonneg (by omega)]; omega
set_option maxRecDepth 100000 in
set_option maxHeartbeats 1600000 in
theorem walk (a0 : Int) (a1 : ByteArray) (a2 : ByteArray) (a3 : ByteArray) (a4 : Int) (w : World) (w0 : (Lit.int .i64 a0).wf = true) (w1 : a1.size ≤ maxLen) (w2 : a2.size ≤ maxLen) (w3 : a3.size ≤ maxLen) (w4 : (Lit.int .i64 a4).wf = true) :
    Calls Try.prog 4 #[.int .i64 a0, .string a1, .string a2, .string a3, .int .i64 a4] w fun e w' => e = .returned (.bool true) ∧ Below w.heap.size w w' := by
  have a01 := (bounds_i64 w0).1
  have a02 := (bounds_i64 w0).2
  have a41 := (bounds_i64 w4).1
  have a42 := (bounds_i64 w4).2
  have p0 := fun w => Cx.convert_any 1000 ⟨#[56, 52, 48]⟩ ⟨#[57, 55, 56]⟩ ⟨#[52, 48, 48, 48, 57, 50, 48, 48]⟩ (by decide) (by decide) (by decide) (by decide) (by decide) w
  have v1 : Cx.cvV 1000 [56, 52, 48] [57, 55, 56] [52, 48, 48, 48, 57, 50, 48, 48] = 920 := by decide
  have v2 : Cx.cvE 1000 [56, 52, 48] [57, 55, 56] [52, 48, 48, 48, 57, 50, 48, 48] = 0 := by decide
  have p0' : ∀ w, Calls Try.prog 12 #[.int .i64 1000, .string ⟨#[56, 52, 48]⟩, .string ⟨#[57, 55, 56]⟩, .string ⟨#[52, 48, 48, 48, 57, 50, 48, 48]⟩] w fun e w' => e = .returned (.tuple #[.int .i64 920, .int .i64 0]) ∧ Below w.heap.size w w' := by
    intro w
    have := p0 w
    rw [show (⟨#[56, 52, 48]⟩ : ByteArray).data.toList = [56, 52, 48] from rfl, show (⟨#[57, 55, 56]⟩ : ByteArray).data.toList = [57, 55, 56] from rfl, show (⟨#[52, 48, 48, 48, 57, 50, 48, 48]⟩ : ByteArray).data.toList = [52, 48, 48, 48, 57, 50, 48, 48] from rfl, v1, v2] at this
    exact this
  clear p0 v1 v2
  have p1 := fun w => Cx.convert_any a0 a1 a2 a3 a01 a02 w1 w2 w3 w
  have r1 := fun w => Rc.convertr_any a0 a1 a2 a3 w
  have hd1 : -9223372036854775808 ≤ a4.tdiv 27 := (tdiv27 a4 a41 a42).1
  have hd2 : a4.tdiv 27 ≤ 9223372036854775807 := (tdiv27 a4 a41 a42).2
  have c1 := fun w => Nm.currency_any a4 a41 a42 w
  have c2 := fun w => Nm.currency_any (a4.tdiv 27) hd1 hd2 w
  have p2 := fun w => Cx.convert_any a0 (Nm.cu a4) (Nm.cu (a4.tdiv 27)) a3 a01 a02 (Nm.cu_size _) (Nm.cu_size _) w3 w
  have r2 := fun w => Rc.convertr_any a0 (Nm.cu a4) (Nm.cu (a4.tdiv 27)) a3 w
  have wd : IntKind.i64.wrap (a4.tdiv 27) = a4.tdiv 27 := by simp [IntKind.wrap, IntKind.signed, IntKind.bits]; omega
  generalize Cx.cvV a0 a1.data.toList a2.data.toList a3.data.toList = V1 at *
  generalize Cx.cvE a0 a1.data.toList a2.data.toList a3.data.toList = E1 at *
  generalize Cx.cvV a0 (Nm.cu a4).data.toList (Nm.cu (a4.tdiv 27)).data.toList a3.data.toList = V2 at *
  generalize Cx.cvE a0 (Nm.cu a4).data.toList (Nm.cu (a4.tdiv 27)).data.toList a3.data.toList = E2 at *
  generalize Nm.cu (a4.tdiv 27) = Y at *
  generalize Nm.cu a4 = X at *
  clear hd1 hd2 a01 a02 a41 a42
  go_enter Try.func4, Try.ntmps4
  go_wp2_with fail
  refine (p0' _).mono ?_
  rintro e y1 ⟨rfl, b1⟩
  go_wp2_with fail
  refine (p1 _).mono ?_
  rintro e y2 ⟨rfl, b2⟩
  have B2 := Kb.keepB b1 b2
  clear b1 b2
  go_wp2_with fail
  refine (r1 _).mono ?_
  rintro e y3 ⟨rfl, b3⟩
  have B3 := Kb.keepB B2 b3
  clear B2 b3
  go_wp2_with fail
  refine (c1 _).mono ?_
  rintro e y4 ⟨rfl, b4⟩
  have B4 := Kb.keepB B3 b4
  clear B3 b4
  go_wp2_with fail
  refine (c2 _).mono ?_
  rintro e y5 ⟨rfl, b5⟩
  have B5 := Kb.keepB B4 b5
  clear B4 b5
  go_wp2_with fail
  refine (p2 _).mono ?_
  rintro e y6 ⟨rfl, b6⟩
  have B6 := Kb.keepB B5 b6
  clear B5 b6
  go_wp2_with fail
  refine (r2 _).mono ?_
  rintro e y7 ⟨rfl, b7⟩
  have B7 := Kb.keepB B6 b7
  clear B6 b7
  go_wp2_with fail
  go_ret
  exact ⟨rfl, B7⟩

set_option maxRecDepth 100000 in
theorem contract (H : Type) (enc : TypeId × Value → H) (W : World) (base : Nat) (args : Array Value) (ds gs : List (DataW H)) (before : List MemPlace)
    (hval : ∀ (j : Nat) t v, Try.f4.params[j]? = some t → args[j]? = some v → Value.okWide Try.prog W .any base t v)
    (hW : DataW.Whole enc Try.prog Try.f4.params.toList Rows.moneyConvertsSpec.vars false W args.toList ds gs before) :
    Calls Try.prog 4 args W fun e W' => ∃ v, e = .returned v ∧ Rows.moneyConvertsSpec.post enc Try.prog Try.f4 false true false false W args v W' := by
  have hW' := hW
  obtain ⟨p, q, hA0, hV, rfl, hfz, hnd⟩ := hW
  have hA : DataW.TrodAll enc Try.prog W 0 (fun _ => true) true Try.f4.params.toList args.toList ds p := hA0
  rw [Try.params4] at hA hval
  obtain ⟨v0, vs0, d0, ds0, p0, q0, hargs, rfl, rfl, h0, r0⟩ := trodAll_cons hA
  obtain ⟨v1, vs1, d1, ds1, p1, q1, rfl, rfl, rfl, h1, r1⟩ := trodAll_cons r0
  obtain ⟨v2, vs2, d2, ds2, p2, q2, rfl, rfl, rfl, h2, r2⟩ := trodAll_cons r1
  obtain ⟨v3, vs3, d3, ds3, p3, q3, rfl, rfl, rfl, h3, r3⟩ := trodAll_cons r2
  obtain ⟨v4, vs4, d4, ds4, p4, q4, rfl, rfl, rfl, h4, r4⟩ := trodAll_cons r3
  obtain ⟨rfl, rfl, rfl⟩ := trodAll_nil r4
  obtain rfl : args = #[v0, v1, v2, v3, v4] := by cases args; simp_all
  obtain ⟨rfl, rfl⟩ := trodVars_none hV
  obtain ⟨a0, rfl, rfl, rfl, w0⟩ := open_int Try.underlying3 (hval 0 3 v0 rfl rfl) h0
  obtain ⟨a1, rfl, rfl, rfl, w1⟩ := open_string Try.underlying9 (hval 1 9 v1 rfl rfl) h1
  obtain ⟨a2, rfl, rfl, rfl, w2⟩ := open_string Try.underlying9 (hval 2 9 v2 rfl rfl) h2
  obtain ⟨a3, rfl, rfl, rfl, w3⟩ := open_string Try.underlying9 (hval 3 9 v3 rfl rfl) h3
  obtain ⟨a4, rfl, rfl, rfl, w4⟩ := open_int Try.underlying3 (hval 4 3 v4 rfl rfl) h4
  clear hA0
  refine (walk a0 a1 a2 a3 a4 W w0 w1 w2 w3 w4).mono fun e W' ⟨he, bel⟩ => ?_
  subst he
  exact ⟨_, rfl, _, _, _, [], _, [], hW', trodAll_mk1 (shut_bool Try.underlying4 _), (trodAll_cons_mk (shut_int Try.underlying3 w0) (trodAll_cons_mk (shut_string Try.underlying9 w1) (trodAll_cons_mk (shut_string Try.underlying9 w2) (trodAll_cons_mk (shut_string Try.underlying9 w3) (trodAll_cons_mk (shut_int Try.underlying3 w4) trodAll_mk0))))), rfl, bel.frame _, fun h => by cases h⟩

set_option maxRecDepth 100000 in
theorem lifted (os : Os) (started : os.Started) (H : Type) (enc : TypeId × Value → H) :
    ReturnsInHanded {} Try.checked os 4 .any (Rows.moneyConvertsSpec.pre6 enc Try.prog Try.f4 Rows.moneyConvertsRow.domain false) (Rows.moneyConvertsSpec.post enc Try.prog Try.f4 false true false false) := by
  refine returnsInHanded_of_change (C := Try.checked) own started (by kernel_rfl) Try.func4
    (ChangeSpec.witness6 (enc := enc) (C := Try.checked) false ⟨#[], #[.int .i64 0, .string .empty, .string .empty, .string .empty, .int .i64 0], []⟩ 8 (by kernel_rfl) (by kernel_rfl) (by kernel_rfl) (by kernel_rfl)) ?_
  intro W base args ds gs before hval hW _ _
  exact contract H enc W base args ds gs before hval hW

theorem proved : Rows.MoneyConvertsSaid :=
  OpenClaim.holds_of_wide 4 Try.f4 rfl rfl rfl rfl rfl rfl rfl ⟨rfl, rfl, rfl, rfl, rfl⟩ rfl rfl rfl rfl rfl (by kernel_rfl) Try.func4 (by kernel_rfl)
    (of_decide_eq_true (by kernel_rfl)) (by unfold Func.isWrapper; first | (rw [if_pos (by decide +kernel)]; kernel_rfl) | (rw [if_neg (by decide +kernel)]; exact ⟨rfl, rfl⟩))
    (fun os started H enc _ => lifted os started H enc)
#print axioms proved
end Go.Proofs.Ytgojcebdlafbeaa.moneyConverts
