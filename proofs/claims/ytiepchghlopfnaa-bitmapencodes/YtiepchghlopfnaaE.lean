/- BitmapEncodes: the law out of the contracts; the frame of the row. -/
import Derived.Test.YtiepchghlopfnaaRows
import Derived.WalkKit
import Derived.ProofKit
import Derived.OpenShut
import Derived.ShutString
import Derived.ChangeOld
import Derived.Below
import Derived.JoinedCond
import Derived.Carry
import Derived.Test.YtiepchghlopfnaaOm
import Derived.Test.YtiepchghlopfnaaEx
import Derived.Test.YtiepchghlopfnaaEq
namespace Go.Proofs.Ytiepchghlopfnaa.bitmapEncodes
open Go.ChangeShapes Go.WideShapes Go.ChangeAt Go.RowKit
open Go.ChangeMaps (open_string shut_string)
set_option linter.unusedVariables false

theorem own : ownKnob Try.prog.godebug = none := by kernel_rfl

set_option maxRecDepth 100000 in
set_option maxHeartbeats 1600000 in
theorem walk (a0 : Int) (a1 b1 : Nat) (w : World) (w0 : (Lit.int .i64 a0).wf = true) (w1 : a1 < 18446744073709551616) (x1 : b1 < 18446744073709551616) :
    Calls Try.prog 6 #[.int .i64 a0, .agg #[.int .u64 (a1 : Int), .int .u64 (b1 : Int)]] w fun e w' => e = .returned (.bool true) ∧ Below w.heap.size w w' := by
  have px := fun w => Ex.examples_any w
  have p1 := fun w => Eo.encode_any a0 a1 b1 w1 x1 w
  have p2 := fun w => Bw.row_any a1 b1 w1 x1 w
  have p3 := fun w => Re.refEncode_any a0 (Pla.rowF a1 b1) w
  rw [← Eq.enc_like a0 a1 b1 w1 x1] at p3
  generalize (Eo.encV a0 a1 b1).2 = E at *
  generalize ByteArray.mk (Eo.encV a0 a1 b1).1.toArray = T at *
  generalize Pla.rowC (Pla.rowF a1 b1) = C0 at *
  clear w0 w1 x1
  go_enter Try.func6, Try.ntmps6
  go_wp2_with (first
    | (go_at_call 9; refine (px _).mono ?_; rintro e x ⟨rfl, h1⟩; obtain ⟨c0, c1, cf0, cf1⟩ := Bm.held2 h1 (Bm.h1_0 w _); have m1 := Bm.kept h1 (Bm.h1_0 w _))
    | (go_at_call 32; refine (p1 _).mono ?_; rintro e y ⟨rfl, h2⟩; obtain ⟨d0, d1, df0, df1⟩ := Bm.held2 h2 m1; have m2 := Bm.kept h2 m1)
    | (go_at_call 15; refine (p2 _).mono ?_; rintro e z ⟨rfl, h3⟩)
    | (go_at_call 33; refine (p3 _).mono ?_; rintro e u ⟨rfl, h4⟩))
  go_ret
  exact ⟨rfl, Bm.keepB (Bm.keepB (Bm.keepB (Bm.keepB (Bm.below_one w _) h1) h2) h3) h4⟩

theorem contract (H : Type) (enc : TypeId × Value → H) (W : World) (base : Nat) (args : Array Value) (ds gs : List (DataW H)) (before : List MemPlace)
    (hval : ∀ (j : Nat) t v, Try.f6.params[j]? = some t → args[j]? = some v → Value.okWide Try.prog W .any base t v)
    (hW : DataW.Whole enc Try.prog Try.f6.params.toList Rows.bitmapEncodesSpec.vars false W args.toList ds gs before) :
    Calls Try.prog 6 args W fun e W' => ∃ v, e = .returned v ∧ Rows.bitmapEncodesSpec.post enc Try.prog Try.f6 false true false false W args v W' := by
  have hW' := hW
  obtain ⟨p, q, hA0, hV, rfl, hfz, hnd⟩ := hW
  have hA : DataW.TrodAll enc Try.prog W 0 (fun _ => true) true Try.f6.params.toList args.toList ds p := hA0
  rw [Try.params6] at hA hval
  obtain ⟨v0, vs0, d0, ds0, p0, q0, hargs, rfl, rfl, h0, r0⟩ := trodAll_cons hA
  obtain ⟨v1, vs1, d1, ds1, p1, q1, rfl, rfl, rfl, h1, r1⟩ := trodAll_cons r0
  obtain ⟨rfl, rfl, rfl⟩ := trodAll_nil r1
  obtain rfl : args = #[v0, v1] := by cases args; simp_all
  obtain ⟨rfl, rfl⟩ := trodVars_none hV
  obtain ⟨a0, rfl, rfl, rfl, w0⟩ := open_int Try.underlying3 (hval 0 3 v0 rfl rfl) h0
  obtain ⟨a1, b1, rfl, rfl, rfl, w1, x1⟩ := Om.open_map (hval 1 27 v1 rfl rfl) h1
  clear hA0
  refine (walk a0 a1 b1 W w0 w1 x1).mono fun e W' ⟨he, bel⟩ => ?_
  subst he
  exact ⟨_, rfl, _, _, _, [], _, [], hW', trodAll_mk1 (shut_bool Try.underlying4 _), (trodAll_cons_mk (shut_int Try.underlying3 w0) (trodAll_cons_mk (Om.shut_map w1 x1) trodAll_mk0)), rfl, bel.frame _, fun h => by cases h⟩

set_option maxRecDepth 100000 in
theorem lifted (os : Os) (started : os.Started) (H : Type) (enc : TypeId × Value → H) :
    ReturnsInHanded {} Try.checked os 6 .any (Rows.bitmapEncodesSpec.pre6 enc Try.prog Try.f6 Rows.bitmapEncodesRow.domain false) (Rows.bitmapEncodesSpec.post enc Try.prog Try.f6 false true false false) := by
  refine returnsInHanded_of_change (C := Try.checked) own started (by kernel_rfl) Try.func6
    (ChangeSpec.witness6 (enc := enc) (C := Try.checked) false ⟨#[], #[.int .i64 0, .agg #[.int .u64 0, .int .u64 0]], []⟩ 8 (by kernel_rfl) (by kernel_rfl) (by kernel_rfl) (by kernel_rfl)) ?_
  intro W base args ds gs before hval hW _ _
  exact contract H enc W base args ds gs before hval hW

theorem proved : Rows.BitmapEncodesSaid :=
  OpenClaim.holds_of_wide 6 Try.f6 rfl rfl rfl rfl rfl rfl rfl ⟨rfl, rfl, rfl, rfl, rfl⟩ rfl rfl rfl rfl rfl (by kernel_rfl) Try.func6 (by kernel_rfl)
    (of_decide_eq_true (by kernel_rfl)) (by unfold Func.isWrapper; first | (rw [if_pos (by decide +kernel)]; kernel_rfl) | (rw [if_neg (by decide +kernel)]; exact ⟨rfl, rfl⟩))
    (fun os started H enc _ => lifted os started H enc)
#print axioms proved
end Go.Proofs.Ytiepchghlopfnaa.bitmapEncodes
