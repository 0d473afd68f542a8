/- BitmapAgain: the law out of the contracts; the frame of the row. -/
import Derived.Test.YtiepchghlopfnabRows
import Derived.WalkKit
import Derived.ProofKit
import Derived.OpenShut
import Derived.ShutString
import Derived.ChangeOld
import Derived.Below
import Derived.JoinedCond
import Derived.Carry
import Derived.Test.YtiepchghlopfnabOm
import Derived.Test.YtiepchghlopfnabEx
import Derived.Test.YtiepchghlopfnabEc
namespace Go.Proofs.Ytiepchghlopfnab.bitmapAgain
open Go.ChangeShapes Go.WideShapes Go.ChangeAt Go.RowKit
open Go.ChangeMaps (open_string shut_string)
set_option linter.unusedVariables false

theorem own : ownKnob Try.prog.godebug = none := by kernel_rfl

set_option maxRecDepth 100000 in
set_option maxHeartbeats 1600000 in
theorem walk (a0 : Int) (a1 : ByteArray) (w : World) (w0 : (Lit.int .i64 a0).wf = true) (w1 : a1.size ≤ maxLen) :
    Calls Try.prog 3 #[.int .i64 a0, .string a1] w fun e w' => e = .returned (.bool true) ∧ Below w.heap.size w w' := by
  have n1 := (bounds_i64 w0).1
  have n2 := (bounds_i64 w0).2
  have hk := Ec.encOf_width a0
  have px := fun w => Ex.examples_any w
  have p1 := fun w => Ec.encoding_any a0 n1 n2 w
  have p2 := fun w => Dv.decode_any (Ec.encOf a0) a1 w1 w
  have hpl := Ag.dec_place (Ec.encOf a0) a1
  have hbad := Ag.dec_bad (Ec.encOf a0) a1
  have hgood := Ag.dec_enc (Ec.encOf a0) a1 hk
  have p3 := fun h1 h2 w => Eo.encode_any (Ec.encOf a0) (De.decV (Ec.encOf a0) a1).1 (De.decV (Ec.encOf a0) a1).2.1 h1 h2 w
  have p4 := fun h1 h2 w => Bm.right_any (De.decV (Ec.encOf a0) a1).1 (De.decV (Ec.encOf a0) a1).2.1 h1 h2 w
  generalize Ec.encOf a0 = k at *
  generalize (De.decV k a1).1 = F at *
  generalize (De.decV k a1).2.1 = S at *
  generalize (De.decV k a1).2.2.1 = E at *
  generalize (De.decV k a1).2.2.2 = n at *
  clear hk w0 n1 n2
  unfold maxLen at w1
  have q1 : (n : Int) ≤ (a1.size : Int) := by omega
  have q2 : (0 : Int) ≤ (n : Int) := by omega
  by_cases hE : E = 0
  · obtain ⟨g1, g2, g3, g4⟩ := hgood hE
    have p3 := p3 g3 g4
    have p4 := p4 g3 g4
    rw [g1] at p3
    rw [show (decide (F < 9223372036854775808) && decide (S < 9223372036854775808)) = true from g2] at p4
    have hx : ByteArray.mk (a1.data.toList.take n).toArray = a1.extract 0 n := by
      apply ByteArray.ext
      rw [ByteArray.data_extract]
      apply Array.ext'
      simp [Array.toList_extract]
    rw [hx] at p3
    subst hE
    clear hbad hgood g1 g2 g3 g4 hx hpl
    obtain ⟨T, hT⟩ : ∃ T, a1.extract 0 n = T := ⟨_, rfl⟩
    rw [hT] at p3
    go_enter Try.func3, Try.ntmps3
    go_wp2_with (first
      | (go_at_call 5; refine (px _).mono ?_; rintro e x ⟨rfl, h1⟩)
      | (go_at_call 6; refine (p1 _).mono ?_; rintro e x' ⟨rfl, rfl⟩)
      | (go_at_call 7; refine (p2 _).mono ?_; rintro e y ⟨rfl, h2⟩)
      | (go_at_call 8; refine (p3 _).mono ?_; rintro e z ⟨rfl, h3⟩; obtain ⟨c0, c1, cf0, cf1⟩ := Bm.held2 h3 (Bm.h1_0 y _))
      | (go_at_call 9; refine (p4 _).mono ?_; rintro e u ⟨rfl, h4⟩))
    go_ret
    exact ⟨rfl, Bm.keepB (Bm.keepB (Bm.keepB (Bm.keepB h1 h2) (Bm.below_one y _)) h3) h4⟩
  · have qE : (E == 0) = false := beq_eq_false_iff_ne.mpr hE
    obtain ⟨rfl, rfl⟩ := hbad hE
    clear hbad hgood hE hpl p3 p4
    go_enter Try.func3, Try.ntmps3
    go_wp2_with (first
      | (go_at_call 5; refine (px _).mono ?_; rintro e x ⟨rfl, h1⟩)
      | (go_at_call 6; refine (p1 _).mono ?_; rintro e x' ⟨rfl, rfl⟩)
      | (go_at_call 7; refine (p2 _).mono ?_; rintro e y ⟨rfl, h2⟩))
    go_ret
    exact ⟨rfl, Bm.keepB (Bm.keepB h1 h2) (Bm.below_one y _)⟩

theorem contract (H : Type) (enc : TypeId × Value → H) (W : World) (base : Nat) (args : Array Value) (ds gs : List (DataW H)) (before : List MemPlace)
    (hval : ∀ (j : Nat) t v, Try.f3.params[j]? = some t → args[j]? = some v → Value.okWide Try.prog W .any base t v)
    (hW : DataW.Whole enc Try.prog Try.f3.params.toList Rows.bitmapAgainSpec.vars false W args.toList ds gs before) :
    Calls Try.prog 3 args W fun e W' => ∃ v, e = .returned v ∧ Rows.bitmapAgainSpec.post enc Try.prog Try.f3 false true false false W args v W' := by
  have hW' := hW
  obtain ⟨p, q, hA0, hV, rfl, hfz, hnd⟩ := hW
  have hA : DataW.TrodAll enc Try.prog W 0 (fun _ => true) true Try.f3.params.toList args.toList ds p := hA0
  rw [Try.params3] at hA hval
  obtain ⟨v0, vs0, d0, ds0, p0, q0, hargs, rfl, rfl, h0, r0⟩ := trodAll_cons hA
  obtain ⟨v1, vs1, d1, ds1, p1, q1, rfl, rfl, rfl, h1, r1⟩ := trodAll_cons r0
  obtain ⟨rfl, rfl, rfl⟩ := trodAll_nil r1
  obtain rfl : args = #[v0, v1] := by cases args; simp_all
  obtain ⟨rfl, rfl⟩ := trodVars_none hV
  obtain ⟨a0, rfl, rfl, rfl, w0⟩ := open_int Try.underlying3 (hval 0 3 v0 rfl rfl) h0
  obtain ⟨a1, rfl, rfl, rfl, w1⟩ := open_string Try.underlying9 (hval 1 9 v1 rfl rfl) h1
  clear hA0
  refine (walk a0 a1 W w0 w1).mono fun e W' ⟨he, bel⟩ => ?_
  subst he
  exact ⟨_, rfl, _, _, _, [], _, [], hW', trodAll_mk1 (shut_bool Try.underlying4 _), (trodAll_cons_mk (shut_int Try.underlying3 w0) (trodAll_cons_mk (shut_string Try.underlying9 w1) trodAll_mk0)), rfl, bel.frame _, fun h => by cases h⟩

set_option maxRecDepth 100000 in
theorem lifted (os : Os) (started : os.Started) (H : Type) (enc : TypeId × Value → H) :
    ReturnsInHanded {} Try.checked os 3 .any (Rows.bitmapAgainSpec.pre6 enc Try.prog Try.f3 Rows.bitmapAgainRow.domain false) (Rows.bitmapAgainSpec.post enc Try.prog Try.f3 false true false false) := by
  refine returnsInHanded_of_change (C := Try.checked) own started (by kernel_rfl) Try.func3
    (ChangeSpec.witness6 (enc := enc) (C := Try.checked) false ⟨#[], #[.int .i64 0, .string .empty], []⟩ 8 (by kernel_rfl) (by kernel_rfl) (by kernel_rfl) (by kernel_rfl)) ?_
  intro W base args ds gs before hval hW _ _
  exact contract H enc W base args ds gs before hval hW

theorem proved : Rows.BitmapAgainSaid :=
  OpenClaim.holds_of_wide 3 Try.f3 rfl rfl rfl rfl rfl rfl rfl ⟨rfl, rfl, rfl, rfl, rfl⟩ rfl rfl rfl rfl rfl (by kernel_rfl) Try.func3 (by kernel_rfl)
    (of_decide_eq_true (by kernel_rfl)) (by unfold Func.isWrapper; first | (rw [if_pos (by decide +kernel)]; kernel_rfl) | (rw [if_neg (by decide +kernel)]; exact ⟨rfl, rfl⟩))
    (fun os started H enc _ => lifted os started H enc)
#print axioms proved
end Go.Proofs.Ytiepchghlopfnab.bitmapAgain
