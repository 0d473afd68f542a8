/- CardAgain: the law out of the contracts; the frame of the row. -/
import Derived.Test.YtbdkflfgmdcciabRows
import Derived.WalkKit
import Derived.ProofKit
import Derived.OpenShut
import Derived.ShutString
import Derived.ChangeOld
import Derived.Below
import Derived.JoinedCond
import Derived.Carry
import Derived.SizedLaws
import Derived.Test.YtbdkflfgmdcciabKz
import Derived.Test.YtbdkflfgmdcciabKa
namespace Go.Proofs.Ytbdkflfgmdcciab.cardAgain
open Go.ChangeShapes Go.WideShapes Go.ChangeAt Go.RowKit
open Go.ChangeMaps (open_string shut_string)
set_option linter.unusedVariables false

theorem own : ownKnob Try.prog.godebug = none := by kernel_rfl

set_option maxRecDepth 100000 in
set_option maxHeartbeats 1600000 in
theorem walk (a0 : ByteArray) (w : World) (w0 : a0.size ≤ maxLen) :
    Calls Try.prog 3 #[.string a0] w fun e w' => e = .returned (.bool true) ∧ Below w.heap.size w w' := by
  have p1 := fun y => Kx.read_any a0 y
  rcases Kv.rt_form a0 with ⟨A, B, C, D, h⟩ | ⟨k, h⟩
  · obtain ⟨hc, zA, zB, zC, zD⟩ := Ka.rt_again h
    have p2 := fun y => Kv.write_any A B C D y (by omega) (by omega) (by omega) (by omega)
    rw [Kv.wtV, Kv.wtP, if_pos (by rw [hc]; exact h), hc] at p2
    rw [Kx.rtV, h] at p1
    unfold Kx.trkV at p1 p2
    clear h hc
    go_enter Try.func3, Try.ntmps3
    go_wp2_with fail
    refine (Kz.examples_any _).mono ?_
    rintro e y0 ⟨rfl, h0⟩
    go_wp2_with fail
    refine (p1 _).mono ?_
    rintro e y1 ⟨rfl, h1⟩
    have m1 := Kb.h1_0 y1 (Obj.cells #[.string A, .string B, .string C, .string D] 24)
    have b1 := Kb.keepB (Kb.keepB h0 h1) (Kb.below_one y1 (Obj.cells #[.string A, .string B, .string C, .string D] 24))
    obtain ⟨⟨c0, c1, c2, c3⟩, ⟨f0, f1, f2, f3⟩⟩ := Kx.held4 m1
    go_wp2_with fail
    refine (p2 _).mono ?_
    rintro e y2 ⟨rfl, h2⟩
    have b2 := Kb.keepB b1 h2
    go_wp2
    go_ret
    exact ⟨by simp, b2⟩
  · obtain ⟨_, _, _, _, k0, k1⟩ := Ka.rt_err h
    rw [Kx.rtV, h] at p1
    unfold Kx.trkV Kx.em at p1
    clear h
    go_enter Try.func3, Try.ntmps3
    go_wp2_with fail
    refine (Kz.examples_any _).mono ?_
    rintro e y0 ⟨rfl, h0⟩
    go_wp2_with fail
    refine (p1 _).mono ?_
    rintro e y1 ⟨rfl, h1⟩
    have m1 := Kb.h1_0 y1 (Obj.cells #[.string ⟨#[]⟩, .string ⟨#[]⟩, .string ⟨#[]⟩, .string ⟨#[]⟩] 24)
    have b1 := Kb.keepB (Kb.keepB h0 h1) (Kb.below_one y1 (Obj.cells #[.string ⟨#[]⟩, .string ⟨#[]⟩, .string ⟨#[]⟩, .string ⟨#[]⟩] 24))
    obtain ⟨⟨c0, c1, c2, c3⟩, ⟨f0, f1, f2, f3⟩⟩ := Kx.held4 m1
    go_wp2
    go_ret
    exact ⟨by simp, b1⟩

set_option maxRecDepth 100000 in
theorem contract (H : Type) (enc : TypeId × Value → H) (W : World) (base : Nat) (args : Array Value) (ds gs : List (DataW H)) (before : List MemPlace)
    (hval : ∀ (j : Nat) t v, Try.f3.params[j]? = some t → args[j]? = some v → Value.okWide Try.prog W .any base t v)
    (hW : DataW.Whole enc Try.prog Try.f3.params.toList Rows.cardAgainSpec.vars false W args.toList ds gs before) :
    Calls Try.prog 3 args W fun e W' => ∃ v, e = .returned v ∧ Rows.cardAgainSpec.post enc Try.prog Try.f3 false true false false W args v W' := by
  have hW' := hW
  obtain ⟨p, q, hA0, hV, rfl, hfz, hnd⟩ := hW
  have hA : DataW.TrodAll enc Try.prog W 0 (fun _ => true) true Try.f3.params.toList args.toList ds p := hA0
  rw [Try.params3] at hA hval
  obtain ⟨v0, vs0, d0, ds0, p0, q0, hargs, rfl, rfl, h0, r0⟩ := trodAll_cons hA
  obtain ⟨rfl, rfl, rfl⟩ := trodAll_nil r0
  obtain rfl : args = #[v0] := by cases args; simp_all
  obtain ⟨rfl, rfl⟩ := trodVars_none hV
  obtain ⟨a0, rfl, rfl, rfl, w0⟩ := open_string Try.underlying9 (hval 0 9 v0 rfl rfl) h0
  clear hA0
  refine (walk a0 W w0).mono fun e W' ⟨he, bel⟩ => ?_
  subst he
  exact ⟨_, rfl, _, _, _, [], _, [], hW', trodAll_mk1 (shut_bool Try.underlying4 _), (trodAll_cons_mk (shut_string Try.underlying9 w0) trodAll_mk0), rfl, bel.frame _, fun h => by cases h⟩

set_option maxRecDepth 100000 in
theorem lifted (os : Os) (started : os.Started) (H : Type) (enc : TypeId × Value → H) :
    ReturnsInHanded {} Try.checked os 3 .any (Rows.cardAgainSpec.pre6 enc Try.prog Try.f3 Rows.cardAgainRow.domain false) (Rows.cardAgainSpec.post enc Try.prog Try.f3 false true false false) := by
  refine returnsInHanded_of_change (C := Try.checked) own started (by kernel_rfl) Try.func3
    (ChangeSpec.witness6 (enc := enc) (C := Try.checked) false ⟨#[], #[.string .empty], []⟩ 8 (by kernel_rfl) (by kernel_rfl) (by kernel_rfl) (by kernel_rfl)) ?_
  intro W base args ds gs before hval hW _ _
  exact contract H enc W base args ds gs before hval hW

theorem proved : Rows.CardAgainSaid :=
  OpenClaim.holds_of_wide 3 Try.f3 rfl rfl rfl rfl rfl rfl rfl ⟨rfl, rfl, rfl, rfl, rfl⟩ rfl rfl rfl rfl rfl (by kernel_rfl) Try.func3 (by kernel_rfl)
    (of_decide_eq_true (by kernel_rfl)) (by unfold Func.isWrapper; first | (rw [if_pos (by decide +kernel)]; kernel_rfl) | (rw [if_neg (by decide +kernel)]; exact ⟨rfl, rfl⟩))
    (fun os started H enc _ => lifted os started H enc)
#print axioms proved
end Go.Proofs.Ytbdkflfgmdcciab.cardAgain
