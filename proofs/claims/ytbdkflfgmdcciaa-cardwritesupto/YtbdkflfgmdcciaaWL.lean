/- CardWrites: the law out of the contracts; the frame of the row. -/
import Derived.Test.YtbdkflfgmdcciaaRows
import Derived.WalkKit
import Derived.ProofKit
import Derived.OpenShut
import Derived.ShutString
import Derived.ChangeOld
import Derived.Below
import Derived.JoinedCond
import Derived.Carry
import Derived.SizedLaws
import Derived.Test.YtbdkflfgmdcciaaKz
import Derived.Test.YtbdkflfgmdcciaaKy
import Derived.Test.YtbdkflfgmdcciaaOt
namespace Go.Proofs.Ytbdkflfgmdcciaa.cardWrites
open Go.ChangeShapes Go.WideShapes Go.ChangeAt Go.RowKit
open Go.ChangeMaps (open_string shut_string)
set_option linter.unusedVariables false

theorem own : ownKnob Try.prog.godebug = none := by kernel_rfl

set_option maxRecDepth 100000 in
set_option maxHeartbeats 1600000 in
theorem walk (a0 b0 c0 d0 : ByteArray) (w : World) (w0 : a0.size ≤ maxLen ∧ b0.size ≤ maxLen ∧ c0.size ≤ maxLen ∧ d0.size ≤ maxLen) (k0 : a0.size ≤ 1048576 ∧ b0.size ≤ 1048576 ∧ c0.size ≤ 1048576 ∧ d0.size ≤ 1048576) :
    Calls Try.prog 6 #[.agg #[.string a0, .string b0, .string c0, .string d0]] w fun e w' => e = .returned (.bool true) ∧ Below w.heap.size w w' := by
  obtain ⟨k1, k2, k3, k4⟩ := k0
  have p1 := fun y => Kv.write_any a0 b0 c0 d0 y k1 k2 k3 k4
  have p2 := fun y => Ky.writer_any a0 b0 c0 d0 y k1 k2 k3 k4
  unfold Kv.wtV Kx.trkV at p1 p2
  generalize (Kv.wtP a0 b0 c0 d0).1 = S at *
  generalize (Kv.wtP a0 b0 c0 d0).2 = E at *
  have m0 := Kb.h1_0 w (Obj.cells #[.string a0, .string b0, .string c0, .string d0] 33)
  have bb := Kb.below_one w (Obj.cells #[.string a0, .string b0, .string c0, .string d0] 33)
  go_enter Try.func6, Try.ntmps6
  go_wp2_with fail
  refine (Kz.examples_any _).mono ?_
  rintro e y0 ⟨rfl, h0⟩
  have m1 := Kb.kept h0 m0
  obtain ⟨⟨c0', c1', c2', c3'⟩, ⟨f0, f1, f2, f3⟩⟩ := Kx.held4 m1
  go_wp2_with fail
  refine (p1 _).mono ?_
  rintro e y1 ⟨rfl, h1⟩
  have m2 := Kb.kept h1 m1
  clear c0' c1' c2' c3' f0 f1 f2 f3
  obtain ⟨⟨c0', c1', c2', c3'⟩, ⟨f0, f1, f2, f3⟩⟩ := Kx.held4 m2
  go_wp2_with fail
  refine (p2 _).mono ?_
  rintro e y2 ⟨rfl, h2⟩
  go_wp2
  go_ret
  exact ⟨by simp, Kb.keepB (Kb.keepB (Kb.keepB bb h0) h1) h2⟩

set_option maxRecDepth 100000 in
theorem contract (H : Type) (enc : TypeId × Value → H) (W : World) (base : Nat) (args : Array Value) (ds gs : List (DataW H)) (before : List MemPlace)
    (hval : ∀ (j : Nat) t v, Try.f6.params[j]? = some t → args[j]? = some v → Value.okWide Try.prog W .any base t v)
    (hW : DataW.Whole enc Try.prog Try.f6.params.toList Rows.cardWritesSpec.vars false W args.toList ds gs before) (hk : Rows.uptoSmall H (ds ++ gs) = true) :
    Calls Try.prog 6 args W fun e W' => ∃ v, e = .returned v ∧ Rows.cardWritesSpec.post enc Try.prog Try.f6 false true false false W args v W' := by
  have hW' := hW
  obtain ⟨p, q, hA0, hV, rfl, hfz, hnd⟩ := hW
  have hA : DataW.TrodAll enc Try.prog W 0 (fun _ => true) true Try.f6.params.toList args.toList ds p := hA0
  rw [Try.params6] at hA hval
  obtain ⟨v0, vs0, d0, ds0, p0, q0, hargs, rfl, rfl, h0, r0⟩ := trodAll_cons hA
  obtain ⟨rfl, rfl, rfl⟩ := trodAll_nil r0
  obtain rfl : args = #[v0] := by cases args; simp_all
  obtain ⟨rfl, rfl⟩ := trodVars_none hV
  obtain ⟨a0, b0, c0, d0, rfl, rfl, rfl, w0⟩ := Ot.open_trk (hval 0 33 v0 rfl rfl) h0
  clear hA0
  simp only [List.append_nil] at hk
  have hk1 := of_decide_eq_true hk
  simp only [Rows.uptoBulkAll, Rows.uptoBulk] at hk1
  have ea0 : a0.data.toList.length = a0.size := by rw [Array.length_toList]; rfl
  have eb0 : b0.data.toList.length = b0.size := by rw [Array.length_toList]; rfl
  have ec0 : c0.data.toList.length = c0.size := by rw [Array.length_toList]; rfl
  have ed0 : d0.data.toList.length = d0.size := by rw [Array.length_toList]; rfl
  refine (walk a0 b0 c0 d0 W w0 (by omega)).mono fun e W' ⟨he, bel⟩ => ?_
  subst he
  exact ⟨_, rfl, _, _, _, [], _, [], hW', trodAll_mk1 (shut_bool Try.underlying4 _), (trodAll_cons_mk (Ot.shut_trk w0) trodAll_mk0), rfl, bel.frame _, fun h => by cases h⟩

set_option maxRecDepth 100000 in
theorem lifted (os : Os) (started : os.Started) (H : Type) (enc : TypeId × Value → H) (F : Stop.Interp) :
    ReturnsInHanded {} Try.checked os 6 .any ((Rows.OpenSpec.upto Rows.cardWritesSpec).pre6 enc Try.prog Try.f6 Rows.cardWritesUptoRow.domain false) (((Rows.OpenSpec.upto Rows.cardWritesSpec).at F).post enc Try.prog Try.f6 false true false false) := by
  refine returnsInHanded_of_cond (C := Try.checked) (s := Rows.OpenSpec.upto Rows.cardWritesSpec) (k := Rows.uptoSmall) rfl own started (by kernel_rfl) Try.func6
    (OpenSpec.witness (enc := enc) (C := Try.checked) (s := Rows.OpenSpec.upto Rows.cardWritesSpec) (k := Rows.uptoSmall) rfl false ⟨#[], #[.agg #[.string .empty, .string .empty, .string .empty, .string .empty]], []⟩ 8 (by kernel_rfl) (by kernel_rfl) (by kernel_rfl)
      (x := ([.agg [.lit (.string []), .lit (.string []), .lit (.string []), .lit (.string [])]], [], [])) (by kernel_rfl) rfl (by kernel_rfl)) ?_
  intro W base args ds gs before hval hW _ hk _
  exact contract H enc W base args ds gs before hval hW hk

theorem proved : Rows.CardWritesUptoSaid :=
  OpenClaim.holds_of_cond 6 Try.f6 rfl rfl rfl rfl rfl rfl rfl ⟨rfl, rfl, rfl, rfl, rfl⟩ rfl rfl rfl rfl rfl (by kernel_rfl) Try.func6 (by kernel_rfl)
    (of_decide_eq_true (by kernel_rfl)) (by unfold Func.isWrapper; first | (rw [if_pos (by decide +kernel)]; kernel_rfl) | (rw [if_neg (by decide +kernel)]; exact ⟨rfl, rfl⟩))
    (fun os started H enc _ F => lifted os started H enc F)
#print axioms proved
end Go.Proofs.Ytbdkflfgmdcciaa.cardWrites
