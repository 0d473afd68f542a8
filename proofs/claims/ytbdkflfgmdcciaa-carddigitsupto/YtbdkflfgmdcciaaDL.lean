/- CardDigits: the law out of the contracts; the frame of the row. -/
import Derived.Test.YtbdkflfgmdcciaaRows
import Derived.WalkKit
import Derived.ProofKit
import Derived.OpenShut
import Derived.ShutString
import Derived.ChangeOld
import Derived.Below
import Derived.JoinedCond
import Derived.Carry
import Derived.SizedLaws
import Derived.Test.YtbdkflfgmdcciaaKz
import Derived.Test.YtbdkflfgmdcciaaKm
namespace Go.Proofs.Ytbdkflfgmdcciaa.cardDigits
open Go.ChangeShapes Go.WideShapes Go.ChangeAt Go.RowKit
open Go.ChangeMaps (open_string shut_string)
set_option linter.unusedVariables false

theorem own : ownKnob Try.prog.godebug = none := by kernel_rfl

set_option maxRecDepth 100000 in
set_option maxHeartbeats 1600000 in
theorem walk (a0 : ByteArray) (w : World) (w0 : a0.size ≤ maxLen) (k0 : a0.size ≤ 1048576) :
    Calls Try.prog 3 #[.string a0] w fun e w' => e = .returned (.bool true) ∧ Below w.heap.size w w' := by
  have D : ∃ (x : ByteArray) (n : Int), (∀ y, Calls Try.prog 10 #[.string a0] y fun e w' => e = .returned (.tuple #[.string x, .int .i64 n]) ∧ Below y.heap.size y w') ∧ (∀ y, Calls Try.prog 11 #[.string a0] y fun e w' => e = .returned (.tuple #[.string x, .int .i64 n]) ∧ Below y.heap.size y w') := by
    cases h : (decide (1 ≤ a0.size) && decide (a0.size ≤ 18) && Kp.ad a0)
    · exact ⟨_, _, fun y => (Kg.digit_bad a0 y (by omega) h).mono fun e w' hh => ⟨hh.1, hh.2 ▸ Below.refl _ _⟩, fun y => (Kg.digitr_bad a0 y (by omega) h).mono fun e w' hh => ⟨hh.1, hh.2 ▸ Below.refl _ _⟩⟩
    · simp only [Bool.and_eq_true, decide_eq_true_eq] at h
      exact ⟨_, _, fun y => Kg.digit_good a0 y h.1.1 h.1.2 h.2, fun y => Kg.digitr_good a0 y h.1.1 h.1.2 h.2⟩
  obtain ⟨x, n, p1, p2⟩ := D
  have p3 := fun y => Ki.luhn_any a0 y (by omega)
  have p4 := fun y => Ki.luhnr_any a0 y (by omega)
  have p5 := fun y => Ki.right_any a0 y (by omega)
  have p6 := fun y => Ki.rightr_any a0 y (by omega)
  have p7 := fun y => Km.mask_any a0 y (by omega)
  have p8 := fun y => Km.maskr_any a0 y (by omega)
  generalize Kp.luhn a0.data.toList = L at *
  generalize Kp.rightR a0.data.toList = R at *
  generalize (⟨(Kp.maskL a0.data.toList).toArray⟩ : ByteArray) = M at *
  go_enter Try.func3, Try.ntmps3
  go_wp2_with fail
  refine (Kz.examples_any _).mono ?_
  rintro e y0 ⟨rfl, h0⟩
  go_wp2_with fail
  refine (p1 _).mono ?_
  rintro e y1 ⟨rfl, h1⟩
  go_wp2_with fail
  refine (p2 _).mono ?_
  rintro e y2 ⟨rfl, h2⟩
  go_wp2_with fail
  refine (p3 _).mono ?_
  rintro e y3 ⟨rfl, rfl⟩
  go_wp2_with fail
  refine (p4 _).mono ?_
  rintro e y4 ⟨rfl, rfl⟩
  go_wp2_with fail
  refine (p5 _).mono ?_
  rintro e y5 ⟨rfl, rfl⟩
  go_wp2_with fail
  refine (p6 _).mono ?_
  rintro e y6 ⟨rfl, rfl⟩
  go_wp2_with fail
  refine (p7 _).mono ?_
  rintro e y7 ⟨rfl, h7⟩
  go_wp2_with fail
  refine (p8 _).mono ?_
  rintro e y8 ⟨rfl, h8⟩
  go_wp2
  go_ret
  exact ⟨by simp, Kb.keepB (Kb.keepB (Kb.keepB (Kb.keepB h0 h1) h2) h7) h8⟩

set_option maxRecDepth 100000 in
theorem contract (H : Type) (enc : TypeId × Value → H) (W : World) (base : Nat) (args : Array Value) (ds gs : List (DataW H)) (before : List MemPlace)
    (hval : ∀ (j : Nat) t v, Try.f3.params[j]? = some t → args[j]? = some v → Value.okWide Try.prog W .any base t v)
    (hW : DataW.Whole enc Try.prog Try.f3.params.toList Rows.cardDigitsSpec.vars false W args.toList ds gs before) (hk : Rows.uptoSmall H (ds ++ gs) = true) :
    Calls Try.prog 3 args W fun e W' => ∃ v, e = .returned v ∧ Rows.cardDigitsSpec.post enc Try.prog Try.f3 false true false false W args v W' := by
  have hW' := hW
  obtain ⟨p, q, hA0, hV, rfl, hfz, hnd⟩ := hW
  have hA : DataW.TrodAll enc Try.prog W 0 (fun _ => true) true Try.f3.params.toList args.toList ds p := hA0
  rw [Try.params3] at hA hval
  obtain ⟨v0, vs0, d0, ds0, p0, q0, hargs, rfl, rfl, h0, r0⟩ := trodAll_cons hA
  obtain ⟨rfl, rfl, rfl⟩ := trodAll_nil r0
  obtain rfl : args = #[v0] := by cases args; simp_all
  obtain ⟨rfl, rfl⟩ := trodVars_none hV
  obtain ⟨a0, rfl, rfl, rfl, w0⟩ := open_string Try.underlying9 (hval 0 9 v0 rfl rfl) h0
  clear hA0
  simp only [List.append_nil] at hk
  have hk1 := of_decide_eq_true hk
  simp only [Rows.uptoBulkAll, Rows.uptoBulk] at hk1
  have e0 : a0.data.toList.length = a0.size := by rw [Array.length_toList]; rfl
  refine (walk a0 W w0 (by omega)).mono fun e W' ⟨he, bel⟩ => ?_
  subst he
  exact ⟨_, rfl, _, _, _, [], _, [], hW', trodAll_mk1 (shut_bool Try.underlying4 _), (trodAll_cons_mk (shut_string Try.underlying9 w0) trodAll_mk0), rfl, bel.frame _, fun h => by cases h⟩

set_option maxRecDepth 100000 in
theorem lifted (os : Os) (started : os.Started) (H : Type) (enc : TypeId × Value → H) (F : Stop.Interp) :
    ReturnsInHanded {} Try.checked os 3 .any ((Rows.OpenSpec.upto Rows.cardDigitsSpec).pre6 enc Try.prog Try.f3 Rows.cardDigitsUptoRow.domain false) (((Rows.OpenSpec.upto Rows.cardDigitsSpec).at F).post enc Try.prog Try.f3 false true false false) := by
  refine returnsInHanded_of_cond (C := Try.checked) (s := Rows.OpenSpec.upto Rows.cardDigitsSpec) (k := Rows.uptoSmall) rfl own started (by kernel_rfl) Try.func3
    (OpenSpec.witness (enc := enc) (C := Try.checked) (s := Rows.OpenSpec.upto Rows.cardDigitsSpec) (k := Rows.uptoSmall) rfl false ⟨#[], #[.string .empty], []⟩ 8 (by kernel_rfl) (by kernel_rfl) (by kernel_rfl)
      (x := ([.lit (.string [])], [], [])) (by kernel_rfl) rfl (by kernel_rfl)) ?_
  intro W base args ds gs before hval hW _ hk _
  exact contract H enc W base args ds gs before hval hW hk

theorem proved : Rows.CardDigitsUptoSaid :=
  OpenClaim.holds_of_cond 3 Try.f3 rfl rfl rfl rfl rfl rfl rfl ⟨rfl, rfl, rfl, rfl, rfl⟩ rfl rfl rfl rfl rfl (by kernel_rfl) Try.func3 (by kernel_rfl)
    (of_decide_eq_true (by kernel_rfl)) (by unfold Func.isWrapper; first | (rw [if_pos (by decide +kernel)]; kernel_rfl) | (rw [if_neg (by decide +kernel)]; exact ⟨rfl, rfl⟩))
    (fun os started H enc _ F => lifted os started H enc F)
#print axioms proved
end Go.Proofs.Ytbdkflfgmdcciaa.cardDigits
