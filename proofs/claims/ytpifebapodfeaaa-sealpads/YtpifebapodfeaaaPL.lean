/- SealPads: the law out of the contracts; the frame of the row. -/
import Derived.Test.YtpifebapodfeaaaRows
import Derived.WalkKit
import Derived.ProofKit
import Derived.OpenShut
import Derived.ShutString
import Derived.ChangeOld
import Derived.Below
import Derived.JoinedCond
import Derived.Carry
import Derived.SizedLaws
import Derived.Test.YtpifebapodfeaaaPe
import Derived.Test.YtpifebapodfeaaaSa
namespace Go.Proofs.Ytpifebapodfeaaa.sealPads
open Go.ChangeShapes Go.WideShapes Go.ChangeAt Go.RowKit
open Go.ChangeMaps (open_string shut_string)
set_option linter.unusedVariables false

theorem own : ownKnob Try.prog.godebug = none := by kernel_rfl

set_option maxRecDepth 100000 in
set_option maxHeartbeats 1600000 in
theorem walk (a0 : Int) (a1 : ByteArray) (a2 : ByteArray) (w : World) (w0 : (Lit.int .i64 a0).wf = true) (w1 : a1.size ≤ maxLen) (w2 : a2.size ≤ maxLen) (k1 : a1.size ≤ 140737488351232) (k2 : a2.size ≤ 140737488351232) :
    Calls Try.prog 3 #[.int .i64 a0, .string a1, .string a2] w fun e w' => e = .returned (.bool true) ∧ Below w.heap.size w w' := by
  have P1 := fun y => Pe.pad_good 2 (.inr rfl) ⟨#[97, 98, 99]⟩ (by decide) y
  rw [show Fp.fillB 2 ⟨#[97, 98, 99]⟩ = ⟨#[97, 98, 99, 128, 0, 0, 0, 0]⟩ by kernel_rfl] at P1
  have S1 := fun y => Sa.same_any ⟨#[97]⟩ ⟨#[97]⟩ (by decide) y
  rw [show ((⟨#[97]⟩ : ByteArray).toList == (⟨#[97]⟩ : ByteArray).toList) = true by rw [beq_self_eq_true]] at S1
  have S2 := fun y => Sa.same_any a1 a2 (by omega) y
  have S3 := fun y => Sa.same_any a1 a1 (by omega) y
  rw [show (a1.toList == a1.toList) = true by rw [beq_self_eq_true]] at S3
  by_cases hm : a0 = 1 ∨ a0 = 2
  · obtain ⟨m, hm2, rfl⟩ : ∃ m : Nat, (m = 1 ∨ m = 2) ∧ a0 = (m : Int) := by
      rcases hm with rfl | rfl
      · exact ⟨1, .inl rfl, rfl⟩
      · exact ⟨2, .inr rfl, rfl⟩
    have PG := fun y => Pe.pad_good m hm2 a1 (by omega) y
    have RG := fun y => Pe.padr_good m hm2 a1 (by omega) y
    have hz := Fp.fillB_size m a1
    generalize Fp.fillB m a1 = R at *
    clear hm hm2 hz
    go_enter Try.func3, Try.ntmps3
    go_wp2_with (first
      | (go_at_call_of 8 (Value.string a1); refine (PG _).mono ?_; rintro e x2 ⟨rfl, h2⟩)
      | (go_at_call 8; refine (P1 _).mono ?_; rintro e x1 ⟨rfl, h1⟩)
      | (go_at_call 9; refine (RG _).mono ?_; rintro e x3 ⟨rfl, h3⟩; rw [h3])
      | (go_at_call_of 10 (Value.string a2); refine (S2 _).mono ?_; rintro e x5 ⟨rfl, h5⟩)
      | (go_at_call_of 10 (Value.string a1); refine (S3 _).mono ?_; rintro e x6 ⟨rfl, h6⟩)
      | (go_at_call 10; refine (S1 _).mono ?_; rintro e x4 ⟨rfl, h4⟩))
    go_ret
    exact ⟨rfl, Cb.keepB (Cb.keepB (Cb.keepB (Cb.keepB h1 h2) h4) h5) h6⟩
  · have q1 : (a0 == 1) = false := by simp only [beq_eq_false_iff_ne]; omega
    have q2 : (a0 == 2) = false := by simp only [beq_eq_false_iff_ne]; omega
    have PG := fun y => Pe.pad_bad a0 (by rw [q1, q2]; rfl) a1 y
    have RG := fun y => Pe.padr_bad a0 q1 q2 a1 y
    clear hm q1 q2
    go_enter Try.func3, Try.ntmps3
    go_wp2_with (first
      | (go_at_call_of 8 (Value.string a1); refine (PG _).mono ?_; rintro e x2 ⟨rfl, h2⟩; rw [h2])
      | (go_at_call 8; refine (P1 _).mono ?_; rintro e x1 ⟨rfl, h1⟩)
      | (go_at_call 9; refine (RG _).mono ?_; rintro e x3 ⟨rfl, h3⟩; rw [h3])
      | (go_at_call_of 10 (Value.string a2); refine (S2 _).mono ?_; rintro e x5 ⟨rfl, h5⟩)
      | (go_at_call_of 10 (Value.string a1); refine (S3 _).mono ?_; rintro e x6 ⟨rfl, h6⟩)
      | (go_at_call 10; refine (S1 _).mono ?_; rintro e x4 ⟨rfl, h4⟩))
    go_ret
    exact ⟨rfl, Cb.keepB (Cb.keepB (Cb.keepB h1 h4) h5) h6⟩

theorem contract (H : Type) (enc : TypeId × Value → H) (W : World) (base : Nat) (args : Array Value) (ds gs : List (DataW H)) (before : List MemPlace)
    (hval : ∀ (j : Nat) t v, Try.f3.params[j]? = some t → args[j]? = some v → Value.okWide Try.prog W .any base t v)
    (hW : DataW.Whole enc Try.prog Try.f3.params.toList Rows.sealPadsSpec.vars false W args.toList ds gs before) (hsz : (DataW.weightsEach Try.prog (Try.f3.params.toList ++ Rows.sealPadsSpec.plain.varTypes Try.prog) (ds ++ gs)).all (· ≤ reachBytes) = true) :
    Calls Try.prog 3 args W fun e W' => ∃ v, e = .returned v ∧ Rows.sealPadsSpec.post enc Try.prog Try.f3 false true false false W args v W' := by
  have hW' := hW
  obtain ⟨p, q, hA0, hV, rfl, hfz, hnd⟩ := hW
  have hA : DataW.TrodAll enc Try.prog W 0 (fun _ => true) true Try.f3.params.toList args.toList ds p := hA0
  rw [Try.params3] at hA hval
  obtain ⟨v0, vs0, d0, ds0, p0, q0, hargs, rfl, rfl, h0, r0⟩ := trodAll_cons hA
  obtain ⟨v1, vs1, d1, ds1, p1, q1, rfl, rfl, rfl, h1, r1⟩ := trodAll_cons r0
  obtain ⟨v2, vs2, d2, ds2, p2, q2, rfl, rfl, rfl, h2, r2⟩ := trodAll_cons r1
  obtain ⟨rfl, rfl, rfl⟩ := trodAll_nil r2
  obtain rfl : args = #[v0, v1, v2] := by cases args; simp_all
  obtain ⟨rfl, rfl⟩ := trodVars_none hV
  obtain ⟨a0, rfl, rfl, rfl, w0⟩ := open_int Try.underlying3 (hval 0 3 v0 rfl rfl) h0
  obtain ⟨a1, rfl, rfl, rfl, w1⟩ := open_string Try.underlying9 (hval 1 9 v1 rfl rfl) h1
  obtain ⟨a2, rfl, rfl, rfl, w2⟩ := open_string Try.underlying9 (hval 2 9 v2 rfl rfl) h2
  clear hA0
  have e1 : a1.data.toList.length = a1.size := by rw [Array.length_toList]; rfl
  have g1 : a1.data.toList.length ≤ 140737488351232 := sized_string hsz (j := 1) (t := 9) rfl rfl
  have e2 : a2.data.toList.length = a2.size := by rw [Array.length_toList]; rfl
  have g2 : a2.data.toList.length ≤ 140737488351232 := sized_string hsz (j := 2) (t := 9) rfl rfl
  refine (walk a0 a1 a2 W w0 w1 w2 (by omega) (by omega)).mono fun e W' ⟨he, bel⟩ => ?_
  subst he
  exact ⟨_, rfl, _, _, _, [], _, [], hW', trodAll_mk1 (shut_bool Try.underlying4 _), (trodAll_cons_mk (shut_int Try.underlying3 w0) (trodAll_cons_mk (shut_string Try.underlying9 w1) (trodAll_cons_mk (shut_string Try.underlying9 w2) trodAll_mk0))), rfl, bel.frame _, fun h => by cases h⟩

set_option maxRecDepth 100000 in
theorem lifted (os : Os) (started : os.Started) (H : Type) (enc : TypeId × Value → H) :
    ReturnsInHanded {} Try.checked os 3 .any (Rows.sealPadsSpec.pre6 enc Try.prog Try.f3 Rows.sealPadsRow.domain false) (Rows.sealPadsSpec.post enc Try.prog Try.f3 false true false false) := by
  refine returnsInHanded_of_change_sized (C := Try.checked) own started (by kernel_rfl) Try.func3
    (ChangeSpec.witness6 (enc := enc) (C := Try.checked) false ⟨#[], #[.int .i64 0, .string .empty, .string .empty], []⟩ 8 (by kernel_rfl) (by kernel_rfl) (by kernel_rfl) (by kernel_rfl)) ?_
  intro W base args ds gs before hval hW _ hsz _
  exact contract H enc W base args ds gs before hval hW hsz

theorem proved : Rows.SealPadsSaid :=
  OpenClaim.holds_of_wide 3 Try.f3 rfl rfl rfl rfl rfl rfl rfl ⟨rfl, rfl, rfl, rfl, rfl⟩ rfl rfl rfl rfl rfl (by kernel_rfl) Try.func3 (by kernel_rfl)
    (of_decide_eq_true (by kernel_rfl)) (by unfold Func.isWrapper; first | (rw [if_pos (by decide +kernel)]; kernel_rfl) | (rw [if_neg (by decide +kernel)]; exact ⟨rfl, rfl⟩))
    (fun os started H enc _ => lifted os started H enc)
#print axioms proved
end Go.Proofs.Ytpifebapodfeaaa.sealPads
