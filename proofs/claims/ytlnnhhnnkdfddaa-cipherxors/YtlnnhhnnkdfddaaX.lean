/- CipherXors: the law out of the contracts; the frame of the row. -/
import Derived.Test.YtlnnhhnnkdfddaaRows
import Derived.WalkKit
import Derived.ProofKit
import Derived.OpenShut
import Derived.ShutString
import Derived.ChangeOld
import Derived.Below
import Derived.JoinedCond
import Derived.Carry
import Derived.Test.YtlnnhhnnkdfddaaXo
namespace Go.Proofs.Ytlnnhhnnkdfddaa.cipherXors
open Go.ChangeShapes Go.WideShapes Go.ChangeAt Go.RowKit
open Go.ChangeMaps (open_string shut_string)
set_option linter.unusedVariables false

theorem own : ownKnob Try.prog.godebug = none := by kernel_rfl

set_option maxRecDepth 100000 in
set_option maxHeartbeats 1600000 in
theorem walk (a0 : ByteArray) (a1 : ByteArray) (w : World) (w0 : a0.size ≤ maxLen) (w1 : a1.size ≤ maxLen) :
    Calls Try.prog 6 #[.string a0, .string a1] w fun e w' => e = .returned (.bool true) ∧ Below w.heap.size w w' := by
  have S1 := fun y => Xo.some_any a0 2000 (by decide) y
  have S2 := fun y => Xo.some_any a1 2000 (by decide) y
  have z1 := Xo.someB_size a0 2000
  have z2 := Xo.someB_size a1 2000
  generalize Xo.someB a0 2000 = x at *
  generalize Xo.someB a1 2000 = y at *
  by_cases h : x.size = y.size
  · have P1 := fun u => Xo.xor_any x y x.size rfl h.symm (by omega) u
    have P2 := fun u => Xo.xor_ref x y x.size rfl h.symm (by omega) u
    clear h
    go_enter Try.func6, Try.ntmps6
    go_wp2_with (first
      | (go_at_call 9; refine (Ck.known_any _).mono ?_; rintro e x1 ⟨rfl, h1⟩)
      | (go_at_call_of 12 (Value.string a0); refine (S1 _).mono ?_; rintro e x2 ⟨rfl, rfl⟩)
      | (go_at_call_of 12 (Value.string a1); refine (S2 _).mono ?_; rintro e x3 ⟨rfl, rfl⟩)
      | (go_at_call 21; refine (P1 _).mono ?_; rintro e x4 ⟨rfl, h4⟩)
      | (go_at_call 22; refine (P2 _).mono ?_; rintro e x5 ⟨rfl, h5⟩))
    go_ret
    exact ⟨by simp, Cb.keepB (Cb.keepB h1 h4) h5⟩
  · have q : ((x.size : Int) != (y.size : Int)) = true := by simp only [bne_iff_ne]; omega
    have P1 := fun u => Xo.xor_bad x y q u
    have P2 := fun u => Xo.xorr_bad x y q u
    clear h
    go_enter Try.func6, Try.ntmps6
    go_wp2_with (first
      | (go_at_call 9; refine (Ck.known_any _).mono ?_; rintro e x1 ⟨rfl, h1⟩)
      | (go_at_call_of 12 (Value.string a0); refine (S1 _).mono ?_; rintro e x2 ⟨rfl, rfl⟩)
      | (go_at_call_of 12 (Value.string a1); refine (S2 _).mono ?_; rintro e x3 ⟨rfl, rfl⟩)
      | (go_at_call 21; refine (P1 _).mono ?_; rintro e x4 ⟨rfl, rfl⟩)
      | (go_at_call 22; refine (P2 _).mono ?_; rintro e x5 ⟨rfl, rfl⟩))
    go_ret
    exact ⟨by simp, h1⟩

theorem contract (H : Type) (enc : TypeId × Value → H) (W : World) (base : Nat) (args : Array Value) (ds gs : List (DataW H)) (before : List MemPlace)
    (hval : ∀ (j : Nat) t v, Try.f6.params[j]? = some t → args[j]? = some v → Value.okWide Try.prog W .any base t v)
    (hW : DataW.Whole enc Try.prog Try.f6.params.toList Rows.cipherXorsSpec.vars false W args.toList ds gs before) :
    Calls Try.prog 6 args W fun e W' => ∃ v, e = .returned v ∧ Rows.cipherXorsSpec.post enc Try.prog Try.f6 false true false false W args v W' := by
  have hW' := hW
  obtain ⟨p, q, hA0, hV, rfl, hfz, hnd⟩ := hW
  have hA : DataW.TrodAll enc Try.prog W 0 (fun _ => true) true Try.f6.params.toList args.toList ds p := hA0
  rw [Try.params6] at hA hval
  obtain ⟨v0, vs0, d0, ds0, p0, q0, hargs, rfl, rfl, h0, r0⟩ := trodAll_cons hA
  obtain ⟨v1, vs1, d1, ds1, p1, q1, rfl, rfl, rfl, h1, r1⟩ := trodAll_cons r0
  obtain ⟨rfl, rfl, rfl⟩ := trodAll_nil r1
  obtain rfl : args = #[v0, v1] := by cases args; simp_all
  obtain ⟨rfl, rfl⟩ := trodVars_none hV
  obtain ⟨a0, rfl, rfl, rfl, w0⟩ := open_string Try.underlying9 (hval 0 9 v0 rfl rfl) h0
  obtain ⟨a1, rfl, rfl, rfl, w1⟩ := open_string Try.underlying9 (hval 1 9 v1 rfl rfl) h1
  clear hA0
  refine (walk a0 a1 W w0 w1).mono fun e W' ⟨he, bel⟩ => ?_
  subst he
  exact ⟨_, rfl, _, _, _, [], _, [], hW', trodAll_mk1 (shut_bool Try.underlying4 _), (trodAll_cons_mk (shut_string Try.underlying9 w0) (trodAll_cons_mk (shut_string Try.underlying9 w1) trodAll_mk0)), rfl, bel.frame _, fun h => by cases h⟩

set_option maxRecDepth 100000 in
theorem lifted (os : Os) (started : os.Started) (H : Type) (enc : TypeId × Value → H) :
    ReturnsInHanded {} Try.checked os 6 .any (Rows.cipherXorsSpec.pre6 enc Try.prog Try.f6 Rows.cipherXorsRow.domain false) (Rows.cipherXorsSpec.post enc Try.prog Try.f6 false true false false) := by
  refine returnsInHanded_of_change (C := Try.checked) own started (by kernel_rfl) Try.func6
    (ChangeSpec.witness6 (enc := enc) (C := Try.checked) false ⟨#[], #[.string .empty, .string .empty], []⟩ 8 (by kernel_rfl) (by kernel_rfl) (by kernel_rfl) (by kernel_rfl)) ?_
  intro W base args ds gs before hval hW _ _
  exact contract H enc W base args ds gs before hval hW

theorem proved : Rows.CipherXorsSaid :=
  OpenClaim.holds_of_wide 6 Try.f6 rfl rfl rfl rfl rfl rfl rfl ⟨rfl, rfl, rfl, rfl, rfl⟩ rfl rfl rfl rfl rfl (by kernel_rfl) Try.func6 (by kernel_rfl)
    (of_decide_eq_true (by kernel_rfl)) (by unfold Func.isWrapper; first | (rw [if_pos (by decide +kernel)]; kernel_rfl) | (rw [if_neg (by decide +kernel)]; exact ⟨rfl, rfl⟩))
    (fun os started H enc _ => lifted os started H enc)
#print axioms proved
end Go.Proofs.Ytlnnhhnnkdfddaa.cipherXors
