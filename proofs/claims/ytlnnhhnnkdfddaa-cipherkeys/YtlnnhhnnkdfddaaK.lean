/- CipherKeys: the law out of the contracts; the frame of the row. -/
import Derived.Test.YtlnnhhnnkdfddaaRows
import Derived.WalkKit
import Derived.ProofKit
import Derived.OpenShut
import Derived.ShutString
import Derived.ChangeOld
import Derived.Below
import Derived.JoinedCond
import Derived.Carry
import Derived.Test.YtlnnhhnnkdfddaaOk
import Derived.Test.YtlnnhhnnkdfddaaCk
namespace Go.Proofs.Ytlnnhhnnkdfddaa.cipherKeys
open Go.ChangeShapes Go.WideShapes Go.ChangeAt Go.RowKit
open Go.ChangeMaps (open_string shut_string)
set_option linter.unusedVariables false

theorem own : ownKnob Try.prog.godebug = none := by kernel_rfl

set_option maxRecDepth 100000 in
set_option maxHeartbeats 1600000 in
theorem walk (a0 : ByteArray) (w : World) (w0 : a0.size ≤ maxLen) :
    Calls Try.prog 5 #[.string a0] w fun e w' => e = .returned (.bool true) ∧ Below w.heap.size w w' := by
  have S1 := fun y => Xo.some_any a0 2000 (by decide) y
  have z1 := Xo.someB_size a0 2000
  generalize Xo.someB a0 2000 = x at *
  have O1 := fun u => Od.odd_any x (by omega) u
  have O2 := fun u => Or.odd_ref x (by omega) u
  have W1 := fun u => Wk.weak_any x u
  have W2 := fun u => Ow.weak_ref x u
  by_cases hz : Wd.kindN x.size = 0
  · have C1 := fun u => Ck.check_bad x hz u
    have C2 := fun u => Ok.check_ref0 x hz u
    clear hz
    generalize (⟨(Od.oddL x.data.toList).toArray⟩ : ByteArray) = O at *
    generalize Wk.wkU x (Wd.kindN x.size) = W at *
    go_enter Try.func5, Try.ntmps5
    go_wp2_with (first
      | (go_at_call 9; refine (Ck.known_any _).mono ?_; rintro e x1 ⟨rfl, h1⟩)
      | (go_at_call 12; refine (S1 _).mono ?_; rintro e x2 ⟨rfl, rfl⟩)
      | (go_at_call 15; refine (O1 _).mono ?_; rintro e x3 ⟨rfl, h3⟩)
      | (go_at_call 16; refine (W1 _).mono ?_; rintro e x4 ⟨rfl, h4⟩)
      | (go_at_call 17; refine (C1 _).mono ?_; rintro e x5 ⟨rfl, rfl⟩)
      | (go_at_call 18; refine (C2 _).mono ?_; rintro e x6 ⟨rfl, rfl⟩)
      | (go_at_call 19; refine (O2 _).mono ?_; rintro e x7 ⟨rfl, h7⟩)
      | (go_at_call 20; refine (W2 _).mono ?_; rintro e x8 ⟨rfl, h8⟩))
    go_ret
    exact ⟨rfl, Cb.keepB (Cb.keepB (Cb.keepB (Cb.keepB h1 h3) h4) h7) h8⟩
  · obtain ⟨K, hK⟩ : ∃ K, Wd.kindN x.size = K := ⟨_, rfl⟩
    have K1 : 1 ≤ K := by omega
    have K3 : K ≤ 3 := by
      have := hK
      unfold Wd.kindN at this
      split at this
      · omega
      · split at this
        · omega
        · split at this <;> omega
    have C1 := fun u => Ck.check_good x K hK K1 K3 u
    have C2 := fun u => Ok.check_ref x hz u
    clear hz hK K1 K3
    generalize (⟨(Od.oddL x.data.toList).toArray⟩ : ByteArray) = O at *
    generalize Wk.wkU x (Wd.kindN x.size) = W at *
    generalize (⟨((Pla.byW (Pla.enc x.data.toList Ck.z64)).take 3).toArray⟩ : ByteArray) = T at *
    go_enter Try.func5, Try.ntmps5
    go_wp2_with (first
      | (go_at_call 9; refine (Ck.known_any _).mono ?_; rintro e x1 ⟨rfl, h1⟩)
      | (go_at_call 12; refine (S1 _).mono ?_; rintro e x2 ⟨rfl, rfl⟩)
      | (go_at_call 15; refine (O1 _).mono ?_; rintro e x3 ⟨rfl, h3⟩)
      | (go_at_call 16; refine (W1 _).mono ?_; rintro e x4 ⟨rfl, h4⟩)
      | (go_at_call 17; refine (C1 _).mono ?_; rintro e x5 ⟨rfl, h5⟩)
      | (go_at_call 18; refine (C2 _).mono ?_; rintro e x6 ⟨rfl, h6⟩)
      | (go_at_call 19; refine (O2 _).mono ?_; rintro e x7 ⟨rfl, h7⟩)
      | (go_at_call 20; refine (W2 _).mono ?_; rintro e x8 ⟨rfl, h8⟩))
    go_ret
    exact ⟨rfl, Cb.keepB (Cb.keepB (Cb.keepB (Cb.keepB (Cb.keepB (Cb.keepB h1 h3) h4) h5) h6) h7) h8⟩

theorem contract (H : Type) (enc : TypeId × Value → H) (W : World) (base : Nat) (args : Array Value) (ds gs : List (DataW H)) (before : List MemPlace)
    (hval : ∀ (j : Nat) t v, Try.f5.params[j]? = some t → args[j]? = some v → Value.okWide Try.prog W .any base t v)
    (hW : DataW.Whole enc Try.prog Try.f5.params.toList Rows.cipherKeysSpec.vars false W args.toList ds gs before) :
    Calls Try.prog 5 args W fun e W' => ∃ v, e = .returned v ∧ Rows.cipherKeysSpec.post enc Try.prog Try.f5 false true false false W args v W' := by
  have hW' := hW
  obtain ⟨p, q, hA0, hV, rfl, hfz, hnd⟩ := hW
  have hA : DataW.TrodAll enc Try.prog W 0 (fun _ => true) true Try.f5.params.toList args.toList ds p := hA0
  rw [Try.params5] at hA hval
  obtain ⟨v0, vs0, d0, ds0, p0, q0, hargs, rfl, rfl, h0, r0⟩ := trodAll_cons hA
  obtain ⟨rfl, rfl, rfl⟩ := trodAll_nil r0
  obtain rfl : args = #[v0] := by cases args; simp_all
  obtain ⟨rfl, rfl⟩ := trodVars_none hV
  obtain ⟨a0, rfl, rfl, rfl, w0⟩ := open_string Try.underlying9 (hval 0 9 v0 rfl rfl) h0
  clear hA0
  refine (walk a0 W w0).mono fun e W' ⟨he, bel⟩ => ?_
  subst he
  exact ⟨_, rfl, _, _, _, [], _, [], hW', trodAll_mk1 (shut_bool Try.underlying4 _), (trodAll_cons_mk (shut_string Try.underlying9 w0) trodAll_mk0), rfl, bel.frame _, fun h => by cases h⟩

set_option maxRecDepth 100000 in
theorem lifted (os : Os) (started : os.Started) (H : Type) (enc : TypeId × Value → H) :
    ReturnsInHanded {} Try.checked os 5 .any (Rows.cipherKeysSpec.pre6 enc Try.prog Try.f5 Rows.cipherKeysRow.domain false) (Rows.cipherKeysSpec.post enc Try.prog Try.f5 false true false false) := by
  refine returnsInHanded_of_change (C := Try.checked) own started (by kernel_rfl) Try.func5
    (ChangeSpec.witness6 (enc := enc) (C := Try.checked) false ⟨#[], #[.string .empty], []⟩ 8 (by kernel_rfl) (by kernel_rfl) (by kernel_rfl) (by kernel_rfl)) ?_
  intro W base args ds gs before hval hW _ _
  exact contract H enc W base args ds gs before hval hW

theorem proved : Rows.CipherKeysSaid :=
  OpenClaim.holds_of_wide 5 Try.f5 rfl rfl rfl rfl rfl rfl rfl ⟨rfl, rfl, rfl, rfl, rfl⟩ rfl rfl rfl rfl rfl (by kernel_rfl) Try.func5 (by kernel_rfl)
    (of_decide_eq_true (by kernel_rfl)) (by unfold Func.isWrapper; first | (rw [if_pos (by decide +kernel)]; kernel_rfl) | (rw [if_neg (by decide +kernel)]; exact ⟨rfl, rfl⟩))
    (fun os started H enc _ => lifted os started H enc)
#print axioms proved
end Go.Proofs.Ytlnnhhnnkdfddaa.cipherKeys
