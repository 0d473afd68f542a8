/- CipherTurned: the law out of the contracts; the frame of the row. -/
import Derived.Test.YtlnnhhnnkdfddabRows
import Derived.WalkKit
import Derived.ProofKit
import Derived.OpenShut
import Derived.ShutString
import Derived.ChangeOld
import Derived.Below
import Derived.JoinedCond
import Derived.Carry
import Derived.Test.YtlnnhhnnkdfddabUl
namespace Go.Proofs.Ytlnnhhnnkdfddab.cipherTurned
open Go.ChangeShapes Go.WideShapes Go.ChangeAt Go.RowKit
open Go.ChangeMaps (open_string shut_string)
set_option linter.unusedVariables false

theorem own : ownKnob Try.prog.godebug = none := by kernel_rfl

set_option maxRecDepth 100000 in
set_option maxHeartbeats 3200000 in
theorem walk (a0 : ByteArray) (a1 : Int) (a2 : ByteArray) (w : World) (w0 : a0.size ≤ maxLen) (w1 : (Lit.int .i64 a1).wf = true) (w2 : a2.size ≤ maxLen) :
    Calls Try.prog 3 #[.string a0, .int .i64 a1, .string a2] w fun e w' => e = .returned (.bool true) ∧ Below w.heap.size w w' := by
  obtain ⟨p, hp, hp3⟩ : ∃ p : Nat, Pick.pickOf a1 3 = (p : Int) ∧ p < 3 := ⟨(Pick.pickOf a1 3).toNat, by have := Pick.pick_lo a1 3 (by decide); omega, by have := Pick.pick_hi a1 3 (by decide); omega⟩
  have b1 : -9223372036854775808 ≤ a1 ∧ a1 ≤ 9223372036854775807 := by
    have := w1
    simp [Lit.wf, IntKind.min, IntKind.max, IntKind.signed, IntKind.bits] at this
    omega
  have PI := fun u => Pick.pick_any a1 3 u b1.1 b1.2 (by decide) (by decide)
  rw [hp] at PI
  have F1 : ∀ u, Calls Try.prog 8 #[.string a0, .int .i64 (8 + 8 * (p : Int))] u fun e w' => ∃ r : ByteArray, e = .returned (.string r) ∧ r.size = 8 + 8 * p ∧ Below u.heap.size u w' := fun u => Fi.fit_any a0 (8 + 8 * p) (by omega) u
  have WH := fun u => Fi.whole_any a2 20 (by decide) u (by have := w2; unfold maxLen at this; omega)
  have hp2 : (p : Int) < 3 := by omega
  have hp0 : (0 : Int) ≤ (p : Int) := by omega
  have hp4 : Hid (p < 3) := hp3
  clear hp hp3 b1 w1
  go_enter Try.func3, Try.ntmps3
  go_wp2_with (first
    | (go_at_call 7; refine (Ck.known_any _).mono ?_; rintro e y1 ⟨rfl, h1⟩)
    | (go_at_call 9; refine (PI _).mono ?_; rintro e u ⟨rfl, rfl⟩)
    | (go_at_call 8; refine (F1 _).mono ?_; rintro e y2 ⟨r, rfl, hr, h2⟩)
    | (go_at_call 10; refine (WH _).mono ?_; rintro e u ⟨t, N, rfl, hN, hN2, hu⟩; rw [hu]; obtain ⟨A, KO, TO, AO, zA, U1, O1, O2, U2, O3⟩ := Ul.turn_all r t p N hr hp4.out hN (by omega); have q1 : ((A.size : Int) == (t.size : Int)) = true := beq_iff_eq.mpr (by omega); clear hr hN hN2 hu zA)
    | (go_at_call_of 11 (Value.string r); refine (U1 _).mono ?_; rintro e y3 ⟨rfl, h3⟩)
    | (go_at_call_of 12 (Value.string r); refine (O1 _).mono ?_; rintro e y4 ⟨rfl, h4⟩)
    | (go_at_call_of 12 (Value.string t); refine (O2 _).mono ?_; rintro e y5 ⟨rfl, h5⟩)
    | (go_at_call_of 11 (Value.string KO); refine (U2 _).mono ?_; rintro e y6 ⟨rfl, h6⟩)
    | (go_at_call_of 12 (Value.string A); refine (O3 _).mono ?_; rintro e y7 ⟨rfl, h7⟩))
  go_ret
  exact ⟨rfl, Cb.keepB (Cb.keepB (Cb.keepB (Cb.keepB (Cb.keepB (Cb.keepB (h1) h2) h3) h4) h5) h6) h7⟩

theorem contract (H : Type) (enc : TypeId × Value → H) (W : World) (base : Nat) (args : Array Value) (ds gs : List (DataW H)) (before : List MemPlace)
    (hval : ∀ (j : Nat) t v, Try.f3.params[j]? = some t → args[j]? = some v → Value.okWide Try.prog W .any base t v)
    (hW : DataW.Whole enc Try.prog Try.f3.params.toList Rows.cipherTurnedSpec.vars false W args.toList ds gs before) :
    Calls Try.prog 3 args W fun e W' => ∃ v, e = .returned v ∧ Rows.cipherTurnedSpec.post enc Try.prog Try.f3 false true false false W args v W' := by
  have hW' := hW
  obtain ⟨p, q, hA0, hV, rfl, hfz, hnd⟩ := hW
  have hA : DataW.TrodAll enc Try.prog W 0 (fun _ => true) true Try.f3.params.toList args.toList ds p := hA0
  rw [Try.params3] at hA hval
  obtain ⟨v0, vs0, d0, ds0, p0, q0, hargs, rfl, rfl, h0, r0⟩ := trodAll_cons hA
  obtain ⟨v1, vs1, d1, ds1, p1, q1, rfl, rfl, rfl, h1, r1⟩ := trodAll_cons r0
  obtain ⟨v2, vs2, d2, ds2, p2, q2, rfl, rfl, rfl, h2, r2⟩ := trodAll_cons r1
  obtain ⟨rfl, rfl, rfl⟩ := trodAll_nil r2
  obtain rfl : args = #[v0, v1, v2] := by cases args; simp_all
  obtain ⟨rfl, rfl⟩ := trodVars_none hV
  obtain ⟨a0, rfl, rfl, rfl, w0⟩ := open_string Try.underlying9 (hval 0 9 v0 rfl rfl) h0
  obtain ⟨a1, rfl, rfl, rfl, w1⟩ := open_int Try.underlying3 (hval 1 3 v1 rfl rfl) h1
  obtain ⟨a2, rfl, rfl, rfl, w2⟩ := open_string Try.underlying9 (hval 2 9 v2 rfl rfl) h2
  clear hA0
  refine (walk a0 a1 a2 W w0 w1 w2).mono fun e W' ⟨he, bel⟩ => ?_
  subst he
  exact ⟨_, rfl, _, _, _, [], _, [], hW', trodAll_mk1 (shut_bool Try.underlying4 _), (trodAll_cons_mk (shut_string Try.underlying9 w0) (trodAll_cons_mk (shut_int Try.underlying3 w1) (trodAll_cons_mk (shut_string Try.underlying9 w2) trodAll_mk0))), rfl, bel.frame _, fun h => by cases h⟩

set_option maxRecDepth 100000 in
theorem lifted (os : Os) (started : os.Started) (H : Type) (enc : TypeId × Value → H) :
    ReturnsInHanded {} Try.checked os 3 .any (Rows.cipherTurnedSpec.pre6 enc Try.prog Try.f3 Rows.cipherTurnedRow.domain false) (Rows.cipherTurnedSpec.post enc Try.prog Try.f3 false true false false) := by
  refine returnsInHanded_of_change (C := Try.checked) own started (by kernel_rfl) Try.func3
    (ChangeSpec.witness6 (enc := enc) (C := Try.checked) false ⟨#[], #[.string .empty, .int .i64 0, .string .empty], []⟩ 8 (by kernel_rfl) (by kernel_rfl) (by kernel_rfl) (by kernel_rfl)) ?_
  intro W base args ds gs before hval hW _ _
  exact contract H enc W base args ds gs before hval hW

theorem proved : Rows.CipherTurnedSaid :=
  OpenClaim.holds_of_wide 3 Try.f3 rfl rfl rfl rfl rfl rfl rfl ⟨rfl, rfl, rfl, rfl, rfl⟩ rfl rfl rfl rfl rfl (by kernel_rfl) Try.func3 (by kernel_rfl)
    (of_decide_eq_true (by kernel_rfl)) (by unfold Func.isWrapper; first | (rw [if_pos (by decide +kernel)]; kernel_rfl) | (rw [if_neg (by decide +kernel)]; exact ⟨rfl, rfl⟩))
    (fun os started H enc _ => lifted os started H enc)
#print axioms proved
end Go.Proofs.Ytlnnhhnnkdfddab.cipherTurned
