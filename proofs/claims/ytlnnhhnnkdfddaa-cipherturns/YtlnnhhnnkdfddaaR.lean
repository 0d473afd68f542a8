/- CipherTurns: the law out of the contracts; the frame of the row. -/
import Derived.Test.YtlnnhhnnkdfddaaRows
import Derived.WalkKit
import Derived.ProofKit
import Derived.OpenShut
import Derived.ShutString
import Derived.ChangeOld
import Derived.Below
import Derived.JoinedCond
import Derived.Carry
import Derived.Test.YtlnnhhnnkdfddaaTu
namespace Go.Proofs.Ytlnnhhnnkdfddaa.cipherTurns
open Go.ChangeShapes Go.WideShapes Go.ChangeAt Go.RowKit
open Go.ChangeMaps (open_string shut_string)
set_option linter.unusedVariables false

theorem own : ownKnob Try.prog.godebug = none := by kernel_rfl

set_option maxRecDepth 100000 in
set_option maxHeartbeats 3200000 in
theorem walk (a0 : ByteArray) (a1 : ByteArray) (w : World) (w0 : a0.size ≤ maxLen) (w1 : a1.size ≤ maxLen) :
    Calls Try.prog 3 #[.string a0, .string a1] w fun e w' => e = .returned (.bool true) ∧ Below w.heap.size w w' := by
  have S1 := fun y => Xo.some_any a1 800 (by decide) y
  have z1 := Xo.someB_size a1 800
  generalize Xo.someB a1 800 = t at *
  have LE := fun u => Rl.length_ref a0 u
  by_cases hz : Wd.kindN a0.size = 0
  · have el : Rl.lenB a0.size = false := by rw [Rl.len_kind, hz]; rfl
    rw [el] at LE
    have NB := Nw.new_bad a0 hz
    clear el hz
    go_enter Try.func3, Try.ntmps3
    go_wp2_with (first
      | (go_at_call 9; refine (Ck.known_any _).mono ?_; rintro e x1 ⟨rfl, h1⟩)
      | (go_at_call 10; refine (NB _).mono ?_; rintro e x2 ⟨rfl, rfl⟩)
      | (go_at_call 11; refine (LE _).mono ?_; rintro e x3 ⟨rfl, rfl⟩))
    go_ret
    exact ⟨rfl, h1⟩
  · have el : Rl.lenB a0.size = true := by rw [Rl.len_kind]; simp [hz]
    rw [el] at LE
    obtain ⟨K, hK⟩ : ∃ K, Wd.kindN a0.size = K := ⟨_, rfl⟩
    have K1 : 1 ≤ K := by omega
    have K3 : K ≤ 3 := by
      have := hK
      unfold Wd.kindN at this
      split at this
      · omega
      · split at this
        · omega
        · split at this <;> omega
    have NG := Nw.new_good a0 K hK K1 K3
    have TU := fun g u back hk => Tu.turned_any g K a0 t back hK K1 (by omega) u hk
    clear el hz hK
    go_enter Try.func3, Try.ntmps3
    go_wp2_with (first
      | (go_at_call 9; refine (Ck.known_any _).mono ?_; rintro e x1 ⟨rfl, h1⟩)
      | (go_at_call 10; refine (NG _).mono ?_; rintro e x2 ⟨g, rfl, hg, hx, h2⟩; have k2 := Bl.keyOf hx)
      | (go_at_call 11; refine (LE _).mono ?_; rintro e x3 ⟨rfl, hx3⟩; rw [hx3])
      | (go_at_call 12; refine (S1 _).mono ?_; rintro e x4 ⟨rfl, hx4⟩; rw [hx4])
      | (go_at_call_of 13 (Value.bool false); refine (TU g _ false k2).mono ?_; rintro e x5 ⟨rfl, h5⟩; have k5 := Bk.key_kept h5 k2)
      | (go_at_call_of 13 (Value.bool true); refine (TU g _ true k5).mono ?_; rintro e x6 ⟨rfl, h6⟩))
    go_ret
    exact ⟨rfl, Cb.keepB (Cb.keepB (Cb.keepB h1 h2) h5) h6⟩

theorem contract (H : Type) (enc : TypeId × Value → H) (W : World) (base : Nat) (args : Array Value) (ds gs : List (DataW H)) (before : List MemPlace)
    (hval : ∀ (j : Nat) t v, Try.f3.params[j]? = some t → args[j]? = some v → Value.okWide Try.prog W .any base t v)
    (hW : DataW.Whole enc Try.prog Try.f3.params.toList Rows.cipherTurnsSpec.vars false W args.toList ds gs before) :
    Calls Try.prog 3 args W fun e W' => ∃ v, e = .returned v ∧ Rows.cipherTurnsSpec.post enc Try.prog Try.f3 false true false false W args v W' := by
  have hW' := hW
  obtain ⟨p, q, hA0, hV, rfl, hfz, hnd⟩ := hW
  have hA : DataW.TrodAll enc Try.prog W 0 (fun _ => true) true Try.f3.params.toList args.toList ds p := hA0
  rw [Try.params3] at hA hval
  obtain ⟨v0, vs0, d0, ds0, p0, q0, hargs, rfl, rfl, h0, r0⟩ := trodAll_cons hA
  obtain ⟨v1, vs1, d1, ds1, p1, q1, rfl, rfl, rfl, h1, r1⟩ := trodAll_cons r0
  obtain ⟨rfl, rfl, rfl⟩ := trodAll_nil r1
  obtain rfl : args = #[v0, v1] := by cases args; simp_all
  obtain ⟨rfl, rfl⟩ := trodVars_none hV
  obtain ⟨a0, rfl, rfl, rfl, w0⟩ := open_string Try.underlying9 (hval 0 9 v0 rfl rfl) h0
  obtain ⟨a1, rfl, rfl, rfl, w1⟩ := open_string Try.underlying9 (hval 1 9 v1 rfl rfl) h1
  clear hA0
  refine (walk a0 a1 W w0 w1).mono fun e W' ⟨he, bel⟩ => ?_
  subst he
  exact ⟨_, rfl, _, _, _, [], _, [], hW', trodAll_mk1 (shut_bool Try.underlying4 _), (trodAll_cons_mk (shut_string Try.underlying9 w0) (trodAll_cons_mk (shut_string Try.underlying9 w1) trodAll_mk0)), rfl, bel.frame _, fun h => by cases h⟩

set_option maxRecDepth 100000 in
theorem lifted (os : Os) (started : os.Started) (H : Type) (enc : TypeId × Value → H) :
    ReturnsInHanded {} Try.checked os 3 .any (Rows.cipherTurnsSpec.pre6 enc Try.prog Try.f3 Rows.cipherTurnsRow.domain false) (Rows.cipherTurnsSpec.post enc Try.prog Try.f3 false true false false) := by
  refine returnsInHanded_of_change (C := Try.checked) own started (by kernel_rfl) Try.func3
    (ChangeSpec.witness6 (enc := enc) (C := Try.checked) false ⟨#[], #[.string .empty, .string .empty], []⟩ 8 (by kernel_rfl) (by kernel_rfl) (by kernel_rfl) (by kernel_rfl)) ?_
  intro W base args ds gs before hval hW _ _
  exact contract H enc W base args ds gs before hval hW

theorem proved : Rows.CipherTurnsSaid :=
  OpenClaim.holds_of_wide 3 Try.f3 rfl rfl rfl rfl rfl rfl rfl ⟨rfl, rfl, rfl, rfl, rfl⟩ rfl rfl rfl rfl rfl (by kernel_rfl) Try.func3 (by kernel_rfl)
    (of_decide_eq_true (by kernel_rfl)) (by unfold Func.isWrapper; first | (rw [if_pos (by decide +kernel)]; kernel_rfl) | (rw [if_neg (by decide +kernel)]; exact ⟨rfl, rfl⟩))
    (fun os started H enc _ => lifted os started H enc)
#print axioms proved
end Go.Proofs.Ytlnnhhnnkdfddaa.cipherTurns
