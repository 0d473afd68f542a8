/- CardMasks: the law out of the contracts; the frame of the row. -/
import Derived.Test.YtbdkflfgmdcciabRows
import Derived.WalkKit
import Derived.ProofKit
import Derived.OpenShut
import Derived.ShutString
import Derived.ChangeOld
import Derived.Below
import Derived.JoinedCond
import Derived.Carry
import Derived.SizedLaws
import Derived.Test.YtbdkflfgmdcciabKz
import Derived.Test.YtbdkflfgmdcciabKn
namespace Go.Proofs.Ytbdkflfgmdcciab.cardMasks
open Go.ChangeShapes Go.WideShapes Go.ChangeAt Go.RowKit
open Go.ChangeMaps (open_string shut_string)
set_option linter.unusedVariables false

theorem own : ownKnob Try.prog.godebug = none := by kernel_rfl

set_option maxRecDepth 100000 in
set_option maxHeartbeats 1600000 in
theorem walk (a0 : ByteArray) (w : World) (w0 : a0.size ≤ maxLen) (k0 : a0.size ≤ 1048576) :
    Calls Try.prog 5 #[.string a0] w fun e w' => e = .returned (.bool true) ∧ Below w.heap.size w w' := by
  have p1 := fun y => Km.mask_any a0 y (by omega)
  have p2 := fun y => Km.mask_any ⟨(Kp.maskL a0.data.toList).toArray⟩ y (by show (Kp.maskL a0.data.toList).length ≤ _; rw [Kp.maskL_length, Kp.sz]; omega)
  rw [show (⟨(Kp.maskL a0.data.toList).toArray⟩ : ByteArray).data.toList = Kp.maskL a0.data.toList from rfl, Kn.maskL_twice] at p2
  have hz : (⟨(Kp.maskL a0.data.toList).toArray⟩ : ByteArray).size = a0.size := Kp.maskL_length _
  have hat : ∀ (M : ByteArray), M = ⟨(Kp.maskL a0.data.toList).toArray⟩ → ∀ (k : Nat) (h1 : k < a0.size) (h2 : k < M.size), M[k] = (Kp.maskL a0.data.toList).getD k 42 ∧ (M[k] ≠ 42 → M[k] = a0[k]) := by
    intro M hM k h1 h2
    subst hM
    have e : (⟨(Kp.maskL a0.data.toList).toArray⟩ : ByteArray)[k] = (Kp.maskL a0.data.toList)[k]'(by rw [Kp.maskL_length]; exact h1) := rfl
    refine ⟨?_, ?_⟩
    · rw [e, List.getD_eq_getElem?_getD, List.getElem?_eq_getElem (by rw [Kp.maskL_length]; exact h1)]; rfl
    · rw [e, Kn.maskL_at _ _ h1]
      intro hn
      split
      · rfl
      · rename_i h; rw [if_neg h] at hn; exact absurd rfl hn
  have hat' := hat _ rfl
  generalize (⟨(Kp.maskL a0.data.toList).toArray⟩ : ByteArray) = M at *
  have HZ : Hid (M.size = a0.size) := hz
  have q1 : ((M.size : Int) != (a0.size : Int)) = false := by simp; omega
  have HA : Hid (∀ (k : Nat) (h1 : k < a0.size) (h2 : k < M.size), M[k] = (Kp.maskL a0.data.toList).getD k 42 ∧ (M[k] ≠ 42 → M[k] = a0[k])) := hat'
  have hM : M.size ≤ 1048576 := by omega
  clear hz hat hat'
  go_enter Try.func5, Try.ntmps5
  go_wp2_with fail
  refine (Kz.examples_any _).mono ?_
  rintro e y0 ⟨rfl, h0⟩
  go_wp2_with fail
  refine (p1 _).mono ?_
  rintro e y1 ⟨rfl, h1⟩
  have b1 := Kb.keepB h0 h1
  clear h0 h1
  go_wp2
  go_loopw [5, 6] (fun n i wr => ∃ k v : Nat, k ≤ a0.size ∧ i = .int .i64 (k : Int) ∧ n = .int .i64 (v : Int) ∧ v ≤ 10 ∧ Hid (v = Kn.shw a0.data.toList k) ∧ Below w.heap.size w wr) (fun _ i _ => a0.size - (intOf i).toNat)
  case atStart => exact ⟨0, 0, Nat.zero_le _, rfl, rfl, by omega, rfl, b1⟩
  case round =>
    obtain ⟨k, v, hk, rfl, rfl, hv, Hv, bw⟩ := hrel
    rename World => w9
    by_cases hlt : k < a0.size
    · have hltM : k < M.size := by have := HZ.out; omega
      have hl1 : (k : Int) < a0.size := by omega
      have hl2 : (k : Int) < M.size := by omega
      obtain ⟨e1, e2⟩ := HA.out k hlt hltM
      have ten := Kn.shw_ten a0.data.toList (k + 1) (by rw [Kp.sz]; omega)
      have HS : Hid (Kn.shw a0.data.toList (k + 1) = v + if M[k] != 42 then 1 else 0) := by show _ = _; rw [Kn.shw, ← e1, Hv.out]
      by_cases h42 : M[k] = 42
      · have z : (M[k].toNat : Int) = 42 := by rw [h42]; rfl
        have HS2 : Hid (v = Kn.shw a0.data.toList (k + 1)) := by show _ = _; rw [HS.out, h42]; rfl
        clear e1 e2 h42 ten
        go_wp2
        go_round
        case rel => exact ⟨k + 1, v, by omega, by go_num, rfl, hv, HS2, bw⟩
        case measure => simp [intOf]; omega
      · have z : ((M[k].toNat : Int) != 42) = true := by
          simp only [bne_iff_ne]; intro hh; apply h42; apply UInt8.toNat_inj.1; have : (42 : UInt8).toNat = 42 := rfl; omega
        have z2 : ((M[k].toNat : Int) != (a0[k].toNat : Int)) = false := by rw [e2 h42]; simp
        have HS2 : Hid (v + 1 = Kn.shw a0.data.toList (k + 1)) := by
          show _ = _; rw [HS.out, show (M[k] != 42) = true by simpa using h42]; rfl
        have hv1 : v + 1 ≤ 10 := by rw [HS2.out]; exact ten
        clear e1 e2 h42 ten
        go_wp2_with fail
        go_quiet (fail)
        have bq := Kb.below_drewN bw nq
        go_wp2
        go_round
        case rel => exact ⟨k + 1, v + 1, by omega, by go_num, by go_num, hv1, HS2, bq⟩
        case measure => simp [intOf]; omega
    · have hl1 : ¬ (k : Int) < a0.size := by omega
      have hl2 : ¬ (k : Int) < M.size := by have := HZ.out; omega
      have hv' : (v : Int) ≤ 10 := by omega
      go_wp2_with fail
      refine (p2 _).mono ?_
      rintro e y2 ⟨rfl, h2⟩
      go_wp2
      go_ret
      exact ⟨by simp, Kb.keepB bw h2⟩

set_option maxRecDepth 100000 in
theorem contract (H : Type) (enc : TypeId × Value → H) (W : World) (base : Nat) (args : Array Value) (ds gs : List (DataW H)) (before : List MemPlace)
    (hval : ∀ (j : Nat) t v, Try.f5.params[j]? = some t → args[j]? = some v → Value.okWide Try.prog W .any base t v)
    (hW : DataW.Whole enc Try.prog Try.f5.params.toList Rows.cardMasksSpec.vars false W args.toList ds gs before) (hk : Rows.uptoSmall H (ds ++ gs) = true) :
    Calls Try.prog 5 args W fun e W' => ∃ v, e = .returned v ∧ Rows.cardMasksSpec.post enc Try.prog Try.f5 false true false false W args v W' := by
  have hW' := hW
  obtain ⟨p, q, hA0, hV, rfl, hfz, hnd⟩ := hW
  have hA : DataW.TrodAll enc Try.prog W 0 (fun _ => true) true Try.f5.params.toList args.toList ds p := hA0
  rw [Try.params5] at hA hval
  obtain ⟨v0, vs0, d0, ds0, p0, q0, hargs, rfl, rfl, h0, r0⟩ := trodAll_cons hA
  obtain ⟨rfl, rfl, rfl⟩ := trodAll_nil r0
  obtain rfl : args = #[v0] := by cases args; simp_all
  obtain ⟨rfl, rfl⟩ := trodVars_none hV
  obtain ⟨a0, rfl, rfl, rfl, w0⟩ := open_string Try.underlying9 (hval 0 9 v0 rfl rfl) h0
  clear hA0
  simp only [List.append_nil] at hk
  have hk1 := of_decide_eq_true hk
  simp only [Rows.uptoBulkAll, Rows.uptoBulk] at hk1
  have e0 : a0.data.toList.length = a0.size := by rw [Array.length_toList]; rfl
  refine (walk a0 W w0 (by omega)).mono fun e W' ⟨he, bel⟩ => ?_
  subst he
  exact ⟨_, rfl, _, _, _, [], _, [], hW', trodAll_mk1 (shut_bool Try.underlying4 _), (trodAll_cons_mk (shut_string Try.underlying9 w0) trodAll_mk0), rfl, bel.frame _, fun h => by cases h⟩

set_option maxRecDepth 100000 in
theorem lifted (os : Os) (started : os.Started) (H : Type) (enc : TypeId × Value → H) (F : Stop.Interp) :
    ReturnsInHanded {} Try.checked os 5 .any ((Rows.OpenSpec.upto Rows.cardMasksSpec).pre6 enc Try.prog Try.f5 Rows.cardMasksUptoRow.domain false) (((Rows.OpenSpec.upto Rows.cardMasksSpec).at F).post enc Try.prog Try.f5 false true false false) := by
  refine returnsInHanded_of_cond (C := Try.checked) (s := Rows.OpenSpec.upto Rows.cardMasksSpec) (k := Rows.uptoSmall) rfl own started (by kernel_rfl) Try.func5
    (OpenSpec.witness (enc := enc) (C := Try.checked) (s := Rows.OpenSpec.upto Rows.cardMasksSpec) (k := Rows.uptoSmall) rfl false ⟨#[], #[.string .empty], []⟩ 8 (by kernel_rfl) (by kernel_rfl) (by kernel_rfl)
      (x := ([.lit (.string [])], [], [])) (by kernel_rfl) rfl (by kernel_rfl)) ?_
  intro W base args ds gs before hval hW _ hk _
  exact contract H enc W base args ds gs before hval hW hk

theorem proved : Rows.CardMasksUptoSaid :=
  OpenClaim.holds_of_cond 5 Try.f5 rfl rfl rfl rfl rfl rfl rfl ⟨rfl, rfl, rfl, rfl, rfl⟩ rfl rfl rfl rfl rfl (by kernel_rfl) Try.func5 (by kernel_rfl)
    (of_decide_eq_true (by kernel_rfl)) (by unfold Func.isWrapper; first | (rw [if_pos (by decide +kernel)]; kernel_rfl) | (rw [if_neg (by decide +kernel)]; exact ⟨rfl, rfl⟩))
    (fun os started H enc _ F => lifted os started H enc F)
#print axioms proved
end Go.Proofs.Ytbdkflfgmdcciab.cardMasks
