/- SealFilled: the law out of the contracts; the frame of the row. -/
import Derived.Test.YtpifebapodfeaaaRows
import Derived.WalkKit
import Derived.ProofKit
import Derived.OpenShut
import Derived.ShutString
import Derived.ChangeOld
import Derived.Below
import Derived.JoinedCond
import Derived.Carry
import Derived.SizedLaws
import Derived.Test.YtpifebapodfeaaaFl
namespace Go.Proofs.Ytpifebapodfeaaa.sealFilled
open Go.ChangeShapes Go.WideShapes Go.ChangeAt Go.RowKit
open Go.ChangeMaps (open_string shut_string)
set_option linter.unusedVariables false

theorem own : ownKnob Try.prog.godebug = none := by kernel_rfl

set_option maxRecDepth 100000 in
set_option maxHeartbeats 1600000 in
theorem walk (a0 : ByteArray) (a1 : ByteArray) (a2 : Int) (a3 : ByteArray) (w : World) (w0 : a0.size ≤ maxLen) (w1 : a1.size ≤ maxLen) (w2 : (Lit.int .i64 a2).wf = true) (w3 : a3.size ≤ maxLen) (k0 : a0.size ≤ 1048576) (k1 : a1.size ≤ 1048576) (k3 : a3.size ≤ 1048576) :
    Calls Try.prog 6 #[.string a0, .string a1, .int .i64 a2, .string a3] w fun e w' => e = .returned (.bool true) ∧ Below w.heap.size w w' := by
  obtain ⟨X, Y, P, k, hk, sP, HB, P2a, P2b, P1a, REST⟩ := Fl.all a0 a1 k0 k1
  obtain ⟨p, hp, PK⟩ := Ft.pick_nat a2 w2 (k + 1) (by omega) (by omega)
  rw [show ((k + 1 : Nat) : Int) = (k : Int) + 1 by omega] at PK
  obtain ⟨P1c, TAGS⟩ := REST p (by omega)
  have FI := fun y => Ft.fitted_any a3 8 (by decide) (by omega) y
  obtain ⟨i0, hi, hz0, hz1, hz2⟩ := info_parts Pd.info
  have q1 : (P.size : Int) - (a0.size : Int) = (k : Int) := by omega
  have q2 : ¬ (P.size : Int) < (a0.size : Int) := by omega
  have cc : ¬ 9223372036854775807 < a0.size + (Pe.zs p).size := by rw [Pe.zs_size]; omega
  have q3 : (p : Int) ≤ 8 := by omega
  have q4 : (0 : Int) ≤ (p : Int) := by omega
  have q5 : (P.size : Int) ≤ 1048600 := by omega
  have hp9 : p ≤ 9 := by omega
  obtain ⟨Zp, hZp⟩ : ∃ Z, Z = Pe.zs p := ⟨_, rfl⟩
  rw [← hZp] at P1c TAGS cc
  obtain ⟨C, hC⟩ : ∃ C, C = a0 ++ Zp := ⟨_, rfl⟩
  rw [← hC] at P1c TAGS
  have HC : Hid (C = a0 ++ Zp) := hC
  have HZ : Hid (Zp = Pe.zs p) := hZp
  clear REST sP hp hk hC hZp k0 k1 k3 w0 w1 w2 w3
  go_enter Try.func6, Try.ntmps6
  go_wp2_with (first
    | (go_at_call_of 8 (Value.string a1); refine (P2b _).mono ?_; rintro e x2 ⟨rfl, h2⟩)
    | (go_at_call_of 8 (Value.int .i64 2); refine (P2a _).mono ?_; rintro e x1 ⟨rfl, h1⟩)
    | (go_at_call 8; refine (P1a _).mono ?_; rintro e x3 ⟨rfl, h3⟩)
    | (go_at_call 13; refine (PK _).mono ?_; rintro e x4 ⟨rfl, h4⟩; rw [h4]))
  have hmk := Fl.madeP x3 p hp9
  have hcv := Fl.convP x3 p
  rw [← HZ.out] at hcv
  have h4b := Cb.below_one x3 (Obj.cells (Pd.R (List.replicate p 0)) 5)
  generalize x3.alloc (Obj.cells (Pd.R (List.replicate p 0)) 5) = W1 at *
  rw [hmk]
  go_wp2_with fail
  rw [← HC.out]
  go_wp2_with (first
    | (go_at_call 8; refine (P1c _).mono ?_; rintro e x5 ⟨rfl, h5⟩)
    | (go_at_call 14; refine (FI _).mono ?_; rintro e x6 ⟨r, rfl, hr, h6⟩; obtain ⟨S, U, sU, T1, T2, T3, T4⟩ := TAGS r hr; have u8 : ((U.size : Int) == 8) = true := by rw [sU]; rfl)
    | (go_at_call_of 11 (Value.string C); refine (T2 _).mono ?_; rintro e x8 ⟨rfl, h8⟩)
    | (go_at_call_of 11 (Value.int .i64 2); refine (T3 _).mono ?_; rintro e x9 ⟨rfl, h9⟩)
    | (go_at_call_of 11 (Value.string X); refine (T4 _).mono ?_; rintro e xa ⟨rfl, ha⟩)
    | (go_at_call 11; refine (T1 _).mono ?_; rintro e x7 ⟨rfl, h7⟩))
  go_ret
  have b1 := Cb.keepB (Cb.keepB h1 h2) h3
  have b2 := Cb.keepB (Cb.keepB (Cb.keepB b1 h4b) h5) h6
  exact ⟨rfl, Cb.keepB (Cb.keepB (Cb.keepB (Cb.keepB b2 h7) h8) h9) ha⟩

theorem contract (H : Type) (enc : TypeId × Value → H) (W : World) (base : Nat) (args : Array Value) (ds gs : List (DataW H)) (before : List MemPlace)
    (hval : ∀ (j : Nat) t v, Try.f6.params[j]? = some t → args[j]? = some v → Value.okWide Try.prog W .any base t v)
    (hW : DataW.Whole enc Try.prog Try.f6.params.toList Rows.sealFilledSpec.vars false W args.toList ds gs before) (hk : Rows.uptoSmall H (ds ++ gs) = true) :
    Calls Try.prog 6 args W fun e W' => ∃ v, e = .returned v ∧ Rows.sealFilledSpec.post enc Try.prog Try.f6 false true false false W args v W' := by
  have hW' := hW
  obtain ⟨p, q, hA0, hV, rfl, hfz, hnd⟩ := hW
  have hA : DataW.TrodAll enc Try.prog W 0 (fun _ => true) true Try.f6.params.toList args.toList ds p := hA0
  rw [Try.params6] at hA hval
  obtain ⟨v0, vs0, d0, ds0, p0, q0, hargs, rfl, rfl, h0, r0⟩ := trodAll_cons hA
  obtain ⟨v1, vs1, d1, ds1, p1, q1, rfl, rfl, rfl, h1, r1⟩ := trodAll_cons r0
  obtain ⟨v2, vs2, d2, ds2, p2, q2, rfl, rfl, rfl, h2, r2⟩ := trodAll_cons r1
  obtain ⟨v3, vs3, d3, ds3, p3, q3, rfl, rfl, rfl, h3, r3⟩ := trodAll_cons r2
  obtain ⟨rfl, rfl, rfl⟩ := trodAll_nil r3
  obtain rfl : args = #[v0, v1, v2, v3] := by cases args; simp_all
  obtain ⟨rfl, rfl⟩ := trodVars_none hV
  obtain ⟨a0, rfl, rfl, rfl, w0⟩ := open_string Try.underlying9 (hval 0 9 v0 rfl rfl) h0
  obtain ⟨a1, rfl, rfl, rfl, w1⟩ := open_string Try.underlying9 (hval 1 9 v1 rfl rfl) h1
  obtain ⟨a2, rfl, rfl, rfl, w2⟩ := open_int Try.underlying3 (hval 2 3 v2 rfl rfl) h2
  obtain ⟨a3, rfl, rfl, rfl, w3⟩ := open_string Try.underlying9 (hval 3 9 v3 rfl rfl) h3
  clear hA0
  simp only [List.append_nil] at hk
  have hk1 := of_decide_eq_true hk
  simp only [Rows.uptoBulkAll, Rows.uptoBulk] at hk1
  have e0 : a0.data.toList.length = a0.size := by rw [Array.length_toList]; rfl
  have e1 : a1.data.toList.length = a1.size := by rw [Array.length_toList]; rfl
  have e3 : a3.data.toList.length = a3.size := by rw [Array.length_toList]; rfl
  refine (walk a0 a1 a2 a3 W w0 w1 w2 w3 (by omega) (by omega) (by omega)).mono fun e W' ⟨he, bel⟩ => ?_
  subst he
  exact ⟨_, rfl, _, _, _, [], _, [], hW', trodAll_mk1 (shut_bool Try.underlying4 _), (trodAll_cons_mk (shut_string Try.underlying9 w0) (trodAll_cons_mk (shut_string Try.underlying9 w1) (trodAll_cons_mk (shut_int Try.underlying3 w2) (trodAll_cons_mk (shut_string Try.underlying9 w3) trodAll_mk0)))), rfl, bel.frame _, fun h => by cases h⟩

set_option maxRecDepth 100000 in
theorem lifted (os : Os) (started : os.Started) (H : Type) (enc : TypeId × Value → H) (F : Stop.Interp) :
    ReturnsInHanded {} Try.checked os 6 .any ((Rows.OpenSpec.upto Rows.sealFilledSpec).pre6 enc Try.prog Try.f6 Rows.sealFilledUptoRow.domain false) (((Rows.OpenSpec.upto Rows.sealFilledSpec).at F).post enc Try.prog Try.f6 false true false false) := by
  refine returnsInHanded_of_cond (C := Try.checked) (s := Rows.OpenSpec.upto Rows.sealFilledSpec) (k := Rows.uptoSmall) rfl own started (by kernel_rfl) Try.func6
    (OpenSpec.witness (enc := enc) (C := Try.checked) (s := Rows.OpenSpec.upto Rows.sealFilledSpec) (k := Rows.uptoSmall) rfl false ⟨#[], #[.string .empty, .string .empty, .int .i64 0, .string .empty], []⟩ 8 (by kernel_rfl) (by kernel_rfl) (by kernel_rfl)
      (x := ([.lit (.string []), .lit (.string []), .lit (.int .i64 0), .lit (.string [])], [], [])) (by kernel_rfl) rfl (by kernel_rfl)) ?_
  intro W base args ds gs before hval hW _ hk _
  exact contract H enc W base args ds gs before hval hW hk

theorem proved : Rows.SealFilledUptoSaid :=
  OpenClaim.holds_of_cond 6 Try.f6 rfl rfl rfl rfl rfl rfl rfl ⟨rfl, rfl, rfl, rfl, rfl⟩ rfl rfl rfl rfl rfl (by kernel_rfl) Try.func6 (by kernel_rfl)
    (of_decide_eq_true (by kernel_rfl)) (by unfold Func.isWrapper; first | (rw [if_pos (by decide +kernel)]; kernel_rfl) | (rw [if_neg (by decide +kernel)]; exact ⟨rfl, rfl⟩))
    (fun os started H enc _ F => lifted os started H enc F)
#print axioms proved
end Go.Proofs.Ytpifebapodfeaaa.sealFilled
