/- SealTags: the law out of the contracts; the frame of the row. -/
import Derived.Test.YtpifebapodfeaaaRows
import Derived.WalkKit
import Derived.ProofKit
import Derived.OpenShut
import Derived.ShutString
import Derived.ChangeOld
import Derived.Below
import Derived.JoinedCond
import Derived.Carry
import Derived.SizedLaws
import Derived.Test.YtpifebapodfeaaaRg
import Derived.Test.YtpifebapodfeaaaKt
import Derived.Test.YtpifebapodfeaaaFt
import Derived.Test.YtpifebapodfeaaaPick
namespace Go.Proofs.Ytpifebapodfeaaa.sealTags
open Go.ChangeShapes Go.WideShapes Go.ChangeAt Go.RowKit
open Go.ChangeMaps (open_string shut_string)
set_option linter.unusedVariables false

theorem own : ownKnob Try.prog.godebug = none := by kernel_rfl

set_option maxRecDepth 100000 in
set_option maxHeartbeats 1600000 in
theorem walk (a0 : Int) (a1 : Int) (a2 : ByteArray) (a3 : ByteArray) (w : World) (w0 : (Lit.int .i64 a0).wf = true) (w1 : (Lit.int .i64 a1).wf = true) (w2 : a2.size ≤ maxLen) (w3 : a3.size ≤ maxLen) (k2 : a2.size ≤ 1048576) (k3 : a3.size ≤ 1048576) :
    Calls Try.prog 4 #[.int .i64 a0, .int .i64 a1, .string a2, .string a3] w fun e w' => e = .returned (.bool true) ∧ Below w.heap.size w w' := by
  have K1 := fun y => Tg.Tag_good 1 1 (.inl rfl) (.inl rfl) ⟨#[1, 35, 69, 103, 137, 171, 205, 239]⟩ rfl ⟨#[78, 111, 119, 32, 105, 115, 32, 116, 104, 101, 32, 116, 105, 109, 101, 32, 102, 111, 114, 32, 97, 108, 108, 32]⟩ (by decide) y
  rw [show Sp.tagB 1 1 ⟨#[1, 35, 69, 103, 137, 171, 205, 239]⟩ ⟨#[78, 111, 119, 32, 105, 115, 32, 116, 104, 101, 32, 116, 105, 109, 101, 32, 102, 111, 114, 32, 97, 108, 108, 32]⟩ = ⟨#[0x70, 0xa3, 0x06, 0x40, 0xcc, 0x76, 0xdd, 0x8b]⟩ from Kt.t_tag] at K1
  obtain ⟨p0, alg, l0, l1, hal, hA, PK⟩ := Ft.pick_alg a0 w0
  obtain ⟨p1, m, l2, l3, hm, hM, PM⟩ := Ft.pick_met a1 w1
  obtain ⟨X, E, e0, e1, TX, RX⟩ := Rg.both a0 a1 a2 a3 (by omega)
  have FI := fun y => Ft.fitted_any a2 (4 + 4 * alg) (by omega) (by omega) y
  have TG := fun (r : ByteArray) (hr : r.size = 4 + 4 * alg) y => Tg.Tag_good alg m hal hm r hr a3 (by omega) y
  have RG := fun (r : ByteArray) (hr : r.size = 4 + 4 * alg) y => Rg.tagr_good alg m hal hm r hr a3 (by omega) y
  have hZ : 4 + 4 * (alg : Int) = ((4 + 4 * alg : Nat) : Int) := by omega
  have hal2 : (1 : Int) ≤ (alg : Int) ∧ (alg : Int) ≤ 3 := by omega
  have hm2 : (1 : Int) ≤ (m : Int) ∧ (m : Int) ≤ 2 := by omega
  obtain ⟨g1, g2⟩ := hal2
  obtain ⟨g3, g4⟩ := hm2
  generalize (4 + 4 * alg) = Z at *
  generalize (alg : Int) = Al at *
  generalize (m : Int) = Me at *
  clear hal hm
  go_enter Try.func4, Try.ntmps4
  go_wp2_with (first
    | (go_at_call_of 13 (Value.int .i64 a0); refine (PK _).mono ?_; rintro e x4 ⟨rfl, h4⟩; rw [h4])
    | (go_at_call_of 13 (Value.int .i64 a1); refine (PM _).mono ?_; rintro e x5 ⟨rfl, h5⟩; rw [h5])
    | (go_at_call_of 11 (Value.string a2); refine (TX _).mono ?_; rintro e x2 ⟨rfl, h2⟩)
    | (go_at_call_of 12 (Value.string a2); refine (RX _).mono ?_; rintro e x3 ⟨rfl, h3⟩)
    | (go_at_call_of 11 (Value.string ⟨#[1, 35, 69, 103, 137, 171, 205, 239]⟩); refine (K1 _).mono ?_; rintro e x1 ⟨rfl, h1⟩)
    | (go_at_call 14; refine (FI _).mono ?_; rintro e x6 ⟨r, rfl, hr, h6⟩)
    | (go_at_call 11; refine (TG r hr _).mono ?_; rintro e x7 ⟨rfl, h7⟩)
    | (go_at_call 12; refine (RG r hr _).mono ?_; rintro e x8 ⟨rfl, h8⟩))
  go_ret
  exact ⟨rfl, Cb.keepB (Cb.keepB (Cb.keepB (Cb.keepB (Cb.keepB h1 h2) h3) h6) h7) h8⟩

theorem contract (H : Type) (enc : TypeId × Value → H) (W : World) (base : Nat) (args : Array Value) (ds gs : List (DataW H)) (before : List MemPlace)
    (hval : ∀ (j : Nat) t v, Try.f4.params[j]? = some t → args[j]? = some v → Value.okWide Try.prog W .any base t v)
    (hW : DataW.Whole enc Try.prog Try.f4.params.toList Rows.sealTagsSpec.vars false W args.toList ds gs before) (hk : Rows.uptoSmall H (ds ++ gs) = true) :
    Calls Try.prog 4 args W fun e W' => ∃ v, e = .returned v ∧ Rows.sealTagsSpec.post enc Try.prog Try.f4 false true false false W args v W' := by
  have hW' := hW
  obtain ⟨p, q, hA0, hV, rfl, hfz, hnd⟩ := hW
  have hA : DataW.TrodAll enc Try.prog W 0 (fun _ => true) true Try.f4.params.toList args.toList ds p := hA0
  rw [Try.params4] at hA hval
  obtain ⟨v0, vs0, d0, ds0, p0, q0, hargs, rfl, rfl, h0, r0⟩ := trodAll_cons hA
  obtain ⟨v1, vs1, d1, ds1, p1, q1, rfl, rfl, rfl, h1, r1⟩ := trodAll_cons r0
  obtain ⟨v2, vs2, d2, ds2, p2, q2, rfl, rfl, rfl, h2, r2⟩ := trodAll_cons r1
  obtain ⟨v3, vs3, d3, ds3, p3, q3, rfl, rfl, rfl, h3, r3⟩ := trodAll_cons r2
  obtain ⟨rfl, rfl, rfl⟩ := trodAll_nil r3
  obtain rfl : args = #[v0, v1, v2, v3] := by cases args; simp_all
  obtain ⟨rfl, rfl⟩ := trodVars_none hV
  obtain ⟨a0, rfl, rfl, rfl, w0⟩ := open_int Try.underlying3 (hval 0 3 v0 rfl rfl) h0
  obtain ⟨a1, rfl, rfl, rfl, w1⟩ := open_int Try.underlying3 (hval 1 3 v1 rfl rfl) h1
  obtain ⟨a2, rfl, rfl, rfl, w2⟩ := open_string Try.underlying9 (hval 2 9 v2 rfl rfl) h2
  obtain ⟨a3, rfl, rfl, rfl, w3⟩ := open_string Try.underlying9 (hval 3 9 v3 rfl rfl) h3
  clear hA0
  simp only [List.append_nil] at hk
  have hk1 := of_decide_eq_true hk
  simp only [Rows.uptoBulkAll, Rows.uptoBulk] at hk1
  have e2 : a2.data.toList.length = a2.size := by rw [Array.length_toList]; rfl
  have e3 : a3.data.toList.length = a3.size := by rw [Array.length_toList]; rfl
  refine (walk a0 a1 a2 a3 W w0 w1 w2 w3 (by omega) (by omega)).mono fun e W' ⟨he, bel⟩ => ?_
  subst he
  exact ⟨_, rfl, _, _, _, [], _, [], hW', trodAll_mk1 (shut_bool Try.underlying4 _), (trodAll_cons_mk (shut_int Try.underlying3 w0) (trodAll_cons_mk (shut_int Try.underlying3 w1) (trodAll_cons_mk (shut_string Try.underlying9 w2) (trodAll_cons_mk (shut_string Try.underlying9 w3) trodAll_mk0)))), rfl, bel.frame _, fun h => by cases h⟩

set_option maxRecDepth 100000 in
theorem lifted (os : Os) (started : os.Started) (H : Type) (enc : TypeId × Value → H) (F : Stop.Interp) :
    ReturnsInHanded {} Try.checked os 4 .any ((Rows.OpenSpec.upto Rows.sealTagsSpec).pre6 enc Try.prog Try.f4 Rows.sealTagsUptoRow.domain false) (((Rows.OpenSpec.upto Rows.sealTagsSpec).at F).post enc Try.prog Try.f4 false true false false) := by
  refine returnsInHanded_of_cond (C := Try.checked) (s := Rows.OpenSpec.upto Rows.sealTagsSpec) (k := Rows.uptoSmall) rfl own started (by kernel_rfl) Try.func4
    (OpenSpec.witness (enc := enc) (C := Try.checked) (s := Rows.OpenSpec.upto Rows.sealTagsSpec) (k := Rows.uptoSmall) rfl false ⟨#[], #[.int .i64 0, .int .i64 0, .string .empty, .string .empty], []⟩ 8 (by kernel_rfl) (by kernel_rfl) (by kernel_rfl)
      (x := ([.lit (.int .i64 0), .lit (.int .i64 0), .lit (.string []), .lit (.string [])], [], [])) (by kernel_rfl) rfl (by kernel_rfl)) ?_
  intro W base args ds gs before hval hW _ hk _
  exact contract H enc W base args ds gs before hval hW hk

theorem proved : Rows.SealTagsUptoSaid :=
  OpenClaim.holds_of_cond 4 Try.f4 rfl rfl rfl rfl rfl rfl rfl ⟨rfl, rfl, rfl, rfl, rfl⟩ rfl rfl rfl rfl rfl (by kernel_rfl) Try.func4 (by kernel_rfl)
    (of_decide_eq_true (by kernel_rfl)) (by unfold Func.isWrapper; first | (rw [if_pos (by decide +kernel)]; kernel_rfl) | (rw [if_neg (by decide +kernel)]; exact ⟨rfl, rfl⟩))
    (fun os started H enc _ F => lifted os started H enc F)
#print axioms proved
end Go.Proofs.Ytpifebapodfeaaa.sealTags
