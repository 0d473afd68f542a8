/- TlvOne: the law out of the contracts; the frame of the row. -/
import Derived.Test.YtgidjfhlooggkabRows
import Derived.WalkKit
import Derived.ProofKit
import Derived.OpenShut
import Derived.ShutString
import Derived.ChangeOld
import Derived.Below
import Derived.JoinedCond
import Derived.Carry
import Derived.SizedLaws
import Derived.Test.YtgidjfhlooggkabKn
import Derived.Test.YtgidjfhlooggkabMd
import Derived.Test.YtgidjfhlooggkabSa
import Derived.Test.YtgidjfhlooggkabMo
import Derived.Test.YtgidjfhlooggkabSl
namespace Go.Proofs.Ytgidjfhlooggkab.tlvOne
open Go.ChangeShapes Go.WideShapes Go.ChangeAt Go.RowKit
open Go.ChangeMaps (open_string shut_string)
set_option linter.unusedVariables false

theorem own : ownKnob Try.prog.godebug = none := by kernel_rfl

theorem form_of {w : World} {v : Value} {z : List Int} (h : Sl.Lies w v z) : ∃ o n cap, v = .slice o n cap := by
  rcases h with ⟨rfl, -⟩ | ⟨a, cap, rfl, -⟩
  · exact ⟨_, _, _, rfl⟩
  · exact ⟨_, _, _, rfl⟩
theorem raw_of {w : World} {o : Option Addr} {n cap : Nat} {z : List Int} (h : Sl.Lies w (.slice o n cap) z) : Mk.Raw w w.heap.size o n := by
  rcases h with ⟨e, -⟩ | ⟨a, cap', e, h1, h2, h3, h4⟩
  · obtain ⟨rfl, rfl, rfl⟩ : o = none ∧ n = 0 ∧ cap = 0 := by simpa using e
    exact ⟨by omega, fun i hi => absurd hi (by omega)⟩
  · obtain ⟨rfl, rfl, rfl⟩ : o = some a ∧ n = z.length ∧ cap = cap' := by simpa using e
    refine ⟨by unfold maxLen at h2; omega, fun i hi => ⟨a, z[i], rfl, ?_, h3 i hi, ?_⟩⟩
    · have := World.block_lt_of_cell? w _ (h3 i hi); omega
    · have := h4 z[i] (List.getElem_mem hi)
      simp [Lit.wf] at this
      have e1 : IntKind.i64.min = -9223372036854775808 := by decide
      have e2 : IntKind.i64.max = 9223372036854775807 := by decide
      omega
theorem one_eq {xs ys : List Nt.AT} (hx : Ag.good 1 (Nt.er xs)) (hy : Ag.good 1 (Nt.er ys)) (hl : (Ag.enT (Nt.er xs)).length ≤ 9999) :
    Sa.smB xs ys = ((⟨(Ag.enT (Nt.er xs)).toArray⟩ : ByteArray).toList == (⟨(Ag.enT (Nt.er ys)).toArray⟩ : ByteArray).toList) := by
  rw [Bool.eq_iff_iff, Sa.smB_er, beq_iff_eq, ByteArray.toList_eq, ByteArray.toList_eq]
  constructor
  · intro e; rw [e]
  · intro e; exact Ij.enT_inj 1 _ _ hx hy (by omega) (by simpa using e)
set_option maxRecDepth 100000 in
set_option maxHeartbeats 1600000 in
theorem walk (v0 : Value) (z0 : List Int) (v1 : Value) (z1 : List Int) (w : World) (w0 : Sl.Lies w v0 z0) (w1 : Sl.Lies w v1 z1) :
    Calls Try.prog 5 #[v0, v1] w fun e w' => e = .returned (.bool true) ∧ Below w.heap.size w w' := by
  obtain ⟨oa, na, ca, rfl⟩ := form_of w0
  obtain ⟨ob, nb, cb, rfl⟩ := form_of w1
  go_enter Try.func5, Try.ntmps5
  go_wp2_with fail
  refine (Kn.known_any _).mono ?_
  rintro e y0 ⟨rfl, h0⟩
  go_wp2_with fail
  refine (Md.made_any y0 oa na ca (raw_of (Sl.lies_below w0 h0))).mono ?_
  rintro _ y1 ⟨v1, xs, rfl, p1⟩
  have b1 := Kb.keepB h0 p1.below
  obtain ⟨o1, c1, rfl⟩ := p1.own.form
  have HR1 : Hid (Nt.Rdn y1 (.slice o1 xs.length c1) xs) := p1.own.reads
  generalize hln : xs.length = LN at *
  replace hln : Hid (xs.length = LN) := hln
  have ra := raw_of (Sl.lies_below w1 b1)
  have HP1 : Hid (Ag.good 1 (Nt.er xs) ∧ Ml.sm (Nt.er xs) ∧ Ag.cnt (Nt.er xs) ≤ 60) := ⟨p1.gd, p1.sml, p1.few⟩
  clear p1
  go_wp2_with fail
  refine (Md.made_any y1 ob nb cb ra).mono ?_
  rintro _ y2 ⟨v2, ys, rfl, p2⟩
  have b2 := Kb.keepB b1 p2.below
  obtain ⟨o2, c2, rfl⟩ := p2.own.form
  have HR2 : Hid (Nt.Rdn y2 (.slice o2 ys.length c2) ys) := p2.own.reads
  replace HR1 : Hid (Nt.Rdn y2 (.slice o1 LN c1) xs) := HR1.out.below p2.below
  generalize hln2 : ys.length = LN2 at *
  replace hln2 : Hid (ys.length = LN2) := hln2
  obtain ⟨m0, m1, m2, m3⟩ := Mo.made_ok HP1.out.1 HP1.out.2.1 HP1.out.2.2
  obtain ⟨n0, n1, n2, n3⟩ := Mo.made_ok p2.gd p2.sml p2.few
  have HQ := one_eq HP1.out.1 p2.gd m3
  have k1 := Bu.build_any xs _ y2 HR1.out m2
  have k2 := fun z (hz : Below y2.heap.size y2 z) => Bu.build_any ys _ z (HR2.out.below hz) n2
  have k3 := fun z (hz : Below y2.heap.size y2 z) => Sa.same_any xs ys _ _ z (HR1.out.below hz) (HR2.out.below hz)
  rw [m0, m1] at k1
  rw [n0, n1] at k2
  rw [HQ] at k3
  clear p2 HP1 HR1 HR2 m0 m1 m2 m3 n0 n1 n2 n3 HQ ra
  generalize (⟨(Ag.enT (Nt.er xs)).toArray⟩ : ByteArray) = A1 at *
  generalize (⟨(Ag.enT (Nt.er ys)).toArray⟩ : ByteArray) = A2 at *
  go_wp2_with fail
  refine k1.mono ?_
  rintro e z1 ⟨rfl, h3⟩
  go_wp2_with fail
  refine (k2 z1 h3).mono ?_
  rintro e z2 ⟨rfl, h4⟩
  have h5 := Kb.keepB h3 h4
  go_wp2_with fail
  refine (k3 z2 h5).mono ?_
  rintro e z3 ⟨rfl, h6⟩
  have b3 := Kb.keepB (Kb.keepB b2 h5) h6
  go_wp2
  go_ret
  exact ⟨by simp, b3⟩

set_option maxRecDepth 100000 in
theorem contract (H : Type) (enc : TypeId × Value → H) (W : World) (base : Nat) (args : Array Value) (ds gs : List (DataW H)) (before : List MemPlace)
    (hval : ∀ (j : Nat) t v, Try.f5.params[j]? = some t → args[j]? = some v → Value.okWide Try.prog W .any base t v)
    (hW : DataW.Whole enc Try.prog Try.f5.params.toList Rows.tlvOneSpec.vars false W args.toList ds gs before) :
    Calls Try.prog 5 args W fun e W' => ∃ v, e = .returned v ∧ Rows.tlvOneSpec.post enc Try.prog Try.f5 false true false false W args v W' := by
  have hW' := hW
  obtain ⟨p, q, hA0, hV, rfl, hfz, hnd⟩ := hW
  have hA : DataW.TrodAll enc Try.prog W 0 (fun _ => true) true Try.f5.params.toList args.toList ds p := hA0
  rw [Try.params5] at hA hval
  obtain ⟨v0, vs0, d0, ds0, p0, q0, hargs, rfl, rfl, h0, r0⟩ := trodAll_cons hA
  obtain ⟨v1, vs1, d1, ds1, p1, q1, rfl, rfl, rfl, h1, r1⟩ := trodAll_cons r0
  obtain ⟨rfl, rfl, rfl⟩ := trodAll_nil r1
  obtain rfl : args = #[v0, v1] := by cases args; simp_all
  obtain ⟨rfl, rfl⟩ := trodVars_none hV
  obtain ⟨z0, w0, lt0, bulk0⟩ := Sl.open_sl (hval 0 30 v0 rfl rfl) h0
  obtain ⟨z1, w1, lt1, bulk1⟩ := Sl.open_sl (hval 1 30 v1 rfl rfl) h1
  clear hA0
  refine (walk v0 z0 v1 z1 W w0 w1).mono fun e W' ⟨he, bel⟩ => ?_
  subst he
  exact ⟨_, rfl, _, _, _, [], _, [], hW', trodAll_mk1 (shut_bool Try.underlying4 _), (trodAll_cons_mk (Below.trod (by kernel_rfl) (by kernel_rfl) (of_decide_eq_true (by kernel_rfl)) h0 bel lt0) (trodAll_cons_mk (Below.trod (by kernel_rfl) (by kernel_rfl) (of_decide_eq_true (by kernel_rfl)) h1 bel lt1) trodAll_mk0)), rfl, bel.frame _, fun h => by cases h⟩

set_option maxRecDepth 100000 in
theorem lifted (os : Os) (started : os.Started) (H : Type) (enc : TypeId × Value → H) :
    ReturnsInHanded {} Try.checked os 5 .any (Rows.tlvOneSpec.pre6 enc Try.prog Try.f5 Rows.tlvOneRow.domain false) (Rows.tlvOneSpec.post enc Try.prog Try.f5 false true false false) := by
  refine returnsInHanded_of_change (C := Try.checked) own started (by kernel_rfl) Try.func5
    (ChangeSpec.witness6 (enc := enc) (C := Try.checked) false ⟨#[], #[.slice none 0 0, .slice none 0 0], []⟩ 8 (by kernel_rfl) (by kernel_rfl) (by kernel_rfl) (by kernel_rfl)) ?_
  intro W base args ds gs before hval hW _ _
  exact contract H enc W base args ds gs before hval hW

theorem proved : Rows.TlvOneSaid :=
  OpenClaim.holds_of_wide 5 Try.f5 rfl rfl rfl rfl rfl rfl rfl ⟨rfl, rfl, rfl, rfl, rfl⟩ rfl rfl rfl rfl rfl (by kernel_rfl) Try.func5 (by kernel_rfl)
    (of_decide_eq_true (by kernel_rfl)) (by unfold Func.isWrapper; first | (rw [if_pos (by decide +kernel)]; kernel_rfl) | (rw [if_neg (by decide +kernel)]; exact ⟨rfl, rfl⟩))
    (fun os started H enc _ => lifted os started H enc)
#print axioms proved
end Go.Proofs.Ytgidjfhlooggkab.tlvOne
