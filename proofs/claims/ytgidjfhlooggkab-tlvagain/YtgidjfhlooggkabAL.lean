/- TlvAgain: the law out of the contracts; the frame of the row. -/
import Derived.Test.YtgidjfhlooggkabRows
import Derived.WalkKit
import Derived.ProofKit
import Derived.OpenShut
import Derived.ShutString
import Derived.ChangeOld
import Derived.Below
import Derived.JoinedCond
import Derived.Carry
import Derived.SizedLaws
import Derived.Test.YtgidjfhlooggkabKn
import Derived.Test.YtgidjfhlooggkabAg
namespace Go.Proofs.Ytgidjfhlooggkab.tlvAgain
open Go.ChangeShapes Go.WideShapes Go.ChangeAt Go.RowKit
open Go.ChangeMaps (open_string shut_string)
set_option linter.unusedVariables false

theorem own : ownKnob Try.prog.godebug = none := by kernel_rfl

set_option maxRecDepth 100000 in
set_option maxHeartbeats 1600000 in
theorem walk (a0 : ByteArray) (w : World) (w0 : a0.size ≤ maxLen) (k0 : a0.size ≤ 140737488351232) :
    Calls Try.prog 3 #[.string a0] w fun e w' => e = .returned (.bool true) ∧ Below w.heap.size w w' := by
  have kn := Kn.known_any
  have ps := fun y => Go_.parse_any a0 y (by omega)
  have pb := fun y => Go_.parseSub_any a0 y (by omega)
  have nil0 : ∀ y, Nt.Rdn y (.slice none 0 0) [] := fun y => (Nt.own_nil y 0).reads
  cases hp : Go_.parseR a0 with
  | ok ts k b =>
    cases hq : Go_.parseS a0 with
    | ok us k2 b2 =>
      have ga := fun ats he => Ag.parse_again (ats := ats) hp he
      have gb := fun ats he => Ag.subs_again (ats := ats) hq he
      rw [hp] at ps
      rw [hq] at pb
      have i7 : ¬ (a0.size : Int) < 0 := by omega
      clear hp hq k0
      go_enter Try.func3, Try.ntmps3
      go_wp2_with fail
      refine (kn _).mono ?_
      rintro e y0 ⟨rfl, h0⟩
      go_wp2_with fail
      refine (ps y0).mono ?_
      rintro e y1 ⟨v, ats, rfl, hea, ho, h1⟩
      obtain ⟨ga0, ga1, ga2⟩ := ga ats hea
      obtain ⟨o1, cp1, rfl⟩ := ho.form
      have HR1 : Hid (Nt.Rdn y1 (.slice o1 ats.length cp1) ats) := ho.reads
      generalize hln : ats.length = LN at *
      replace hln : Hid (ats.length = LN) := hln
      clear ho hea ga
      have b1 := Kb.keepB h0 h1
      go_wp2_with fail
      refine (pb y1).mono ?_
      rintro e y3 ⟨v2, bts, rfl, heb, ho2, h2⟩
      obtain ⟨gb0, gb1⟩ := gb bts heb
      obtain ⟨o2, cp2, rfl⟩ := ho2.form
      have HR2 : Hid (Nt.Rdn y3 (.slice o2 bts.length cp2) bts) := ho2.reads
      generalize hln2 : bts.length = LN2 at *
      replace hln2 : Hid (bts.length = LN2) := hln2
      clear ho2 heb gb
      have b2 := Kb.keepB b1 h2
      have c1 := Bu.build_any _ _ y3 (HR1.out.below h2) ga2
      rw [ga0, ga1] at c1
      have c2 := fun z (hz : Below y3.heap.size y3 z) => Sb.buildSub_any _ _ z (HR2.out.below hz)
      rw [gb0, gb1] at c2
      clear ps pb kn nil0 HR1 HR2 ga0 ga1 ga2 gb0 gb1
      go_wp2_with fail
      refine c1.mono ?_
      rintro e z1 ⟨rfl, h3⟩
      go_wp2_with fail
      refine (c2 z1 h3).mono ?_
      rintro e z2 ⟨rfl, h4⟩
      have b3 := Kb.keepB (Kb.keepB b2 h3) h4
      go_wp2
      go_ret
      exact ⟨by simp, b3⟩
    | bad y2 p2 =>
      have ga := fun ats he => Ag.parse_again (ats := ats) hp he
      obtain ⟨m1, m2, m3⟩ := Ag.parseS_bad hq
      rw [hp] at ps
      rw [hq] at pb
      have i2 : (y2 != 0) = true := by simp; exact m1
      have i5 : ¬ p2 < 0 := by omega
      have i6 : ¬ (a0.size : Int) < p2 := by omega
      have i7 : ¬ (a0.size : Int) < 0 := by omega
      clear hp hq k0 m1 m2 m3
      go_enter Try.func3, Try.ntmps3
      go_wp2_with fail
      refine (kn _).mono ?_
      rintro e y0 ⟨rfl, h0⟩
      go_wp2_with fail
      refine (ps y0).mono ?_
      rintro e y1 ⟨v, ats, rfl, hea, ho, h1⟩
      obtain ⟨ga0, ga1, ga2⟩ := ga ats hea
      obtain ⟨o1, cp1, rfl⟩ := ho.form
      have HR1 : Hid (Nt.Rdn y1 (.slice o1 ats.length cp1) ats) := ho.reads
      generalize hln : ats.length = LN at *
      replace hln : Hid (ats.length = LN) := hln
      clear ho hea ga
      have b1 := Kb.keepB h0 h1
      go_wp2_with fail
      refine (pb y1).mono ?_
      rintro e y3 ⟨rfl, h2⟩
      have HR2 : Hid (Nt.Rdn y3 (.slice none 0 0) []) := nil0 y3
      have b2 := Kb.keepB b1 h2
      have c1 := Bu.build_any _ _ y3 (HR1.out.below h2) ga2
      rw [ga0, ga1] at c1
      have c2 := fun z (hz : Below y3.heap.size y3 z) => Sb.buildSub_any _ _ z (HR2.out.below hz)
      generalize Sb.bsE [] = E2 at c2
      generalize Sb.bsS [] = S2 at c2
      clear ps pb kn nil0 HR1 HR2 ga0 ga1 ga2
      go_wp2_with fail
      refine c1.mono ?_
      rintro e z1 ⟨rfl, h3⟩
      go_wp2_with fail
      refine (c2 z1 h3).mono ?_
      rintro e z2 ⟨rfl, h4⟩
      have b3 := Kb.keepB (Kb.keepB b2 h3) h4
      go_wp2
      go_ret
      exact ⟨by simp, b3⟩
  | bad y p =>
    cases hq : Go_.parseS a0 with
    | ok us k2 b2 =>
      obtain ⟨n1, n2, n3⟩ := Ag.parse_bad hp
      have gb := fun ats he => Ag.subs_again (ats := ats) hq he
      rw [hp] at ps
      rw [hq] at pb
      have i1 : (y != 0) = true := by simp; exact n1
      have i3 : ¬ p < 0 := by omega
      have i4 : ¬ (a0.size : Int) < p := by omega
      have i7 : ¬ (a0.size : Int) < 0 := by omega
      clear hp hq k0 n1 n2 n3
      go_enter Try.func3, Try.ntmps3
      go_wp2_with fail
      refine (kn _).mono ?_
      rintro e y0 ⟨rfl, h0⟩
      go_wp2_with fail
      refine (ps y0).mono ?_
      rintro e y1 ⟨rfl, h1⟩
      have HR1 : Hid (Nt.Rdn y1 (.slice none 0 0) []) := nil0 y1
      have b1 := Kb.keepB h0 h1
      go_wp2_with fail
      refine (pb y1).mono ?_
      rintro e y3 ⟨v2, bts, rfl, heb, ho2, h2⟩
      obtain ⟨gb0, gb1⟩ := gb bts heb
      obtain ⟨o2, cp2, rfl⟩ := ho2.form
      have HR2 : Hid (Nt.Rdn y3 (.slice o2 bts.length cp2) bts) := ho2.reads
      generalize hln2 : bts.length = LN2 at *
      replace hln2 : Hid (bts.length = LN2) := hln2
      clear ho2 heb gb
      have b2 := Kb.keepB b1 h2
      have c1 := Bu.build_any _ _ y3 (HR1.out.below h2) (by simp [Wk.dep])
      generalize Bu.bldE [] = E1 at c1
      generalize Bu.bldS [] = S1 at c1
      have c2 := fun z (hz : Below y3.heap.size y3 z) => Sb.buildSub_any _ _ z (HR2.out.below hz)
      rw [gb0, gb1] at c2
      clear ps pb kn nil0 HR1 HR2 gb0 gb1
      go_wp2_with fail
      refine c1.mono ?_
      rintro e z1 ⟨rfl, h3⟩
      go_wp2_with fail
      refine (c2 z1 h3).mono ?_
      rintro e z2 ⟨rfl, h4⟩
      have b3 := Kb.keepB (Kb.keepB b2 h3) h4
      go_wp2
      go_ret
      exact ⟨by simp, b3⟩
    | bad y2 p2 =>
      obtain ⟨n1, n2, n3⟩ := Ag.parse_bad hp
      obtain ⟨m1, m2, m3⟩ := Ag.parseS_bad hq
      rw [hp] at ps
      rw [hq] at pb
      have i1 : (y != 0) = true := by simp; exact n1
      have i3 : ¬ p < 0 := by omega
      have i4 : ¬ (a0.size : Int) < p := by omega
      have i2 : (y2 != 0) = true := by simp; exact m1
      have i5 : ¬ p2 < 0 := by omega
      have i6 : ¬ (a0.size : Int) < p2 := by omega
      have i7 : ¬ (a0.size : Int) < 0 := by omega
      clear hp hq k0 n1 n2 n3 m1 m2 m3
      go_enter Try.func3, Try.ntmps3
      go_wp2_with fail
      refine (kn _).mono ?_
      rintro e y0 ⟨rfl, h0⟩
      go_wp2_with fail
      refine (ps y0).mono ?_
      rintro e y1 ⟨rfl, h1⟩
      have HR1 : Hid (Nt.Rdn y1 (.slice none 0 0) []) := nil0 y1
      have b1 := Kb.keepB h0 h1
      go_wp2_with fail
      refine (pb y1).mono ?_
      rintro e y3 ⟨rfl, h2⟩
      have HR2 : Hid (Nt.Rdn y3 (.slice none 0 0) []) := nil0 y3
      have b2 := Kb.keepB b1 h2
      have c1 := Bu.build_any _ _ y3 (HR1.out.below h2) (by simp [Wk.dep])
      generalize Bu.bldE [] = E1 at c1
      generalize Bu.bldS [] = S1 at c1
      have c2 := fun z (hz : Below y3.heap.size y3 z) => Sb.buildSub_any _ _ z (HR2.out.below hz)
      generalize Sb.bsE [] = E2 at c2
      generalize Sb.bsS [] = S2 at c2
      clear ps pb kn nil0 HR1 HR2
      go_wp2_with fail
      refine c1.mono ?_
      rintro e z1 ⟨rfl, h3⟩
      go_wp2_with fail
      refine (c2 z1 h3).mono ?_
      rintro e z2 ⟨rfl, h4⟩
      have b3 := Kb.keepB (Kb.keepB b2 h3) h4
      go_wp2
      go_ret
      exact ⟨by simp, b3⟩

set_option maxRecDepth 100000 in
theorem contract (H : Type) (enc : TypeId × Value → H) (W : World) (base : Nat) (args : Array Value) (ds gs : List (DataW H)) (before : List MemPlace)
    (hval : ∀ (j : Nat) t v, Try.f3.params[j]? = some t → args[j]? = some v → Value.okWide Try.prog W .any base t v)
    (hW : DataW.Whole enc Try.prog Try.f3.params.toList Rows.tlvAgainSpec.vars false W args.toList ds gs before) (hsz : (DataW.weightsEach Try.prog (Try.f3.params.toList ++ Rows.tlvAgainSpec.plain.varTypes Try.prog) (ds ++ gs)).all (· ≤ reachBytes) = true) :
    Calls Try.prog 3 args W fun e W' => ∃ v, e = .returned v ∧ Rows.tlvAgainSpec.post enc Try.prog Try.f3 false true false false W args v W' := by
  have hW' := hW
  obtain ⟨p, q, hA0, hV, rfl, hfz, hnd⟩ := hW
  have hA : DataW.TrodAll enc Try.prog W 0 (fun _ => true) true Try.f3.params.toList args.toList ds p := hA0
  rw [Try.params3] at hA hval
  obtain ⟨v0, vs0, d0, ds0, p0, q0, hargs, rfl, rfl, h0, r0⟩ := trodAll_cons hA
  obtain ⟨rfl, rfl, rfl⟩ := trodAll_nil r0
  obtain rfl : args = #[v0] := by cases args; simp_all
  obtain ⟨rfl, rfl⟩ := trodVars_none hV
  obtain ⟨a0, rfl, rfl, rfl, w0⟩ := open_string Try.underlying9 (hval 0 9 v0 rfl rfl) h0
  clear hA0
  have e0 : a0.data.toList.length = a0.size := by rw [Array.length_toList]; rfl
  have g0 : a0.data.toList.length ≤ 140737488351232 := sized_string hsz (j := 0) (t := 9) rfl rfl
  refine (walk a0 W w0 (by omega)).mono fun e W' ⟨he, bel⟩ => ?_
  subst he
  exact ⟨_, rfl, _, _, _, [], _, [], hW', trodAll_mk1 (shut_bool Try.underlying4 _), (trodAll_cons_mk (shut_string Try.underlying9 w0) trodAll_mk0), rfl, bel.frame _, fun h => by cases h⟩

set_option maxRecDepth 100000 in
theorem lifted (os : Os) (started : os.Started) (H : Type) (enc : TypeId × Value → H) :
    ReturnsInHanded {} Try.checked os 3 .any (Rows.tlvAgainSpec.pre6 enc Try.prog Try.f3 Rows.tlvAgainRow.domain false) (Rows.tlvAgainSpec.post enc Try.prog Try.f3 false true false false) := by
  refine returnsInHanded_of_change_sized (C := Try.checked) own started (by kernel_rfl) Try.func3
    (ChangeSpec.witness6 (enc := enc) (C := Try.checked) false ⟨#[], #[.string .empty], []⟩ 8 (by kernel_rfl) (by kernel_rfl) (by kernel_rfl) (by kernel_rfl)) ?_
  intro W base args ds gs before hval hW _ hsz _
  exact contract H enc W base args ds gs before hval hW hsz

theorem proved : Rows.TlvAgainSaid :=
  OpenClaim.holds_of_wide 3 Try.f3 rfl rfl rfl rfl rfl rfl rfl ⟨rfl, rfl, rfl, rfl, rfl⟩ rfl rfl rfl rfl rfl (by kernel_rfl) Try.func3 (by kernel_rfl)
    (of_decide_eq_true (by kernel_rfl)) (by unfold Func.isWrapper; first | (rw [if_pos (by decide +kernel)]; kernel_rfl) | (rw [if_neg (by decide +kernel)]; exact ⟨rfl, rfl⟩))
    (fun os started H enc _ => lifted os started H enc)
#print axioms proved
end Go.Proofs.Ytgidjfhlooggkab.tlvAgain
