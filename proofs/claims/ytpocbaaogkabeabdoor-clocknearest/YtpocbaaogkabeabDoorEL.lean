/- ClockNearest: the law out of the contracts; the frame of the row. -/
import Derived.Test.YtpocbaaogkabeabDoorCards
import Derived.Test.YtpocbaaogkabeabDoorTie
import Derived.WalkKit
import Derived.ProofKit
import Derived.OpenShut
import Derived.ShutString
import Derived.ChangeOld
import Derived.Below
import Derived.JoinedCond
import Derived.SizedLaws
import Derived.Deep.DeepHandedRow
import Derived.Lib.LaidTab
import Derived.Stop.LaidErr
import Derived.Deep.DeepWitnessRowRef
import Derived.Test.YtpocbaaogkabeabDoorFu
namespace Go.Proofs.YtpocbaaogkabeabDoor.clockNearest
open Go.ChangeShapes Go.WideShapes Go.ChangeAt Go.RowKit
open Go.ChangeMaps (open_string shut_string)
set_option linter.unusedVariables false

theorem own : ownKnob Tryd.prog.godebug = none := by kernel_rfl

set_option linter.unusedSimpArgs false
theorem gTab : Tryd.prog.globalNamed "turnstile/clock.ahead" = some 0 := by kernel_rfl
theorem gTabType : (Tryd.prog.globals[0]?).map (·.type) = some 54 := by kernel_rfl
theorem cellsT : Tryd.prog.cellsOf 54 = 13 := by kernel_rfl
theorem cellsE : Tryd.prog.cellsOf 3 = 1 := by kernel_rfl
theorem table {W : World} (h : laidMetH Tryd.prog Rows.clockNearestRow.laid W) : Ld.Tab W :=
  Ld.Tab.of_var gTab (Lib.tabIs_of_head (rest := []) gTab gTabType Tryd.underlying54 Tryd.underlying3 cellsE cellsT h)
set_option maxRecDepth 100000 in
set_option maxHeartbeats 1600000 in
theorem walk (a0 : Int) (a1 : Int) (w0 : (Lit.int .i64 a0).wf = true) (w1 : (Lit.int .i64 a1).wf = true) (w : World) (hL : laidMetH Tryd.prog Rows.clockNearestRow.laid w) (hSh : w.ShapedOpen Tryd.prog) :
    Calls Tryd.prog 3 #[.int .i64 a0, .int .i64 a1] w fun e w' => e = .returned (.bool true) ∧ Below w.heap.size w w' := by
  have hT : Hid (Ld.Tab w) := table hL
  clear hL hSh
  have p0 := Lw.pk_bd (c := a0) (n := 3155760000) (by omega)
  have p1 := Lw.pk_bd (c := a1) (n := 3155760000) (by omega)
  have c0 := fun x => Lw.moment_any a0 w0 x
  have c1 := fun x => Lw.moment_any a1 w1 x
  clear w0 w1
  generalize Lw.pk a0 3155760000 = n at *
  generalize Lw.pk a1 3155760000 = m at *
  obtain ⟨n0, n1⟩ := p0
  obtain ⟨m0, m1⟩ := p1
  obtain ⟨Y, M, D, hd⟩ := Fdy.day_ex (n / 86400) (by omega) (by omega)
  have hst := Ft.own_st n0 hd
  have hsz := Ft.stS_size M D (n % 86400 / 3600) (n % 3600 / 60) (n % 60)
  have s1 : ∀ x, Ld.Tab x → Calls Tryd.prog 7 #[.int .i64 n] x fun e w' => e = .returned (.tuple #[.string (Ft.stS M D (n % 86400 / 3600) (n % 3600 / 60) (n % 60)), .int .i64 0]) ∧ Below x.heap.size x w' := fun x hT => (Te.stampV_good n n0 (by omega) x hT).mono (by
    rintro e y ⟨⟨Y', M', D', hd', rfl⟩, hy⟩
    obtain ⟨rfl, rfl, rfl⟩ := hd.one hd'
    exact ⟨rfl, hy⟩)
  have s2 := fun x hT => Ner.near_good (Ft.stS M D (n % 86400 / 3600) (n % 3600 / 60) (n % 60)) (by omega) m m0 (by omega) hst x hT
  have s3 : ∀ b, Ner.IsNear (Ft.stS M D (n % 86400 / 3600) (n % 3600 / 60) (n % 60)) m b → (0 ≤ b ∧ b ≤ 3155759999 ∧ Ca.fr b m ≤ Ca.fr n m ∧ (Ca.fr b m = Ca.fr n m → b ≤ n)) ∧ ∀ x, Ld.Tab x → Calls Tryd.prog 7 #[.int .i64 b] x fun e w' => e = .returned (.tuple #[.string (Ft.stS M D (n % 86400 / 3600) (n % 3600 / 60) (n % 60)), .int .i64 0]) ∧ Below x.heap.size x w' := fun b hb => by
    obtain ⟨y, hy, e, f1, f2⟩ := Ft.own_near n0 hd hb
    obtain ⟨d1, e1, e2, e3, e4, e5⟩ := Fu.mom_back hy e
    refine ⟨⟨e4, e5, f1, f2⟩, fun x hT => (Te.stampV_good b e4 e5 x hT).mono ?_⟩
    rintro e y ⟨⟨Y', M', D', hd', rfl⟩, hy⟩
    obtain ⟨rfl, rfl, rfl⟩ := d1.one hd'
    rw [e1, e2, e3]
    exact ⟨rfl, hy⟩
  generalize Ft.stS M D (n % 86400 / 3600) (n % 3600 / 60) (n % 60) = T at *
  clear hd hst
  go_enter Tryd.func3, Tryd.ntmps3
  go_wp2_with fail
  refine (Ex.examples_any _ hT.out).mono ?_
  rintro e x1 ⟨rfl, b1⟩
  go_wp2_with fail
  refine (c0 _).mono ?_
  rintro e x2 ⟨rfl, rfl⟩
  go_wp2_with fail
  refine (c1 _).mono ?_
  rintro e x2 ⟨rfl, rfl⟩
  go_wp2_with fail
  refine (s1 _ (hT.out.next b1)).mono ?_
  rintro e x3 ⟨rfl, b3⟩
  have B3 := Kb.keepB b1 b3
  go_wp2_with fail
  refine (s2 _ (hT.out.next B3)).mono ?_
  rintro e x4 ⟨⟨b, hb, rfl⟩, b4⟩
  have B4 := Kb.keepB B3 b4
  obtain ⟨⟨q0, q1, q2, q3⟩, s4⟩ := s3 b hb
  clear s1 s2 s3 c0 c1 hb b1 b3 b4
  go_wp2_with fail
  refine (s4 _ (hT.out.next B4)).mono ?_
  rintro e x5 ⟨rfl, b5⟩
  have B5 := Kb.keepB B4 b5
  clear s4 b5
  unfold Ca.fr at q2 q3
  by_cases g1 : b < m <;> by_cases g2 : n < m
  all_goals
    simp only [g1, g2, if_true, if_false] at q2 q3
    go_wp2
    all_goals
      go_ret
      refine ⟨?_, B5⟩
      simp
      try omega


set_option maxRecDepth 1000000 in
theorem contract (H : Type) (enc : TypeId × Value → H) (W : World) (base : Nat) (args : Array Value) (ds gs : List (DataW H)) (before : List MemPlace)
    (hval : ∀ (j : Nat) t v, Tryd.f3.params[j]? = some t → args[j]? = some v → Value.okWide Tryd.prog W .any base t v)
    (hW : DataW.Whole enc Tryd.prog Tryd.f3.params.toList Rows.clockNearestSpec.vars false W args.toList ds gs before) (hL : laidMetH Tryd.prog Rows.clockNearestRow.laid W) (hSh : W.ShapedOpen Tryd.prog) :
    Calls Tryd.prog 3 args W fun e W' => ∃ v, e = .returned v ∧ Rows.clockNearestSpec.post enc Tryd.prog Tryd.f3 false true false false W args v W' := by
  have hW' := hW
  obtain ⟨p, q, hA0, hV, rfl, hfz, hnd⟩ := hW
  have hA : DataW.TrodAll enc Tryd.prog W 0 (fun _ => true) true Tryd.f3.params.toList args.toList ds p := hA0
  rw [Tryd.params3] at hA hval
  obtain ⟨v0, vs0, d0, ds0, p0, q0, hargs, rfl, rfl, h0, r0⟩ := trodAll_cons hA
  obtain ⟨v1, vs1, d1, ds1, p1, q1, rfl, rfl, rfl, h1, r1⟩ := trodAll_cons r0
  obtain ⟨rfl, rfl, rfl⟩ := trodAll_nil r1
  obtain rfl : args = #[v0, v1] := by cases args; simp_all
  obtain ⟨rfl, rfl⟩ := trodVars_none hV
  obtain ⟨a0, rfl, rfl, rfl, w0⟩ := open_int Tryd.underlying3 (hval 0 3 v0 rfl rfl) h0
  obtain ⟨a1, rfl, rfl, rfl, w1⟩ := open_int Tryd.underlying3 (hval 1 3 v1 rfl rfl) h1
  clear hA0
  refine (walk a0 a1 w0 w1 W hL hSh).mono fun e W' ⟨he, bel⟩ => ?_
  subst he
  exact ⟨_, rfl, _, _, _, [], _, [], hW', trodAll_mk1 (shut_bool Tryd.underlying4 _), (trodAll_cons_mk (shut_int Tryd.underlying3 w0) (trodAll_cons_mk (shut_int Tryd.underlying3 w1) trodAll_mk0)), rfl, bel.frame _, fun h => by cases h⟩

noncomputable def low : Nat := (World.holding Tryd.prog default ⟨#[], #[], []⟩).heap.size
set_option maxRecDepth 1000000 in
theorem laid_met (os : Os) : laidMet Tryd.prog Rows.clockNearestRow.laid (({ World.holding Tryd.prog os ⟨#[], #[], []⟩ with heap := ((World.holding Tryd.prog os ⟨#[], #[], []⟩).heap.modify 0 fun | .cells _ t frozen => .cells #[.int .i64 0, .int .i64 31, .int .i64 59, .int .i64 90, .int .i64 120, .int .i64 151, .int .i64 181, .int .i64 212, .int .i64 243, .int .i64 273, .int .i64 304, .int .i64 334, .int .i64 365] t frozen | o => o) } : World).forCall (fun _ _ => 0) ⟨#[], #[.int .i64 0, .int .i64 0], []⟩).memory :=
  laidMet_of_run' 8 (by kernel_rfl) (by kernel_rfl)
set_option maxRecDepth 1000000 in
theorem reads (os : Os) {H : Type} (enc : TypeId × Value → H) : ∃ places, DataW.whole enc Tryd.prog (({ World.holding Tryd.prog os ⟨#[], #[], []⟩ with heap := ((World.holding Tryd.prog os ⟨#[], #[], []⟩).heap.modify 0 fun | .cells _ t frozen => .cells #[.int .i64 0, .int .i64 31, .int .i64 59, .int .i64 90, .int .i64 120, .int .i64 151, .int .i64 181, .int .i64 212, .int .i64 243, .int .i64 273, .int .i64 304, .int .i64 334, .int .i64 365] t frozen | o => o) } : World).forCall (fun _ _ => 0) ⟨#[], #[.int .i64 0, .int .i64 0], []⟩).memory Tryd.f3.params.toList Rows.clockNearestSpec.vars false (#[.int .i64 0, .int .i64 0] : Array Value).toList 8 = some ([.lit (.int .i64 0), .lit (.int .i64 0)], [], places) :=
  ⟨[], by kernel_rfl⟩
set_option maxRecDepth 1000000 in
theorem lifted (os : Os) (started : os.Started) (H : Type) (enc : TypeId × Value → H) (F : Stop.Interp) :
    ReturnsInHanded {} Tryd.checked os 3 .any ((OpenSpec.ofChange Rows.clockNearestSpec).preRow enc Tryd.prog Tryd.f3 Rows.clockNearestRow.domain false Rows.clockNearestRow.laid) (((OpenSpec.ofChange Rows.clockNearestSpec).at F).post enc Tryd.prog Tryd.f3 false true false false) := by
  obtain ⟨places, hx⟩ := reads os enc
  refine returnsInHanded_of_row (C := Tryd.checked) (s := OpenSpec.ofChange Rows.clockNearestSpec) own started (by kernel_rfl) Tryd.func3
    (witness_row_atRef (enc := enc) (C := Tryd.checked) false ({ World.holding Tryd.prog os ⟨#[], #[], []⟩ with heap := ((World.holding Tryd.prog os ⟨#[], #[], []⟩).heap.modify 0 fun | .cells _ t frozen => .cells #[.int .i64 0, .int .i64 31, .int .i64 59, .int .i64 90, .int .i64 120, .int .i64 151, .int .i64 181, .int .i64 212, .int .i64 243, .int .i64 273, .int .i64 304, .int .i64 334, .int .i64 365] t frozen | o => o) } : World) #[.int .i64 0, .int .i64 0] rfl (by kernel_rfl) (by kernel_rfl) (by kernel_rfl)
      (OpenSpec.preRow_of_cond 8 hx (by kernel_rfl) (fun k hk => by cases hk) (by kernel_rfl) (laid_met os))) ?_
  intro W base args ds gs before hval hW _ hcond hsz hL hSh _
  exact contract H enc W base args ds gs before hval hW hL hSh

theorem said : Rows.ClockNearestSaid :=
  OpenClaim.holds_of_cond 3 Tryd.f3 rfl rfl rfl rfl rfl rfl rfl ⟨rfl, rfl, rfl, rfl, rfl⟩ rfl rfl rfl rfl rfl (by kernel_rfl) Tryd.func3 (by kernel_rfl)
    (of_decide_eq_true (by kernel_rfl)) (by unfold Func.isWrapper; first | (rw [if_pos (by decide +kernel)]; kernel_rfl) | (rw [if_neg (by decide +kernel)]; exact ⟨rfl, rfl⟩))
    (fun os started H enc _ F => by rw [OpenClaim.pre_eq_preRow]; exact lifted os started H enc F)
theorem plain (f : FuncId) (fn : Func) (hf : Tryd.pinned.checked.prog.funcNamed "turnstile/turnstilelaw8.ClockNearest" = some f) (hfn : Tryd.pinned.checked.prog.funcs[f]? = some fn) :
    false = Tryd.pinned.checked.prog.looks [] ∧ ∀ (j : Nat) t, fn.params[j]? = some t → Tryd.pinned.checked.prog.wantsStandIn t = false := by
  obtain rfl : f = 3 := Option.some.inj ((show Tryd.prog.funcNamed "turnstile/turnstilelaw8.ClockNearest" = some 3 by kernel_rfl).symm.trans hf) |>.symm
  obtain rfl : fn = Tryd.f3 := (Option.some.inj (Tryd.func3.symm.trans hfn)).symm
  refine ⟨by kernel_rfl, fun j t ht => ?_⟩
  rw [Tryd.params3] at ht
  have hm : t = 3 := by
    rcases j with _ | _ | j
    all_goals first | (simp at ht; omega) | (simp at ht; exact Or.inl ht.symm) | (simp at ht; exact Or.inr ht.symm) | (simp at ht; exact ht.symm) | (simp at ht; done)
  rcases hm with rfl
  exact (show Tryd.prog.wantsStandIn 3 = false by kernel_rfl)

theorem proved : Rows.ClockNearestCardSaid :=
  Claim7.holds_tied_plain_at .later [] _ _ _ _ said (fun _ h => by cases h) (by kernel_rfl) (fun _ h => by cases h) clockNearest_row_tie rfl ⟨rfl, rfl⟩ (by kernel_rfl) rfl plain (by kernel_rfl)
#print axioms proved
end Go.Proofs.YtpocbaaogkabeabDoor.clockNearest
