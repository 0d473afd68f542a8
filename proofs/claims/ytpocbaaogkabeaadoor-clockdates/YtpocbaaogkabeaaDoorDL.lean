/- ClockDates: the law out of the contracts; the frame of the row. -/
import Derived.Test.YtpocbaaogkabeaaDoorCards
import Derived.Test.YtpocbaaogkabeaaDoorTie
import Derived.WalkKit
import Derived.ProofKit
import Derived.OpenShut
import Derived.ShutString
import Derived.ChangeOld
import Derived.Below
import Derived.JoinedCond
import Derived.SizedLaws
import Derived.Deep.DeepHandedRow
import Derived.Lib.LaidTab
import Derived.Stop.LaidErr
import Derived.Deep.DeepWitnessRowRef
import Derived.Test.YtpocbaaogkabeaaDoorFdy
import Derived.Test.YtpocbaaogkabeaaDoorRz
import Derived.Test.YtpocbaaogkabeaaDoorOm
namespace Go.Proofs.YtpocbaaogkabeaaDoor.clockDates
open Go.ChangeShapes Go.WideShapes Go.ChangeAt Go.RowKit
open Go.ChangeMaps (open_string shut_string)
set_option linter.unusedVariables false

theorem own : ownKnob Tryd.prog.godebug = none := by kernel_rfl

set_option linter.unusedSimpArgs false
theorem gTab : Tryd.prog.globalNamed "turnstile/clock.ahead" = some 0 := by kernel_rfl
theorem gTabType : (Tryd.prog.globals[0]?).map (·.type) = some 58 := by kernel_rfl
theorem cellsT : Tryd.prog.cellsOf 58 = 13 := by kernel_rfl
theorem cellsE : Tryd.prog.cellsOf 3 = 1 := by kernel_rfl
theorem table {W : World} (h : laidMetH Tryd.prog Rows.clockDatesRow.laid W) : Ld.Tab W :=
  Ld.Tab.of_var gTab (Lib.tabIs_of_head (rest := []) gTab gTabType Tryd.underlying58 Tryd.underlying3 cellsE cellsT h)
set_option maxRecDepth 100000 in
set_option maxHeartbeats 1600000 in
theorem walk (a0 b0 c0 d0 e0 f0 : Int) (a1 : Int) (w0 : (Lit.int .i64 a0).wf = true ∧ (Lit.int .i64 b0).wf = true ∧ (Lit.int .i64 c0).wf = true ∧ (Lit.int .i64 d0).wf = true ∧ (Lit.int .i64 e0).wf = true ∧ (Lit.int .i64 f0).wf = true) (w1 : (Lit.int .i64 a1).wf = true) (w : World) (hL : laidMetH Tryd.prog Rows.clockDatesRow.laid w) (hSh : w.ShapedOpen Tryd.prog) :
    Calls Tryd.prog 3 #[.agg #[.int .i64 a0, .int .i64 b0, .int .i64 c0, .int .i64 d0, .int .i64 e0, .int .i64 f0], .int .i64 a1] w fun e w' => e = .returned (.bool true) ∧ Below w.heap.size w w' := by
  have hT : Hid (Ld.Tab w) := table hL
  clear hL hSh w0 w1
  have c1 : ∀ x, Ld.Tab x → Calls _ _ _ x _ := fun x hT => Oe.of_any a0 b0 c0 d0 e0 f0 x hT
  have c2 : ∀ x, Calls _ _ _ x _ := fun x => Ro.ofr_any a0 b0 c0 d0 e0 f0 x
  unfold Ld.dt at c1 c2
  generalize Oe.ofV a0 b0 c0 d0 e0 f0 = V at *
  generalize Oe.ofE a0 b0 c0 d0 e0 f0 = E at *
  have DD : ∃ (Y M D H I S g : Int), (∀ x, Ld.Tab x → Calls Tryd.prog 12 #[.int .i64 a1] x fun e w' => e = .returned (.tuple #[.agg #[.int .i64 Y, .int .i64 M, .int .i64 D, .int .i64 H, .int .i64 I, .int .i64 S], .int .i64 g]) ∧ Below x.heap.size x w') ∧ (∀ x, Calls Tryd.prog 13 #[.int .i64 a1] x fun e w' => e = .returned (.tuple #[.agg #[.int .i64 Y, .int .i64 M, .int .i64 D, .int .i64 H, .int .i64 I, .int .i64 S], .int .i64 g]) ∧ Below x.heap.size x w') := by
    cases hn : decide (0 ≤ a1 ∧ a1 ≤ 3155759999)
    · exact ⟨0, 0, 0, 0, 0, 0, 80, fun x _ => Dz.date_bad a1 hn x, fun x => Rz.dater_bad a1 hn x⟩
    · obtain ⟨h0, h1⟩ := of_decide_eq_true hn
      obtain ⟨Y, M, D, hd⟩ := Fdy.day_ex (a1 / 86400) (by omega) (by omega)
      refine ⟨Y, M, D, a1 % 86400 / 3600, a1 % 3600 / 60, a1 % 60, 0, fun x hT => (Dz.date_good a1 h0 h1 x hT).mono ?_, fun x => (Rz.dater_good a1 h0 h1 x).mono ?_⟩
      · rintro e y ⟨⟨Y', M', D', hd', rfl⟩, hy⟩
        obtain ⟨rfl, rfl, rfl⟩ := hd.one hd'
        exact ⟨rfl, hy⟩
      · rintro e y ⟨⟨Y', M', D', hd', rfl⟩, hy⟩
        obtain ⟨rfl, rfl, rfl⟩ := hd.one hd'
        exact ⟨rfl, hy⟩
  obtain ⟨Y, M, D, H, I, S, g, c3, c4⟩ := DD
  have l1 := fun x => Ld.leap_any a0 x
  have l2 := fun x => Rd.leapr_any a0 x
  have l3 := fun x => Ld.leap_any a1 x
  have l4 := fun x => Rd.leapr_any a1 x
  generalize Ca.lp a0 = p at *
  generalize Ca.lp a1 = q at *
  go_enter Tryd.func3, Tryd.ntmps3
  go_wp2_with fail
  have B0 : ∀ o, Below w.heap.size w (w.alloc o) := fun o => Kb.below_one w o
  refine (Ex.examples_any _ (hT.out.next (B0 _))).mono ?_
  rintro e x1 ⟨rfl, b1⟩
  have B1 := Kb.keepB (B0 _) b1
  have S1 := Kb.kept b1 (Kb.h1_0 w _)
  obtain ⟨r0, r1, r2, r3, r4, r5⟩ := Oe.held6 S1
  clear b1
  go_wp2_with fail
  refine (c1 _ (hT.out.next B1)).mono ?_
  rintro e x2 ⟨rfl, b2⟩
  have B2 := Kb.keepB B1 b2
  have S2 := Kb.kept b2 S1
  clear r0 r1 r2 r3 r4 r5 S1
  obtain ⟨r0, r1, r2, r3, r4, r5⟩ := Oe.held6 S2
  go_wp2_with fail
  refine (c2 _).mono ?_
  rintro e x3 ⟨rfl, b3⟩
  have B3 := Kb.keepB B2 b3
  have S3 := Kb.kept b3 S2
  clear r0 r1 r2 r3 r4 r5 S2
  go_wp2_with fail
  refine (c3 _ (hT.out.next B3)).mono ?_
  rintro e x4 ⟨rfl, b4⟩
  have B4 := Kb.keepB B3 b4
  have S4 := Kb.kept b4 S3
  have B4a : ∀ o, Below w.heap.size w (x4.alloc o) := fun o => Kb.keepB B4 (Kb.below_one _ _)
  have S4a : ∀ o, (x4.alloc o).heap[w.heap.size]? = _ := fun o => Kb.kept (Kb.below_one x4 o) S4
  clear S3
  go_wp2_with fail
  refine (c4 _).mono ?_
  rintro e x5 ⟨rfl, b5⟩
  have B5 := Kb.keepB (B4a _) b5
  have S5 := Kb.kept b5 (S4a _)
  have X5 := Kb.kept b5 (Kb.h1_0 x4 _)
  have B5a : ∀ o, Below w.heap.size w (x5.alloc o) := fun o => Kb.keepB B5 (Kb.below_one _ _)
  have lt1 : x4.heap.size < x5.heap.size := (Array.getElem?_eq_some_iff.1 X5).1
  have lt2 : w.heap.size < x5.heap.size := (Array.getElem?_eq_some_iff.1 S5).1
  obtain ⟨r0, -, -, -, -, -⟩ := Oe.held6 S5
  obtain ⟨t0, t1, t2, t3, t4, t5⟩ := Oe.held6 X5
  clear c1 c2 c3 c4 S4 S4a B4a b2 b3 b4 b5
  go_wp2_with fail
  go_quiet (first
    | (go_at_call_of 14 (Value.int .i64 a0); exact Calls.quiet_of_same (l1 _))
    | (go_at_call_of 15 (Value.int .i64 a0); exact Calls.quiet_of_same (l2 _))
    | (go_at_call_of 14 (Value.int .i64 a1); exact Calls.quiet_of_same (l3 _))
    | (go_at_call_of 15 (Value.int .i64 a1); exact Calls.quiet_of_same (l4 _)))
  go_wp2
  all_goals (go_ret; exact ⟨by simp, Kb.below_drewN (B5a _) _⟩)


set_option maxRecDepth 1000000 in
theorem contract (H : Type) (enc : TypeId × Value → H) (W : World) (base : Nat) (args : Array Value) (ds gs : List (DataW H)) (before : List MemPlace)
    (hval : ∀ (j : Nat) t v, Tryd.f3.params[j]? = some t → args[j]? = some v → Value.okWide Tryd.prog W .any base t v)
    (hW : DataW.Whole enc Tryd.prog Tryd.f3.params.toList Rows.clockDatesSpec.vars false W args.toList ds gs before) (hL : laidMetH Tryd.prog Rows.clockDatesRow.laid W) (hSh : W.ShapedOpen Tryd.prog) :
    Calls Tryd.prog 3 args W fun e W' => ∃ v, e = .returned v ∧ Rows.clockDatesSpec.post enc Tryd.prog Tryd.f3 false true false false W args v W' := by
  have hW' := hW
  obtain ⟨p, q, hA0, hV, rfl, hfz, hnd⟩ := hW
  have hA : DataW.TrodAll enc Tryd.prog W 0 (fun _ => true) true Tryd.f3.params.toList args.toList ds p := hA0
  rw [Tryd.params3] at hA hval
  obtain ⟨v0, vs0, d0, ds0, p0, q0, hargs, rfl, rfl, h0, r0⟩ := trodAll_cons hA
  obtain ⟨v1, vs1, d1, ds1, p1, q1, rfl, rfl, rfl, h1, r1⟩ := trodAll_cons r0
  obtain ⟨rfl, rfl, rfl⟩ := trodAll_nil r1
  obtain rfl : args = #[v0, v1] := by cases args; simp_all
  obtain ⟨rfl, rfl⟩ := trodVars_none hV
  obtain ⟨a0, b0, c0, d0, e0, f0, rfl, rfl, rfl, w0⟩ := Om.open_dat (hval 0 23 v0 rfl rfl) h0
  obtain ⟨a1, rfl, rfl, rfl, w1⟩ := open_int Tryd.underlying3 (hval 1 3 v1 rfl rfl) h1
  clear hA0
  refine (walk a0 b0 c0 d0 e0 f0 a1 w0 w1 W hL hSh).mono fun e W' ⟨he, bel⟩ => ?_
  subst he
  exact ⟨_, rfl, _, _, _, [], _, [], hW', trodAll_mk1 (shut_bool Tryd.underlying4 _), (trodAll_cons_mk (Om.shut_dat w0) (trodAll_cons_mk (shut_int Tryd.underlying3 w1) trodAll_mk0)), rfl, bel.frame _, fun h => by cases h⟩

noncomputable def low : Nat := (World.holding Tryd.prog default ⟨#[], #[], []⟩).heap.size
set_option maxRecDepth 1000000 in
theorem laid_met (os : Os) : laidMet Tryd.prog Rows.clockDatesRow.laid (({ World.holding Tryd.prog os ⟨#[], #[], []⟩ with heap := ((World.holding Tryd.prog os ⟨#[], #[], []⟩).heap.modify 0 fun | .cells _ t frozen => .cells #[.int .i64 0, .int .i64 31, .int .i64 59, .int .i64 90, .int .i64 120, .int .i64 151, .int .i64 181, .int .i64 212, .int .i64 243, .int .i64 273, .int .i64 304, .int .i64 334, .int .i64 365] t frozen | o => o) } : World).forCall (fun _ _ => 0) ⟨#[], #[.agg #[.int .i64 0, .int .i64 0, .int .i64 0, .int .i64 0, .int .i64 0, .int .i64 0], .int .i64 0], []⟩).memory :=
  laidMet_of_run' 8 (by kernel_rfl) (by kernel_rfl)
set_option maxRecDepth 1000000 in
theorem reads (os : Os) {H : Type} (enc : TypeId × Value → H) : ∃ places, DataW.whole enc Tryd.prog (({ World.holding Tryd.prog os ⟨#[], #[], []⟩ with heap := ((World.holding Tryd.prog os ⟨#[], #[], []⟩).heap.modify 0 fun | .cells _ t frozen => .cells #[.int .i64 0, .int .i64 31, .int .i64 59, .int .i64 90, .int .i64 120, .int .i64 151, .int .i64 181, .int .i64 212, .int .i64 243, .int .i64 273, .int .i64 304, .int .i64 334, .int .i64 365] t frozen | o => o) } : World).forCall (fun _ _ => 0) ⟨#[], #[.agg #[.int .i64 0, .int .i64 0, .int .i64 0, .int .i64 0, .int .i64 0, .int .i64 0], .int .i64 0], []⟩).memory Tryd.f3.params.toList Rows.clockDatesSpec.vars false (#[.agg #[.int .i64 0, .int .i64 0, .int .i64 0, .int .i64 0, .int .i64 0, .int .i64 0], .int .i64 0] : Array Value).toList 8 = some ([.agg [.lit (.int .i64 0), .lit (.int .i64 0), .lit (.int .i64 0), .lit (.int .i64 0), .lit (.int .i64 0), .lit (.int .i64 0)], .lit (.int .i64 0)], [], places) :=
  ⟨[], by kernel_rfl⟩
set_option maxRecDepth 1000000 in
theorem lifted (os : Os) (started : os.Started) (H : Type) (enc : TypeId × Value → H) (F : Stop.Interp) :
    ReturnsInHanded {} Tryd.checked os 3 .any ((OpenSpec.ofChange Rows.clockDatesSpec).preRow enc Tryd.prog Tryd.f3 Rows.clockDatesRow.domain false Rows.clockDatesRow.laid) (((OpenSpec.ofChange Rows.clockDatesSpec).at F).post enc Tryd.prog Tryd.f3 false true false false) := by
  obtain ⟨places, hx⟩ := reads os enc
  refine returnsInHanded_of_row (C := Tryd.checked) (s := OpenSpec.ofChange Rows.clockDatesSpec) own started (by kernel_rfl) Tryd.func3
    (witness_row_atRef (enc := enc) (C := Tryd.checked) false ({ World.holding Tryd.prog os ⟨#[], #[], []⟩ with heap := ((World.holding Tryd.prog os ⟨#[], #[], []⟩).heap.modify 0 fun | .cells _ t frozen => .cells #[.int .i64 0, .int .i64 31, .int .i64 59, .int .i64 90, .int .i64 120, .int .i64 151, .int .i64 181, .int .i64 212, .int .i64 243, .int .i64 273, .int .i64 304, .int .i64 334, .int .i64 365] t frozen | o => o) } : World) #[.agg #[.int .i64 0, .int .i64 0, .int .i64 0, .int .i64 0, .int .i64 0, .int .i64 0], .int .i64 0] rfl (by kernel_rfl) (by kernel_rfl) (by kernel_rfl)
      (OpenSpec.preRow_of_cond 8 hx (by kernel_rfl) (fun k hk => by cases hk) (by kernel_rfl) (laid_met os))) ?_
  intro W base args ds gs before hval hW _ hcond hsz hL hSh _
  exact contract H enc W base args ds gs before hval hW hL hSh

theorem said : Rows.ClockDatesSaid :=
  OpenClaim.holds_of_cond 3 Tryd.f3 rfl rfl rfl rfl rfl rfl rfl ⟨rfl, rfl, rfl, rfl, rfl⟩ rfl rfl rfl rfl rfl (by kernel_rfl) Tryd.func3 (by kernel_rfl)
    (of_decide_eq_true (by kernel_rfl)) (by unfold Func.isWrapper; first | (rw [if_pos (by decide +kernel)]; kernel_rfl) | (rw [if_neg (by decide +kernel)]; exact ⟨rfl, rfl⟩))
    (fun os started H enc _ F => by rw [OpenClaim.pre_eq_preRow]; exact lifted os started H enc F)
theorem plain (f : FuncId) (fn : Func) (hf : Tryd.pinned.checked.prog.funcNamed "turnstile/turnstilelaw8.ClockDates" = some f) (hfn : Tryd.pinned.checked.prog.funcs[f]? = some fn) :
    false = Tryd.pinned.checked.prog.looks [] ∧ ∀ (j : Nat) t, fn.params[j]? = some t → Tryd.pinned.checked.prog.wantsStandIn t = false := by
  obtain rfl : f = 3 := Option.some.inj ((show Tryd.prog.funcNamed "turnstile/turnstilelaw8.ClockDates" = some 3 by kernel_rfl).symm.trans hf) |>.symm
  obtain rfl : fn = Tryd.f3 := (Option.some.inj (Tryd.func3.symm.trans hfn)).symm
  refine ⟨by kernel_rfl, fun j t ht => ?_⟩
  rw [Tryd.params3] at ht
  have hm : t = 23 ∨ t = 3 := by
    rcases j with _ | _ | j
    all_goals first | (simp at ht; omega) | (simp at ht; exact Or.inl ht.symm) | (simp at ht; exact Or.inr ht.symm) | (simp at ht; exact ht.symm) | (simp at ht; done)
  rcases hm with rfl | rfl
  · exact (show Tryd.prog.wantsStandIn 23 = false by kernel_rfl)
  · exact (show Tryd.prog.wantsStandIn 3 = false by kernel_rfl)

theorem proved : Rows.ClockDatesCardSaid :=
  Claim7.holds_tied_plain_at .later [] _ _ _ _ said (fun _ h => by cases h) (by kernel_rfl) (fun _ h => by cases h) clockDates_row_tie rfl ⟨rfl, rfl⟩ (by kernel_rfl) rfl plain (by kernel_rfl)
#print axioms proved
end Go.Proofs.YtpocbaaogkabeaaDoor.clockDates
