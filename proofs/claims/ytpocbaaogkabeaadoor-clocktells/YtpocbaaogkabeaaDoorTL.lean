/- ClockTells: the law out of the contracts; the frame of the row. -/
import Derived.Test.YtpocbaaogkabeaaDoorCards
import Derived.Test.YtpocbaaogkabeaaDoorTie
import Derived.WalkKit
import Derived.ProofKit
import Derived.OpenShut
import Derived.ShutString
import Derived.ChangeOld
import Derived.Below
import Derived.JoinedCond
import Derived.SizedLaws
import Derived.Deep.DeepHandedRow
import Derived.Lib.LaidTab
import Derived.Stop.LaidErr
import Derived.Deep.DeepWitnessRowRef
import Derived.Test.YtpocbaaogkabeaaDoorFdy
import Derived.Test.YtpocbaaogkabeaaDoorRn
import Derived.Test.YtpocbaaogkabeaaDoorRb
namespace Go.Proofs.YtpocbaaogkabeaaDoor.clockTells
open Go.ChangeShapes Go.WideShapes Go.ChangeAt Go.RowKit
open Go.ChangeMaps (open_string shut_string)
set_option linter.unusedVariables false

theorem own : ownKnob Tryd.prog.godebug = none := by kernel_rfl

set_option linter.unusedSimpArgs false
theorem gTab : Tryd.prog.globalNamed "turnstile/clock.ahead" = some 0 := by kernel_rfl
theorem gTabType : (Tryd.prog.globals[0]?).map (·.type) = some 58 := by kernel_rfl
theorem cellsT : Tryd.prog.cellsOf 58 = 13 := by kernel_rfl
theorem cellsE : Tryd.prog.cellsOf 3 = 1 := by kernel_rfl
theorem table {W : World} (h : laidMetH Tryd.prog Rows.clockTellsRow.laid W) : Ld.Tab W :=
  Ld.Tab.of_var gTab (Lib.tabIs_of_head (rest := []) gTab gTabType Tryd.underlying58 Tryd.underlying3 cellsE cellsT h)
set_option maxRecDepth 100000 in
set_option maxHeartbeats 1600000 in
theorem walk (a0 : Int) (a1 : Int) (w0 : (Lit.int .i64 a0).wf = true) (w1 : (Lit.int .i64 a1).wf = true) (w : World) (hL : laidMetH Tryd.prog Rows.clockTellsRow.laid w) (hSh : w.ShapedOpen Tryd.prog) :
    Calls Tryd.prog 4 #[.int .i64 a0, .int .i64 a1] w fun e w' => e = .returned (.bool true) ∧ Below w.heap.size w w' := by
  have hT : Hid (Ld.Tab w) := table hL
  clear hL hSh w0 w1
  have k1 := fun x => Te.weekday_any a0 x
  have k2 := fun x => Rt.weekdayr_any a0 x
  generalize Te.wkV a0 = W at *
  generalize Te.mE a0 = E at *
  cases hn : Bu.okM a0
  · have c1 := fun x => Te.stamp_date a0 hn x
    have c2 := fun x => Rt.stampr_date a0 hn x
    have c3 := fun x => Te.julian_date a0 hn x
    have c4 := fun x => Rj.julianr_date a0 hn x
    have c5 := fun x => Bu.business_date a0 a1 hn x
    have c6 := fun x => Rb.businessr_date a0 a1 hn x
    clear hn
    go_enter Tryd.func4, Tryd.ntmps4
    go_wp2_with fail
    refine (Ex.examples_any _ hT.out).mono ?_
    rintro e x1 ⟨rfl, b1⟩
    go_wp2_with fail
    refine (k1 _).mono ?_
    rintro e x2 ⟨rfl, rfl⟩
    go_wp2_with fail
    refine (k2 _).mono ?_
    rintro e x2 ⟨rfl, rfl⟩
    go_wp2_with fail
    refine (c1 _).mono ?_
    rintro e x3 ⟨rfl, b3⟩
    go_wp2_with fail
    refine (c2 _).mono ?_
    rintro e x4 ⟨rfl, b4⟩
    go_wp2_with fail
    refine (c3 _).mono ?_
    rintro e x5 ⟨rfl, b5⟩
    go_wp2_with fail
    refine (c4 _).mono ?_
    rintro e x6 ⟨rfl, b6⟩
    go_wp2_with fail
    refine (c5 _).mono ?_
    rintro e x7 ⟨rfl, b7⟩
    go_wp2_with fail
    refine (c6 _).mono ?_
    rintro e x8 ⟨rfl, b8⟩
    have B := Kb.keepB (Kb.keepB (Kb.keepB (Kb.keepB (Kb.keepB (Kb.keepB b1 b3) b4) b5) b6) b7) b8
    clear c1 c2 c3 c4 c5 c6 k1 k2
    go_wp2
    go_ret
    exact ⟨by simp, B⟩
  · obtain ⟨h0, h1⟩ := of_decide_eq_true hn
    have c1 := fun x hT => Te.stampV_good a0 h0 h1 x hT
    have c2 := fun x => Rt.stampr_good a0 h0 h1 x
    have c3 := fun x hT => Te.julian_good a0 h0 h1 x hT
    have c4 := fun x => Rj.julianr_good a0 h0 h1 x
    obtain ⟨H, hH⟩ : ∃ H, a0 % 86400 / 3600 = H := ⟨_, rfl⟩
    obtain ⟨I, hI⟩ : ∃ H, a0 % 3600 / 60 = H := ⟨_, rfl⟩
    obtain ⟨S, hS⟩ : ∃ H, a0 % 60 = H := ⟨_, rfl⟩
    rw [hH, hI, hS] at c1 c2
    have BS : ∃ (v : ByteArray) (f : Int), (∀ x, Ld.Tab x → Calls Tryd.prog 22 #[.int .i64 a0, .int .i64 a1] x fun e w' => e = .returned (.tuple #[.string v, .int .i64 f]) ∧ Below x.heap.size x w') ∧ (∀ x, Calls Tryd.prog 23 #[.int .i64 a0, .int .i64 a1] x fun e w' => e = .returned (.tuple #[.string v, .int .i64 f]) ∧ Below x.heap.size x w') := by
      cases hh : decide (0 ≤ a1 ∧ a1 ≤ 23)
      · exact ⟨_, _, fun x hT => Bu.business_hour a0 a1 hn hh x hT, fun x => Rb.businessr_hour a0 a1 hn hh x⟩
      · by_cases hs : 0 < a1 ∧ a1 ≤ a0 % 86400 / 3600
        · cases hn2 : Bu.okM (a0 + 86400)
          · exact ⟨_, _, fun x hT => Bu.business_late a0 a1 hn hh hs hn2 x hT, fun x => Rb.businessr_late a0 a1 hn hh hs hn2 x⟩
          · obtain ⟨g0, g1⟩ := of_decide_eq_true hn2
            obtain ⟨Y, M, D, hd⟩ := Fdy.day_ex ((a0 + 86400) / 86400) (by omega) (by omega)
            refine ⟨⟨(Pa.prL [M, D]).toArray⟩, 0, fun x hT => (Bu.business_next a0 a1 hn hh hs hn2 x hT).mono ?_, fun x => (Rb.businessr_next a0 a1 hn hh hs hn2 x).mono ?_⟩
            · rintro e y ⟨⟨Y', M', D', hd', rfl⟩, hy⟩
              obtain ⟨rfl, rfl, rfl⟩ := hd.one hd'
              exact ⟨rfl, hy⟩
            · rintro e y ⟨⟨Y', M', D', hd', rfl⟩, hy⟩
              obtain ⟨rfl, rfl, rfl⟩ := hd.one hd'
              exact ⟨rfl, hy⟩
        · obtain ⟨Y, M, D, hd⟩ := Fdy.day_ex (a0 / 86400) (by omega) (by omega)
          refine ⟨⟨(Pa.prL [M, D]).toArray⟩, 0, fun x hT => (Bu.business_same a0 a1 hn hh hs x hT).mono ?_, fun x => (Rb.businessr_same a0 a1 hn hh hs x).mono ?_⟩
          · rintro e y ⟨⟨Y', M', D', hd', rfl⟩, hy⟩
            obtain ⟨rfl, rfl, rfl⟩ := hd.one hd'
            exact ⟨rfl, hy⟩
          · rintro e y ⟨⟨Y', M', D', hd', rfl⟩, hy⟩
            obtain ⟨rfl, rfl, rfl⟩ := hd.one hd'
            exact ⟨rfl, hy⟩
    obtain ⟨v, f, c5, c6⟩ := BS
    clear hn hH hI hS
    go_enter Tryd.func4, Tryd.ntmps4
    go_wp2_with fail
    refine (Ex.examples_any _ hT.out).mono ?_
    rintro e x1 ⟨rfl, b1⟩
    go_wp2_with fail
    refine (k1 _).mono ?_
    rintro e x2 ⟨rfl, rfl⟩
    go_wp2_with fail
    refine (k2 _).mono ?_
    rintro e x2 ⟨rfl, rfl⟩
    go_wp2_with fail
    refine (c1 _ (hT.out.next b1)).mono ?_
    rintro e x3 ⟨⟨Y, M, D, hd, rfl⟩, b3⟩
    have B3 := Kb.keepB b1 b3
    generalize hz : (⟨(Pa.prL [M, D, H, I, S]).toArray⟩ : ByteArray) = z1
    go_wp2_with fail
    refine (c2 _).mono ?_
    rintro e x4 ⟨⟨Y', M', D', hd', rfl⟩, b4⟩
    obtain ⟨rfl, rfl, rfl⟩ := hd.one hd'
    rw [hz]
    have B4 := Kb.keepB B3 b4
    go_wp2_with fail
    refine (c3 _ (hT.out.next B4)).mono ?_
    rintro e x5 ⟨⟨Y', M', D', hd2, rfl⟩, b5⟩
    obtain ⟨rfl, rfl, rfl⟩ := hd.one hd2
    have B5 := Kb.keepB B4 b5
    generalize hz2 : (⟨(Te.juL Y M D).toArray⟩ : ByteArray) = z2
    go_wp2_with fail
    refine (c4 _).mono ?_
    rintro e x6 ⟨⟨Y', M', D', hd3, rfl⟩, b6⟩
    obtain ⟨rfl, rfl, rfl⟩ := hd.one hd3
    rw [hz2]
    have B6 := Kb.keepB B5 b6
    go_wp2_with fail
    refine (c5 _ (hT.out.next B6)).mono ?_
    rintro e x7 ⟨rfl, b7⟩
    go_wp2_with fail
    refine (c6 _).mono ?_
    rintro e x8 ⟨rfl, b8⟩
    have B := Kb.keepB (Kb.keepB B6 b7) b8
    clear c1 c2 c3 c4 c5 c6 k1 k2 hz hz2 hd hd' hd2 hd3
    go_wp2
    go_ret
    exact ⟨by simp, B⟩


set_option maxRecDepth 1000000 in
theorem contract (H : Type) (enc : TypeId × Value → H) (W : World) (base : Nat) (args : Array Value) (ds gs : List (DataW H)) (before : List MemPlace)
    (hval : ∀ (j : Nat) t v, Tryd.f4.params[j]? = some t → args[j]? = some v → Value.okWide Tryd.prog W .any base t v)
    (hW : DataW.Whole enc Tryd.prog Tryd.f4.params.toList Rows.clockTellsSpec.vars false W args.toList ds gs before) (hL : laidMetH Tryd.prog Rows.clockTellsRow.laid W) (hSh : W.ShapedOpen Tryd.prog) :
    Calls Tryd.prog 4 args W fun e W' => ∃ v, e = .returned v ∧ Rows.clockTellsSpec.post enc Tryd.prog Tryd.f4 false true false false W args v W' := by
  have hW' := hW
  obtain ⟨p, q, hA0, hV, rfl, hfz, hnd⟩ := hW
  have hA : DataW.TrodAll enc Tryd.prog W 0 (fun _ => true) true Tryd.f4.params.toList args.toList ds p := hA0
  rw [Tryd.params4] at hA hval
  obtain ⟨v0, vs0, d0, ds0, p0, q0, hargs, rfl, rfl, h0, r0⟩ := trodAll_cons hA
  obtain ⟨v1, vs1, d1, ds1, p1, q1, rfl, rfl, rfl, h1, r1⟩ := trodAll_cons r0
  obtain ⟨rfl, rfl, rfl⟩ := trodAll_nil r1
  obtain rfl : args = #[v0, v1] := by cases args; simp_all
  obtain ⟨rfl, rfl⟩ := trodVars_none hV
  obtain ⟨a0, rfl, rfl, rfl, w0⟩ := open_int Tryd.underlying3 (hval 0 3 v0 rfl rfl) h0
  obtain ⟨a1, rfl, rfl, rfl, w1⟩ := open_int Tryd.underlying3 (hval 1 3 v1 rfl rfl) h1
  clear hA0
  refine (walk a0 a1 w0 w1 W hL hSh).mono fun e W' ⟨he, bel⟩ => ?_
  subst he
  exact ⟨_, rfl, _, _, _, [], _, [], hW', trodAll_mk1 (shut_bool Tryd.underlying4 _), (trodAll_cons_mk (shut_int Tryd.underlying3 w0) (trodAll_cons_mk (shut_int Tryd.underlying3 w1) trodAll_mk0)), rfl, bel.frame _, fun h => by cases h⟩

noncomputable def low : Nat := (World.holding Tryd.prog default ⟨#[], #[], []⟩).heap.size
set_option maxRecDepth 1000000 in
theorem laid_met (os : Os) : laidMet Tryd.prog Rows.clockTellsRow.laid (({ World.holding Tryd.prog os ⟨#[], #[], []⟩ with heap := ((World.holding Tryd.prog os ⟨#[], #[], []⟩).heap.modify 0 fun | .cells _ t frozen => .cells #[.int .i64 0, .int .i64 31, .int .i64 59, .int .i64 90, .int .i64 120, .int .i64 151, .int .i64 181, .int .i64 212, .int .i64 243, .int .i64 273, .int .i64 304, .int .i64 334, .int .i64 365] t frozen | o => o) } : World).forCall (fun _ _ => 0) ⟨#[], #[.int .i64 0, .int .i64 0], []⟩).memory :=
  laidMet_of_run' 8 (by kernel_rfl) (by kernel_rfl)
set_option maxRecDepth 1000000 in
theorem reads (os : Os) {H : Type} (enc : TypeId × Value → H) : ∃ places, DataW.whole enc Tryd.prog (({ World.holding Tryd.prog os ⟨#[], #[], []⟩ with heap := ((World.holding Tryd.prog os ⟨#[], #[], []⟩).heap.modify 0 fun | .cells _ t frozen => .cells #[.int .i64 0, .int .i64 31, .int .i64 59, .int .i64 90, .int .i64 120, .int .i64 151, .int .i64 181, .int .i64 212, .int .i64 243, .int .i64 273, .int .i64 304, .int .i64 334, .int .i64 365] t frozen | o => o) } : World).forCall (fun _ _ => 0) ⟨#[], #[.int .i64 0, .int .i64 0], []⟩).memory Tryd.f4.params.toList Rows.clockTellsSpec.vars false (#[.int .i64 0, .int .i64 0] : Array Value).toList 8 = some ([.lit (.int .i64 0), .lit (.int .i64 0)], [], places) :=
  ⟨[], by kernel_rfl⟩
set_option maxRecDepth 1000000 in
theorem lifted (os : Os) (started : os.Started) (H : Type) (enc : TypeId × Value → H) (F : Stop.Interp) :
    ReturnsInHanded {} Tryd.checked os 4 .any ((OpenSpec.ofChange Rows.clockTellsSpec).preRow enc Tryd.prog Tryd.f4 Rows.clockTellsRow.domain false Rows.clockTellsRow.laid) (((OpenSpec.ofChange Rows.clockTellsSpec).at F).post enc Tryd.prog Tryd.f4 false true false false) := by
  obtain ⟨places, hx⟩ := reads os enc
  refine returnsInHanded_of_row (C := Tryd.checked) (s := OpenSpec.ofChange Rows.clockTellsSpec) own started (by kernel_rfl) Tryd.func4
    (witness_row_atRef (enc := enc) (C := Tryd.checked) false ({ World.holding Tryd.prog os ⟨#[], #[], []⟩ with heap := ((World.holding Tryd.prog os ⟨#[], #[], []⟩).heap.modify 0 fun | .cells _ t frozen => .cells #[.int .i64 0, .int .i64 31, .int .i64 59, .int .i64 90, .int .i64 120, .int .i64 151, .int .i64 181, .int .i64 212, .int .i64 243, .int .i64 273, .int .i64 304, .int .i64 334, .int .i64 365] t frozen | o => o) } : World) #[.int .i64 0, .int .i64 0] rfl (by kernel_rfl) (by kernel_rfl) (by kernel_rfl)
      (OpenSpec.preRow_of_cond 8 hx (by kernel_rfl) (fun k hk => by cases hk) (by kernel_rfl) (laid_met os))) ?_
  intro W base args ds gs before hval hW _ hcond hsz hL hSh _
  exact contract H enc W base args ds gs before hval hW hL hSh

theorem said : Rows.ClockTellsSaid :=
  OpenClaim.holds_of_cond 4 Tryd.f4 rfl rfl rfl rfl rfl rfl rfl ⟨rfl, rfl, rfl, rfl, rfl⟩ rfl rfl rfl rfl rfl (by kernel_rfl) Tryd.func4 (by kernel_rfl)
    (of_decide_eq_true (by kernel_rfl)) (by unfold Func.isWrapper; first | (rw [if_pos (by decide +kernel)]; kernel_rfl) | (rw [if_neg (by decide +kernel)]; exact ⟨rfl, rfl⟩))
    (fun os started H enc _ F => by rw [OpenClaim.pre_eq_preRow]; exact lifted os started H enc F)
theorem plain (f : FuncId) (fn : Func) (hf : Tryd.pinned.checked.prog.funcNamed "turnstile/turnstilelaw8.ClockTells" = some f) (hfn : Tryd.pinned.checked.prog.funcs[f]? = some fn) :
    false = Tryd.pinned.checked.prog.looks [] ∧ ∀ (j : Nat) t, fn.params[j]? = some t → Tryd.pinned.checked.prog.wantsStandIn t = false := by
  obtain rfl : f = 4 := Option.some.inj ((show Tryd.prog.funcNamed "turnstile/turnstilelaw8.ClockTells" = some 4 by kernel_rfl).symm.trans hf) |>.symm
  obtain rfl : fn = Tryd.f4 := (Option.some.inj (Tryd.func4.symm.trans hfn)).symm
  refine ⟨by kernel_rfl, fun j t ht => ?_⟩
  rw [Tryd.params4] at ht
  have hm : t = 3 := by
    rcases j with _ | _ | j
    all_goals first | (simp at ht; omega) | (simp at ht; exact Or.inl ht.symm) | (simp at ht; exact Or.inr ht.symm) | (simp at ht; exact ht.symm) | (simp at ht; done)
  rcases hm with rfl
  exact (show Tryd.prog.wantsStandIn 3 = false by kernel_rfl)

theorem proved : Rows.ClockTellsCardSaid :=
  Claim7.holds_tied_plain_at .later [] _ _ _ _ said (fun _ h => by cases h) (by kernel_rfl) (fun _ h => by cases h) clockTells_row_tie rfl ⟨rfl, rfl⟩ (by kernel_rfl) rfl plain (by kernel_rfl)
#print axioms proved
end Go.Proofs.YtpocbaaogkabeaaDoor.clockTells
