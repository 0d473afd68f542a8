/- ClockBack: the law out of the contracts; the frame of the row. -/
import Derived.Test.YtpocbaaogkabeaaDoorCards
import Derived.Test.YtpocbaaogkabeaaDoorTie
import Derived.WalkKit
import Derived.ProofKit
import Derived.OpenShut
import Derived.ShutString
import Derived.ChangeOld
import Derived.Below
import Derived.JoinedCond
import Derived.SizedLaws
import Derived.Deep.DeepHandedRow
import Derived.Lib.LaidTab
import Derived.Stop.LaidErr
import Derived.Deep.DeepWitnessRowRef
import Derived.Test.YtpocbaaogkabeaaDoorFk
namespace Go.Proofs.YtpocbaaogkabeaaDoor.clockBack
open Go.ChangeShapes Go.WideShapes Go.ChangeAt Go.RowKit
open Go.ChangeMaps (open_string shut_string)
set_option linter.unusedVariables false

theorem own : ownKnob Tryd.prog.godebug = none := by kernel_rfl

set_option linter.unusedSimpArgs false
theorem gTab : Tryd.prog.globalNamed "turnstile/clock.ahead" = some 0 := by kernel_rfl
theorem gTabType : (Tryd.prog.globals[0]?).map (·.type) = some 58 := by kernel_rfl
theorem cellsT : Tryd.prog.cellsOf 58 = 13 := by kernel_rfl
theorem cellsE : Tryd.prog.cellsOf 3 = 1 := by kernel_rfl
theorem table {W : World} (h : laidMetH Tryd.prog Rows.clockBackRow.laid W) : Ld.Tab W :=
  Ld.Tab.of_var gTab (Lib.tabIs_of_head (rest := []) gTab gTabType Tryd.underlying58 Tryd.underlying3 cellsE cellsT h)
set_option maxRecDepth 100000 in
set_option maxHeartbeats 6400000 in
theorem walk (a0 : Int) (w0 : (Lit.int .i64 a0).wf = true) (w : World) (hL : laidMetH Tryd.prog Rows.clockBackRow.laid w) (hSh : w.ShapedOpen Tryd.prog) :
    Calls Tryd.prog 7 #[.int .i64 a0] w fun e w' => e = .returned (.bool true) ∧ Below w.heap.size w w' := by
  have hT : Hid (Ld.Tab w) := table hL
  clear hL hSh
  have p0 := Lw.pk_bd (c := a0) (n := 3155760000) (by omega)
  have c0 := fun x => Lw.moment_any a0 w0 x
  clear w0
  generalize Lw.pk a0 3155760000 = n at *
  obtain ⟨n0, n1⟩ := p0
  obtain ⟨Y, M, D, hd⟩ := Fdy.day_ex (n / 86400) (by omega) (by omega)
  have cD : ∀ x, Ld.Tab x → Calls Tryd.prog 12 #[.int .i64 n] x fun e w' => e = .returned (.tuple #[.agg #[.int .i64 Y, .int .i64 M, .int .i64 D, .int .i64 (n % 86400 / 3600), .int .i64 (n % 3600 / 60), .int .i64 (n % 60)], .int .i64 0]) ∧ Below x.heap.size x w' := fun x hT => (Dz.date_good n n0 (by omega) x hT).mono (by
    rintro e v ⟨⟨Y', M', D', hd', rfl⟩, hy⟩
    obtain ⟨rfl, rfl, rfl⟩ := hd.one hd'
    exact ⟨rfl, hy⟩)
  have cO : ∀ x, Ld.Tab x → Calls _ _ _ x _ := fun x hT => Oe.of_any Y M D (n % 86400 / 3600) (n % 3600 / 60) (n % 60) x hT
  rw [(Ft.own_of n0 hd).1, (Ft.own_of n0 hd).2] at cO
  unfold Ld.dt at cO
  have cS : ∀ x, Ld.Tab x → Calls Tryd.prog 18 #[.int .i64 n] x fun e w' => e = .returned (.tuple #[.string (Ft.stS M D (n % 86400 / 3600) (n % 3600 / 60) (n % 60)), .int .i64 0]) ∧ Below x.heap.size x w' := fun x hT => (Te.stampV_good n n0 (by omega) x hT).mono (by
    rintro e v ⟨⟨Y', M', D', hd', rfl⟩, hy⟩
    obtain ⟨rfl, rfl, rfl⟩ := hd.one hd'
    exact ⟨rfl, hy⟩)
  have hsz := Ft.stS_size M D (n % 86400 / 3600) (n % 3600 / 60) (n % 60)
  have cN : ∀ x, Ld.Tab x → Calls Tryd.prog 24 #[.string (Ft.stS M D (n % 86400 / 3600) (n % 3600 / 60) (n % 60)), .int .i64 n] x fun e w' => e = .returned (.tuple #[.int .i64 n, .int .i64 0]) ∧ Below x.heap.size x w' := fun x hT => (Ner.near_good _ (by omega) n n0 (by omega) (Ft.own_st n0 hd) x hT).mono (by
    rintro e v ⟨⟨b, hb, rfl⟩, hy⟩
    obtain ⟨y, _, _, f1, _⟩ := Ft.own_near n0 hd hb
    have : b = n := by
      unfold Ca.fr at f1
      split at f1 <;> split at f1 <;> omega
    subst this
    exact ⟨rfl, hy⟩)
  have cW : ∀ x, Calls Tryd.prog 16 #[.int .i64 n] x fun e w' => e = .returned (.tuple #[.int .i64 ((n / 86400 + 5) % 7 + 1), .int .i64 0]) ∧ w' = x := fun x => by
    have := Te.weekday_any n x
    rw [show Te.wkV n = (n / 86400 + 5) % 7 + 1 from if_pos (decide_eq_true (by omega)), show Te.mE n = 0 from if_pos (decide_eq_true (by omega))] at this
    exact this
  have cJ : ∀ x, Ld.Tab x → Calls Tryd.prog 20 #[.int .i64 n] x fun e w' => e = .returned (.tuple #[.string (Fk.juS Y M D), .int .i64 0]) ∧ Below x.heap.size x w' := fun x hT => (Te.julian_good n n0 (by omega) x hT).mono (by
    rintro e v ⟨⟨Y', M', D', hd', rfl⟩, hy⟩
    obtain ⟨rfl, rfl, rfl⟩ := hd.one hd'
    exact ⟨rfl, hy⟩)
  have jsz := Fk.juS_size hd
  obtain ⟨W, hW⟩ : ∃ W, (n / 86400 + 5) % 7 + 1 = W := ⟨_, rfl⟩
  have W0 : 1 ≤ W := by omega
  have W1 : W ≤ 7 := by omega
  rw [hW] at cW
  have hW2 : n + 86400 ≤ 3155759999 → ((n + 86400) / 86400 + 5) % 7 + 1 = W % 7 + 1 := fun _ => by omega
  obtain ⟨H, hH⟩ : ∃ H, n % 86400 / 3600 = H := ⟨_, rfl⟩
  obtain ⟨I, hI⟩ : ∃ H, n % 3600 / 60 = H := ⟨_, rfl⟩
  obtain ⟨S, hS⟩ : ∃ H, n % 60 = H := ⟨_, rfl⟩
  rw [hH, hI, hS] at cD cO cS cN hsz
  have LATE : ¬ n + 86400 ≤ 3155759999 → ∀ x, Calls Tryd.prog 12 #[.int .i64 (n + 86400)] x fun e w' => e = .returned (.tuple #[.agg #[.int .i64 0, .int .i64 0, .int .i64 0, .int .i64 0, .int .i64 0, .int .i64 0], .int .i64 80]) ∧ Below x.heap.size x w' := fun h x => Dz.date_bad (n + 86400) (decide_eq_false (by omega)) x
  have NEXT : n + 86400 ≤ 3155759999 → ∃ (Y' M' D' : Int) (J : ByteArray), (∀ x, Ld.Tab x → Calls Tryd.prog 12 #[.int .i64 (n + 86400)] x fun e w' => e = .returned (.tuple #[.agg #[.int .i64 Y', .int .i64 M', .int .i64 D', .int .i64 H, .int .i64 I, .int .i64 S], .int .i64 0]) ∧ Below x.heap.size x w') ∧ (∀ x, Calls Tryd.prog 16 #[.int .i64 (n + 86400)] x fun e w' => e = .returned (.tuple #[.int .i64 (W % 7 + 1), .int .i64 0]) ∧ w' = x) ∧ (∀ x, Ld.Tab x → Calls Tryd.prog 20 #[.int .i64 (n + 86400)] x fun e w' => e = .returned (.tuple #[.string J, .int .i64 0]) ∧ Below x.heap.size x w') ∧ J.size = 4 ∧ ((Y' = Y ∧ ((D' = D + 1 ∧ M' = M) ∨ D' = 1) ∧ Op.bytesLess J.toList (Fk.juS Y M D).toList = false ∧ (J.toList == (Fk.juS Y M D).toList) = false ∧ ¬ (J.extract 1 4).toList = [48, 48, 49]) ∨ (Y' = Y + 1 ∧ M' = 1 ∧ D' = 1 ∧ (J.extract 1 4).toList = [48, 48, 49])) := fun hl => by
    obtain ⟨Y', M', D', hd'⟩ := Fdy.day_ex ((n + 86400) / 86400) (by omega) (by omega)
    have hq : (n + 86400) / 86400 = n / 86400 + 1 := by omega
    refine ⟨Y', M', D', Fk.juS Y' M' D', fun x hT => (Dz.date_good (n + 86400) (by omega) (by omega) x hT).mono ?_, fun x => ?_, fun x hT => (Te.julian_good (n + 86400) (by omega) (by omega) x hT).mono ?_, Fk.juS_size hd', ?_⟩
    · rintro e v ⟨⟨Y'', M'', D'', hd'', rfl⟩, hy⟩
      obtain ⟨rfl, rfl, rfl⟩ := hd'.one hd''
      rw [show (n + 86400) % 86400 / 3600 = H by omega, show (n + 86400) % 3600 / 60 = I by omega, show (n + 86400) % 60 = S by omega]
      exact ⟨rfl, hy⟩
    · have := Te.weekday_any (n + 86400) x
      rw [show Te.wkV (n + 86400) = ((n + 86400) / 86400 + 5) % 7 + 1 from if_pos (decide_eq_true (by omega)), show Te.mE (n + 86400) = 0 from if_pos (decide_eq_true (by omega)), hW2 hl] at this
      exact this
    · rintro e v ⟨⟨Y'', M'', D'', hd'', rfl⟩, hy⟩
      obtain ⟨rfl, rfl, rfl⟩ := hd'.one hd''
      exact ⟨rfl, hy⟩
    · rw [hq] at hd'
      rcases Fk.next_day hd hd' with ⟨rfl, ht, hc⟩ | ⟨rfl, rfl, rfl⟩
      · rw [ByteArray.toList_eq, ByteArray.toList_eq]; exact .inl ⟨rfl, hc, (Fk.juS_rise hd hd' ht).1, (Fk.juS_rise hd hd' ht).2, Fk.juS_nf hd' (by have := Fk.day_t hd; omega)⟩
      · exact .inr ⟨rfl, rfl, rfl, by rw [Fk.juS_first hd', ByteArray.toList_eq]⟩
  generalize Fk.juS Y M D = J0 at *
  generalize Ft.stS M D H I S = T at *
  have Y0 := hd.y0
  have Y1 := hd.y1
  have M0 := hd.m0
  have M1 := hd.m1
  have D0 := hd.d0
  have D1 : D ≤ 31 := by have := Ca.dm_bd Y hd.m0 hd.m1; have := hd.d1; omega
  clear hd hH hI hS hW hW2
  go_enter Tryd.func7, Tryd.ntmps7
  go_wp2_with fail
  refine (Ex.examples_any _ hT.out).mono ?_
  rintro e x1 ⟨rfl, b1⟩
  go_wp2_with fail
  refine (c0 _).mono ?_
  rintro e x2 ⟨rfl, rfl⟩
  go_wp2_with fail
  refine (cD _ (hT.out.next b1)).mono ?_
  rintro e x3 ⟨rfl, b3⟩
  have B3 := Kb.keepB b1 b3
  have B3a : ∀ o, Below w.heap.size w (x3.alloc o) := fun o => Kb.keepB B3 (Kb.below_one _ _)
  have S3 : Hx.Six (x3.alloc (Obj.cells #[.int .i64 Y, .int .i64 M, .int .i64 D, .int .i64 H, .int .i64 I, .int .i64 S] 23)) x3.heap.size Y M D H I S := Kb.h1_0 x3 _
  clear c0 cD b1 b3
  go_wp2_with fail
  refine (cO _ (hT.out.next (B3a _))).mono ?_
  rintro e x4 ⟨rfl, b4⟩
  have B4 := Kb.keepB (B3a _) b4
  have S4 := S3.next b4
  clear cO b4 S3 B3a
  go_wp2_with fail
  refine (cS _ (hT.out.next B4)).mono ?_
  rintro e x5 ⟨rfl, b5⟩
  have B5 := Kb.keepB B4 b5
  have S5 := S4.next b5
  clear cS b5 S4
  go_wp2_with fail
  refine (cN _ (hT.out.next B5)).mono ?_
  rintro e x6 ⟨rfl, b6⟩
  have B6 := Kb.keepB B5 b6
  have S6 := S5.next b6
  clear cN b6 S5
  go_wp2_with fail
  refine (cW _).mono ?_
  rintro e x7 ⟨rfl, rfl⟩
  go_wp2_with fail
  refine (cJ _ (hT.out.next B6)).mono ?_
  rintro e x8 ⟨rfl, b8⟩
  have B8 := Kb.keepB B6 b8
  have S8 := S6.next b8
  clear cJ b8 S6 cW
  by_cases hl : n + 86400 ≤ 3155759999
  · obtain ⟨Y', M', D', J, k1, k2, k3, k4, k5⟩ := NEXT (by omega)
    clear NEXT LATE
    go_wp2_with fail
    refine (k1 _ (hT.out.next B8)).mono ?_
    rintro e x9 ⟨rfl, b9⟩
    have B9 := Kb.keepB B8 b9
    have S9 := S8.next b9
    have B9a : ∀ o, Below w.heap.size w (x9.alloc o) := fun o => Kb.keepB B9 (Kb.below_one _ _)
    have S9a : ∀ o, Hx.Six (x9.alloc o) x3.heap.size Y M D H I S := fun o => S9.next (Kb.below_one _ _)
    have X9 : ∀ o, (x9.alloc o).heap[x9.heap.size]? = some o := fun o => Kb.h1_0 x9 o
    clear k1 b9 S8
    go_wp2_with fail
    refine (k2 _).mono ?_
    rintro e x10 ⟨rfl, rfl⟩
    go_wp2_with fail
    refine (k3 _ (hT.out.next (B9a _))).mono ?_
    rintro e x11 ⟨rfl, b11⟩
    have B11 := Kb.keepB (B9a _) b11
    have S11 := (S9a _).next b11
    have X11 := Kb.kept b11 (X9 _)
    obtain ⟨r0, r1, r2, r3, r4, r5⟩ := S11.at
    obtain ⟨t0, t1, t2, t3, t4, t5⟩ := Oe.held6 X11
    clear k2 k3 b11 S11 X11 S9 S9a X9 B9a
    have V0 : W.tmod 7 = W % 7 := Int.tmod_eq_emod_of_nonneg (by omega)
    have V1 : 0 ≤ W % 7 := by omega
    have V2 : W % 7 ≤ 6 := by omega
    generalize W % 7 = V at *
    rcases k5 with ⟨rfl, hc, g1, g2, g3⟩ | ⟨rfl, rfl, rfl, g1⟩
    · rcases hc with ⟨rfl, rfl⟩ | rfl
      · have q1 : (D + 1 == 1) = false := by simp; omega
        have q2 : (D + 1 == D + 1) = true := by simp
        go_wp2_with fail
        all_goals (go_ret; exact ⟨by simp, B11⟩)
      · have q1 : (1 == D + 1) = false := by simp; omega
        go_wp2_with fail
        all_goals (go_ret; exact ⟨by simp, B11⟩)
    · have q1 : (1 == D + 1) = false := by simp; omega
      have q2 : (Y + 1 == Y) = false := by simp; omega
      go_wp2_with fail
      go_ret
      exact ⟨by simp, B11⟩
  · have k1 := LATE (by omega)
    clear NEXT LATE
    have hl2 : 3155759999 < n + 86400 := by omega
    go_wp2_with fail
    refine (k1 _).mono ?_
    rintro e x9 ⟨rfl, b9⟩
    have B9 := Kb.keepB B8 b9
    clear k1 b9
    go_wp2
    all_goals (go_ret; exact ⟨by simp, Kb.keepB B9 (Kb.below_one _ _)⟩)


set_option maxRecDepth 1000000 in
theorem contract (H : Type) (enc : TypeId × Value → H) (W : World) (base : Nat) (args : Array Value) (ds gs : List (DataW H)) (before : List MemPlace)
    (hval : ∀ (j : Nat) t v, Tryd.f7.params[j]? = some t → args[j]? = some v → Value.okWide Tryd.prog W .any base t v)
    (hW : DataW.Whole enc Tryd.prog Tryd.f7.params.toList Rows.clockBackSpec.vars false W args.toList ds gs before) (hL : laidMetH Tryd.prog Rows.clockBackRow.laid W) (hSh : W.ShapedOpen Tryd.prog) :
    Calls Tryd.prog 7 args W fun e W' => ∃ v, e = .returned v ∧ Rows.clockBackSpec.post enc Tryd.prog Tryd.f7 false true false false W args v W' := by
  have hW' := hW
  obtain ⟨p, q, hA0, hV, rfl, hfz, hnd⟩ := hW
  have hA : DataW.TrodAll enc Tryd.prog W 0 (fun _ => true) true Tryd.f7.params.toList args.toList ds p := hA0
  rw [Tryd.params7] at hA hval
  obtain ⟨v0, vs0, d0, ds0, p0, q0, hargs, rfl, rfl, h0, r0⟩ := trodAll_cons hA
  obtain ⟨rfl, rfl, rfl⟩ := trodAll_nil r0
  obtain rfl : args = #[v0] := by cases args; simp_all
  obtain ⟨rfl, rfl⟩ := trodVars_none hV
  obtain ⟨a0, rfl, rfl, rfl, w0⟩ := open_int Tryd.underlying3 (hval 0 3 v0 rfl rfl) h0
  clear hA0
  refine (walk a0 w0 W hL hSh).mono fun e W' ⟨he, bel⟩ => ?_
  subst he
  exact ⟨_, rfl, _, _, _, [], _, [], hW', trodAll_mk1 (shut_bool Tryd.underlying4 _), (trodAll_cons_mk (shut_int Tryd.underlying3 w0) trodAll_mk0), rfl, bel.frame _, fun h => by cases h⟩

noncomputable def low : Nat := (World.holding Tryd.prog default ⟨#[], #[], []⟩).heap.size
set_option maxRecDepth 1000000 in
theorem laid_met (os : Os) : laidMet Tryd.prog Rows.clockBackRow.laid (({ World.holding Tryd.prog os ⟨#[], #[], []⟩ with heap := ((World.holding Tryd.prog os ⟨#[], #[], []⟩).heap.modify 0 fun | .cells _ t frozen => .cells #[.int .i64 0, .int .i64 31, .int .i64 59, .int .i64 90, .int .i64 120, .int .i64 151, .int .i64 181, .int .i64 212, .int .i64 243, .int .i64 273, .int .i64 304, .int .i64 334, .int .i64 365] t frozen | o => o) } : World).forCall (fun _ _ => 0) ⟨#[], #[.int .i64 0], []⟩).memory :=
  laidMet_of_run' 8 (by kernel_rfl) (by kernel_rfl)
set_option maxRecDepth 1000000 in
theorem reads (os : Os) {H : Type} (enc : TypeId × Value → H) : ∃ places, DataW.whole enc Tryd.prog (({ World.holding Tryd.prog os ⟨#[], #[], []⟩ with heap := ((World.holding Tryd.prog os ⟨#[], #[], []⟩).heap.modify 0 fun | .cells _ t frozen => .cells #[.int .i64 0, .int .i64 31, .int .i64 59, .int .i64 90, .int .i64 120, .int .i64 151, .int .i64 181, .int .i64 212, .int .i64 243, .int .i64 273, .int .i64 304, .int .i64 334, .int .i64 365] t frozen | o => o) } : World).forCall (fun _ _ => 0) ⟨#[], #[.int .i64 0], []⟩).memory Tryd.f7.params.toList Rows.clockBackSpec.vars false (#[.int .i64 0] : Array Value).toList 8 = some ([.lit (.int .i64 0)], [], places) :=
  ⟨[], by kernel_rfl⟩
set_option maxRecDepth 1000000 in
theorem lifted (os : Os) (started : os.Started) (H : Type) (enc : TypeId × Value → H) (F : Stop.Interp) :
    ReturnsInHanded {} Tryd.checked os 7 .any ((OpenSpec.ofChange Rows.clockBackSpec).preRow enc Tryd.prog Tryd.f7 Rows.clockBackRow.domain false Rows.clockBackRow.laid) (((OpenSpec.ofChange Rows.clockBackSpec).at F).post enc Tryd.prog Tryd.f7 false true false false) := by
  obtain ⟨places, hx⟩ := reads os enc
  refine returnsInHanded_of_row (C := Tryd.checked) (s := OpenSpec.ofChange Rows.clockBackSpec) own started (by kernel_rfl) Tryd.func7
    (witness_row_atRef (enc := enc) (C := Tryd.checked) false ({ World.holding Tryd.prog os ⟨#[], #[], []⟩ with heap := ((World.holding Tryd.prog os ⟨#[], #[], []⟩).heap.modify 0 fun | .cells _ t frozen => .cells #[.int .i64 0, .int .i64 31, .int .i64 59, .int .i64 90, .int .i64 120, .int .i64 151, .int .i64 181, .int .i64 212, .int .i64 243, .int .i64 273, .int .i64 304, .int .i64 334, .int .i64 365] t frozen | o => o) } : World) #[.int .i64 0] rfl (by kernel_rfl) (by kernel_rfl) (by kernel_rfl)
      (OpenSpec.preRow_of_cond 8 hx (by kernel_rfl) (fun k hk => by cases hk) (by kernel_rfl) (laid_met os))) ?_
  intro W base args ds gs before hval hW _ hcond hsz hL hSh _
  exact contract H enc W base args ds gs before hval hW hL hSh

theorem said : Rows.ClockBackSaid :=
  OpenClaim.holds_of_cond 7 Tryd.f7 rfl rfl rfl rfl rfl rfl rfl ⟨rfl, rfl, rfl, rfl, rfl⟩ rfl rfl rfl rfl rfl (by kernel_rfl) Tryd.func7 (by kernel_rfl)
    (of_decide_eq_true (by kernel_rfl)) (by unfold Func.isWrapper; first | (rw [if_pos (by decide +kernel)]; kernel_rfl) | (rw [if_neg (by decide +kernel)]; exact ⟨rfl, rfl⟩))
    (fun os started H enc _ F => by rw [OpenClaim.pre_eq_preRow]; exact lifted os started H enc F)
theorem plain (f : FuncId) (fn : Func) (hf : Tryd.pinned.checked.prog.funcNamed "turnstile/turnstilelaw8.ClockBack" = some f) (hfn : Tryd.pinned.checked.prog.funcs[f]? = some fn) :
    false = Tryd.pinned.checked.prog.looks [] ∧ ∀ (j : Nat) t, fn.params[j]? = some t → Tryd.pinned.checked.prog.wantsStandIn t = false := by
  obtain rfl : f = 7 := Option.some.inj ((show Tryd.prog.funcNamed "turnstile/turnstilelaw8.ClockBack" = some 7 by kernel_rfl).symm.trans hf) |>.symm
  obtain rfl : fn = Tryd.f7 := (Option.some.inj (Tryd.func7.symm.trans hfn)).symm
  refine ⟨by kernel_rfl, fun j t ht => ?_⟩
  rw [Tryd.params7] at ht
  have hm : t = 3 := by
    rcases j with _ | j
    all_goals first | (simp at ht; omega) | (simp at ht; exact Or.inl ht.symm) | (simp at ht; exact Or.inr ht.symm) | (simp at ht; exact ht.symm) | (simp at ht; done)
  rcases hm with rfl
  exact (show Tryd.prog.wantsStandIn 3 = false by kernel_rfl)

theorem proved : Rows.ClockBackCardSaid :=
  Claim7.holds_tied_plain_at .later [] _ _ _ _ said (fun _ h => by cases h) (by kernel_rfl) (fun _ h => by cases h) clockBack_row_tie rfl ⟨rfl, rfl⟩ (by kernel_rfl) rfl plain (by kernel_rfl)
#print axioms proved
end Go.Proofs.YtpocbaaogkabeaaDoor.clockBack
