/- ClockMonths: the law out of the contracts; the frame of the row. -/
import Derived.Test.YtpocbaaogkabeabDoorCards
import Derived.Test.YtpocbaaogkabeabDoorTie
import Derived.WalkKit
import Derived.ProofKit
import Derived.OpenShut
import Derived.ShutString
import Derived.ChangeOld
import Derived.Below
import Derived.JoinedCond
import Derived.SizedLaws
import Derived.Deep.DeepHandedRow
import Derived.Lib.LaidTab
import Derived.Stop.LaidErr
import Derived.Deep.DeepWitnessRowRef
import Derived.Test.YtpocbaaogkabeabDoorFm
namespace Go.Proofs.YtpocbaaogkabeabDoor.clockMonths
open Go.ChangeShapes Go.WideShapes Go.ChangeAt Go.RowKit
open Go.ChangeMaps (open_string shut_string)
set_option linter.unusedVariables false

theorem own : ownKnob Tryd.prog.godebug = none := by kernel_rfl

set_option linter.unusedSimpArgs false
theorem gTab : Tryd.prog.globalNamed "turnstile/clock.ahead" = some 0 := by kernel_rfl
theorem gTabType : (Tryd.prog.globals[0]?).map (·.type) = some 54 := by kernel_rfl
theorem cellsT : Tryd.prog.cellsOf 54 = 13 := by kernel_rfl
theorem cellsE : Tryd.prog.cellsOf 3 = 1 := by kernel_rfl
theorem table {W : World} (h : laidMetH Tryd.prog Rows.clockMonthsRow.laid W) : Ld.Tab W :=
  Ld.Tab.of_var gTab (Lib.tabIs_of_head (rest := []) gTab gTabType Tryd.underlying54 Tryd.underlying3 cellsE cellsT h)
theorem conv4 {y : World} {g : Nat} {A B C D : Int} (a0 : 0 ≤ A) (a1 : A < 10) (b0 : 0 ≤ B) (b1 : B < 10) (c0 : 0 ≤ C) (c1 : C < 10) (d0 : 0 ≤ D) (d1 : D < 10) (hg : y.heap[g]? = some (Obj.cells #[.int .u8 (48 + A), .int .u8 (48 + B), .int .u8 (48 + C), .int .u8 (48 + D)] 5)) :
    (convert 31 9 (.slice (some ⟨g, 0, none⟩) 4 4)).run Tryd.prog y = .ok (.string ⟨#[Pa.dc A, Pa.dc B, Pa.dc C, Pa.dc D]⟩) y := by
  refine run_convert_bytes_back _ 31 9 5 ⟨g, 0, none⟩ 4 [Pa.dc A, Pa.dc B, Pa.dc C, Pa.dc D] Tryd.underlying31 Tryd.underlying5 Tryd.underlying9 ?_
  refine Lib.bytes_of_row hg ?_
  simp [Lib.byteCells, Pa.dc_nat a0 a1, Pa.dc_nat b0 b1, Pa.dc_nat c0 c1, Pa.dc_nat d0 d1]
set_option maxRecDepth 100000 in
set_option maxHeartbeats 6400000 in
theorem walk (a0 : Int) (a1 : Int) (a2 : Int) (a3 : Int) (w0 : (Lit.int .i64 a0).wf = true) (w1 : (Lit.int .i64 a1).wf = true) (w2 : (Lit.int .i64 a2).wf = true) (w3 : (Lit.int .i64 a3).wf = true) (w : World) (hL : laidMetH Tryd.prog Rows.clockMonthsRow.laid w) (hSh : w.ShapedOpen Tryd.prog) :
    Calls Tryd.prog 4 #[.int .i64 a0, .int .i64 a1, .int .i64 a2, .int .i64 a3] w fun e w' => e = .returned (.bool true) ∧ Below w.heap.size w w' := by
  have hT : Hid (Ld.Tab w) := table hL
  clear hL hSh
  have p0 := Lw.pk_bd (c := a0) (n := 100) (by omega)
  have p1 := Lw.pk_bd (c := a1) (n := 12) (by omega)
  have p2 := Lw.pk_bd (c := a2) (n := 3155760000) (by omega)
  have p3 := Lw.pk_bd (c := a3) (n := 24) (by omega)
  have c0 := fun x => Lw.pick_any a0 100 w0 (by omega) (by omega) x
  have c1 := fun x => Lw.pick_any a1 12 w1 (by omega) (by omega) x
  have c2 := fun x => Lw.moment_any a2 w2 x
  have c3 := fun x => Lw.pick_any a3 24 w3 (by omega) (by omega) x
  clear w0 w1 w2 w3
  generalize Lw.pk a0 100 = y at *
  generalize Lw.pk a1 12 = m' at *
  generalize Lw.pk a2 3155760000 = k at *
  generalize Lw.pk a3 24 = h at *
  obtain ⟨y0, y1⟩ := p0
  obtain ⟨m0, m1⟩ := p1
  obtain ⟨k0, k1⟩ := p2
  obtain ⟨h0, h1⟩ := p3
  obtain ⟨m, hm⟩ : ∃ m, 1 + m' = m := ⟨_, rfl⟩
  have mm0 : 1 ≤ m := by omega
  have mm1 : m ≤ 12 := by omega
  obtain ⟨A, hA⟩ : ∃ A, y / 10 = A := ⟨_, rfl⟩
  obtain ⟨B, hB⟩ : ∃ A, y % 10 = A := ⟨_, rfl⟩
  obtain ⟨C, hC⟩ : ∃ A, m / 10 = A := ⟨_, rfl⟩
  obtain ⟨E, hE⟩ : ∃ A, m % 10 = A := ⟨_, rfl⟩
  have u1 : 0 ≤ A := by omega
  have u2 : A < 10 := by omega
  have u3 : 0 ≤ B := by omega
  have u4 : B < 10 := by omega
  have u5 : 0 ≤ C := by omega
  have u6 : C < 10 := by omega
  have u7 : 0 ≤ E := by omega
  have u8 : E < 10 := by omega
  have v1 : IntKind.u8.wrap (48 + A) = 48 + A := Lib0.wrap_u8 _ (by omega) (by omega)
  have v2 : IntKind.u8.wrap (48 + B) = 48 + B := Lib0.wrap_u8 _ (by omega) (by omega)
  have v3 : IntKind.u8.wrap (48 + C) = 48 + C := Lib0.wrap_u8 _ (by omega) (by omega)
  have v4 : IntKind.u8.wrap (48 + E) = 48 + E := Lib0.wrap_u8 _ (by omega) (by omega)
  have eT : (⟨#[Pa.dc A, Pa.dc B, Pa.dc C, Pa.dc E]⟩ : ByteArray) = Fm.moT y m := by unfold Fm.moT; rw [hA, hB, hC, hE]
  obtain ⟨mo, -, -, msz⟩ := Fm.moT_is y0 y1 mm0 mm1
  obtain ⟨n, hn⟩ : ∃ n, n = Nr.laV (Fm.moT y m) := ⟨_, rfl⟩
  obtain ⟨d1, e1, e2, e3, n0, n1, nx⟩ := Fm.la_day y0 y1 mm0 mm1 hn
  have cL := fun x hT => Nr.last_good (Fm.moT y m) (by omega) mo x hT
  rw [← hn] at cL
  have cv : ∀ x : World, (convert 31 9 (.slice (some ⟨x.heap.size, 0, none⟩) 4 4)).run Tryd.prog (x.alloc (Obj.cells #[.int .u8 (48 + A), .int .u8 (48 + B), .int .u8 (48 + C), .int .u8 (48 + E)] 5)) = .ok (.string (Fm.moT y m)) (x.alloc (Obj.cells #[.int .u8 (48 + A), .int .u8 (48 + B), .int .u8 (48 + C), .int .u8 (48 + E)] 5)) := fun x => by
    rw [← eT]; exact conv4 u1 u2 u3 u4 u5 u6 u7 u8 (Kb.h1_0 x _)
  have cD : ∀ x, Ld.Tab x → Calls Tryd.prog 11 #[.int .i64 n] x fun e w' => e = .returned (.tuple #[.agg #[.int .i64 (2000 + y), .int .i64 m, .int .i64 (Ca.dm (2000 + y) m), .int .i64 23, .int .i64 59, .int .i64 59], .int .i64 0]) ∧ Below x.heap.size x w' := fun x hT => (Dz.date_good n n0 n1 x hT).mono (by
    rintro e v ⟨⟨Y', M', D', hd', rfl⟩, hy⟩
    obtain ⟨rfl, rfl, rfl⟩ := d1.one hd'
    rw [e1, e2, e3]
    exact ⟨rfl, hy⟩)
  have cN : ∃ (Y M D H I S g : Int), (∀ x, Ld.Tab x → Calls Tryd.prog 11 #[.int .i64 (n + 1)] x fun e w' => e = .returned (.tuple #[.agg #[.int .i64 Y, .int .i64 M, .int .i64 D, .int .i64 H, .int .i64 I, .int .i64 S], .int .i64 g]) ∧ Below x.heap.size x w') ∧ (n < 3155759999 → g = 0 ∧ D = 1 ∧ H = 0) ∧ (¬ n < 3155759999 → g = 80) := by
    by_cases hl : n < 3155759999
    · obtain ⟨⟨Y', M', d2⟩, z⟩ := nx hl
      refine ⟨Y', M', 1, (n + 1) % 86400 / 3600, (n + 1) % 3600 / 60, (n + 1) % 60, 0, fun x hT => (Dz.date_good (n + 1) (by omega) (by omega) x hT).mono ?_, fun _ => ⟨rfl, rfl, z⟩, fun h => absurd hl h⟩
      rintro e v ⟨⟨Y'', M'', D'', hd', rfl⟩, hy⟩
      obtain ⟨rfl, rfl, rfl⟩ := d2.one hd'
      exact ⟨rfl, hy⟩
    · exact ⟨0, 0, 0, 0, 0, 0, 80, fun x _ => Dz.date_bad (n + 1) (decide_eq_false (by omega)) x, fun h => absurd h hl, fun _ => rfl⟩
  obtain ⟨Yn, Mn, Dn, Hn, In, Sn, gn, cN, gn0, gn1⟩ := cN
  have BZ : ∃ (v t : ByteArray) (f : Int), (∀ x, Ld.Tab x → Calls Tryd.prog 12 #[.int .i64 k, .int .i64 h] x fun e w' => e = .returned (.tuple #[.string v, .int .i64 f]) ∧ Below x.heap.size x w') ∧ (∀ x, Ld.Tab x → Calls Tryd.prog 7 #[.int .i64 (Bu.dayN k h)] x fun e w' => e = .returned (.tuple #[.string t, .int .i64 f]) ∧ Below x.heap.size x w') ∧ ((f = 0 ∧ t.size = 10 ∧ t.extract 0 4 = v) ∨ (f = 80 ∧ v = ⟨#[]⟩)) := by
    have hok : Bu.okM k = true := decide_eq_true (by omega)
    have hh : decide (0 ≤ h ∧ h ≤ 23) = true := decide_eq_true (by omega)
    by_cases hs : 0 < h ∧ h ≤ k % 86400 / 3600
    · rw [show Bu.dayN k h = k + 86400 from if_pos hs]
      cases hn2 : Bu.okM (k + 86400)
      · exact ⟨⟨#[]⟩, ⟨#[]⟩, 80, fun x hT => Bu.business_late k h hok hh hs hn2 x hT, fun x _ => Te.stamp_date (k + 86400) hn2 x, .inr ⟨rfl, rfl⟩⟩
      · obtain ⟨g0, g1⟩ := of_decide_eq_true hn2
        obtain ⟨Y, M, D, hd⟩ := Fdy.day_ex ((k + 86400) / 86400) (by omega) (by omega)
        refine ⟨⟨(Pa.prL [M, D]).toArray⟩, Ft.stS M D ((k + 86400) % 86400 / 3600) ((k + 86400) % 3600 / 60) ((k + 86400) % 60), 0, fun x hT => (Bu.business_next k h hok hh hs hn2 x hT).mono ?_, fun x hT => (Te.stampV_good (k + 86400) g0 g1 x hT).mono ?_, .inl ⟨rfl, Ft.stS_size _ _ _ _ _, Fm.cut4 _ _ _ _ _⟩⟩
        · rintro e y ⟨⟨Y', M', D', hd', rfl⟩, hy⟩
          obtain ⟨rfl, rfl, rfl⟩ := hd.one hd'
          exact ⟨rfl, hy⟩
        · rintro e y ⟨⟨Y', M', D', hd', rfl⟩, hy⟩
          obtain ⟨rfl, rfl, rfl⟩ := hd.one hd'
          exact ⟨rfl, hy⟩
    · rw [show Bu.dayN k h = k from if_neg hs]
      obtain ⟨Y, M, D, hd⟩ := Fdy.day_ex (k / 86400) (by omega) (by omega)
      refine ⟨⟨(Pa.prL [M, D]).toArray⟩, Ft.stS M D (k % 86400 / 3600) (k % 3600 / 60) (k % 60), 0, fun x hT => (Bu.business_same k h hok hh hs x hT).mono ?_, fun x hT => (Te.stampV_good k (by omega) (by omega) x hT).mono ?_, .inl ⟨rfl, Ft.stS_size _ _ _ _ _, Fm.cut4 _ _ _ _ _⟩⟩
      · rintro e y ⟨⟨Y', M', D', hd', rfl⟩, hy⟩
        obtain ⟨rfl, rfl, rfl⟩ := hd.one hd'
        exact ⟨rfl, hy⟩
      · rintro e y ⟨⟨Y', M', D', hd', rfl⟩, hy⟩
        obtain ⟨rfl, rfl, rfl⟩ := hd.one hd'
        exact ⟨rfl, hy⟩
  obtain ⟨v, t, f, cB, cS, hf⟩ := BZ
  have cK := fun x hT => Dz.date_good k k0 (by omega) x hT
  unfold Ld.dt at cK
  unfold Bu.dayN at cS
  obtain ⟨Hk, hHk⟩ : ∃ H, k % 86400 / 3600 = H := ⟨_, rfl⟩
  obtain ⟨Ik, hIk⟩ : ∃ H, k % 3600 / 60 = H := ⟨_, rfl⟩
  obtain ⟨Sk, hSk⟩ : ∃ H, k % 60 = H := ⟨_, rfl⟩
  rw [hHk, hIk, hSk] at cK
  rw [hHk] at cS
  clear hHk hIk hSk
  generalize Fm.moT y m = T at *
  generalize Ca.dm (2000 + y) m = Dm at *
  clear eT nx mo d1 e1 e2 e3 hn msz
  go_enter Tryd.func4, Tryd.ntmps4
  go_wp2_with fail
  refine (Ex.examples_any _ hT.out).mono ?_
  rintro e x1 ⟨rfl, b1⟩
  go_wp2_with fail
  refine (c0 _).mono ?_
  rintro e x2 ⟨rfl, rfl⟩
  go_wp2_with fail
  refine (c1 _).mono ?_
  rintro e x2 ⟨rfl, rfl⟩
  clear c0 c1
  have B1 : ∀ o, Below w.heap.size w (x2.alloc o) := fun o => Kb.keepB b1 (Kb.below_one _ _)
  go_wp2_with fail
  refine (cL _ (hT.out.next (B1 _))).mono ?_
  rintro e x3 ⟨rfl, b3⟩
  have B3 := Kb.keepB (B1 _) b3
  clear cL cv b3 b1 B1 hA hB hC hE u1 u2 u3 u4 u5 u6 u7 u8 v1 v2 v3 v4
  go_wp2_with fail
  refine (cD _ (hT.out.next B3)).mono ?_
  rintro e x4 ⟨rfl, b4⟩
  have B4 := Kb.keepB B3 b4
  have B4a : ∀ o, Below w.heap.size w (x4.alloc o) := fun o => Kb.keepB B4 (Kb.below_one _ _)
  have S4 : Hx.Six (x4.alloc (Obj.cells #[.int .i64 (2000 + y), .int .i64 m, .int .i64 Dm, .int .i64 23, .int .i64 59, .int .i64 59] 34)) x4.heap.size (2000 + y) m Dm 23 59 59 := Kb.h1_0 x4 _
  clear b4 cD
  go_wp2_with fail
  refine (cN _ (hT.out.next (B4a _))).mono ?_
  rintro e x5 ⟨rfl, b5⟩
  have B5 := Kb.keepB (B4a _) b5
  have S5 := S4.next b5
  have lt5 : x4.heap.size < x5.heap.size := (Array.getElem?_eq_some_iff.1 S5).1
  have S5a : ∀ o, Hx.Six (x5.alloc o) x4.heap.size (2000 + y) m Dm 23 59 59 := fun o => S5.next (Kb.below_one _ _)
  have B5a : ∀ o, Below w.heap.size w (x5.alloc o) := fun o => Kb.keepB B5 (Kb.below_one _ _)
  have hx4 : w.heap.size ≤ x4.heap.size := B4.size
  clear b5 cN S4 B4a
  have hgo : (n < 3155759999 ∧ gn = 0 ∧ Dn = 1 ∧ Hn = 0) ∨ (n = 3155759999 ∧ gn = 80) := by
    by_cases hl : n < 3155759999
    · exact .inl ⟨hl, gn0 (by omega)⟩
    · exact .inr ⟨by omega, gn1 (by omega)⟩
  clear gn0 gn1
  rcases hgo with ⟨hl, rfl, rfl, rfl⟩ | ⟨rfl, rfl⟩
  all_goals
    go_wp2_with fail
    refine (c2 _).mono ?_
    rintro e x6 ⟨rfl, rfl⟩
    go_wp2_with fail
    refine (c3 _).mono ?_
    rintro e x6 ⟨rfl, rfl⟩
    go_wp2_with fail
    refine (cB _ (hT.out.next (B5a _))).mono ?_
    rintro e x7 ⟨rfl, b7⟩
    have B7 := Kb.keepB (B5a _) b7
    have S7 := (S5a _).next b7
    clear b7 c2 c3 cB
    go_wp2_with fail
    refine (cK _ (hT.out.next B7)).mono ?_
    rintro e x8 ⟨⟨Y8, M8, D8, hd8, rfl⟩, b8⟩
    have B8 := Kb.keepB B7 b8
    have S8 := S7.next b8
    obtain ⟨o0, o1, o2, o3, o4, o5⟩ := S8.at
    obtain ⟨z0, z1, z2, z3, z4, z5⟩ := S8.free
    have B9 := Hx.below_set6 B8 hx4 Y8 M8 D8 Hk Ik Sk
    clear b8 cK S7 hd8
    by_cases hs : 0 < h ∧ h ≤ Hk
    · rw [if_pos hs] at cS
      obtain ⟨hs1, hs2⟩ := hs
      go_wp2_with fail
      refine (cS _ (hT.out.next B9)).mono ?_
      rintro e x9 ⟨rfl, b9⟩
      have B10 := Kb.keepB B9 b9
      clear o0 o1 o2 o3 o4 o5 z0 z1 z2 z3 z4 z5 cS S8 b9 B9
      rcases hf with ⟨rfl, hsz, hcut⟩ | ⟨rfl, rfl⟩
      · go_wp2
        all_goals (go_ret; exact ⟨by simp [hcut], B10⟩)
      · go_wp2
        all_goals (go_ret; exact ⟨by simp, B10⟩)
    · rw [if_neg hs] at cS
      by_cases hz : 0 < h
      · have hz1 : decide (h ≤ Hk) = false := decide_eq_false (by omega)
        have hz2 : Hk < h := by omega
        go_wp2_with fail
        refine (cS _ (hT.out.next B9)).mono ?_
        rintro e x9 ⟨rfl, b9⟩
        have B10 := Kb.keepB B9 b9
        clear o0 o1 o2 o3 o4 o5 z0 z1 z2 z3 z4 z5 cS S8 b9 B9
        rcases hf with ⟨rfl, hsz, hcut⟩ | ⟨rfl, rfl⟩
        · go_wp2
          all_goals (go_ret; exact ⟨by simp [hcut], B10⟩)
        · go_wp2
          all_goals (go_ret; exact ⟨by simp, B10⟩)
      · go_wp2_with fail
        refine (cS _ (hT.out.next B9)).mono ?_
        rintro e x9 ⟨rfl, b9⟩
        have B10 := Kb.keepB B9 b9
        clear o0 o1 o2 o3 o4 o5 z0 z1 z2 z3 z4 z5 cS S8 b9 B9
        rcases hf with ⟨rfl, hsz, hcut⟩ | ⟨rfl, rfl⟩
        · go_wp2
          all_goals (go_ret; exact ⟨by simp [hcut], B10⟩)
        · go_wp2
          all_goals (go_ret; exact ⟨by simp, B10⟩)


set_option maxRecDepth 1000000 in
theorem contract (H : Type) (enc : TypeId × Value → H) (W : World) (base : Nat) (args : Array Value) (ds gs : List (DataW H)) (before : List MemPlace)
    (hval : ∀ (j : Nat) t v, Tryd.f4.params[j]? = some t → args[j]? = some v → Value.okWide Tryd.prog W .any base t v)
    (hW : DataW.Whole enc Tryd.prog Tryd.f4.params.toList Rows.clockMonthsSpec.vars false W args.toList ds gs before) (hL : laidMetH Tryd.prog Rows.clockMonthsRow.laid W) (hSh : W.ShapedOpen Tryd.prog) :
    Calls Tryd.prog 4 args W fun e W' => ∃ v, e = .returned v ∧ Rows.clockMonthsSpec.post enc Tryd.prog Tryd.f4 false true false false W args v W' := by
  have hW' := hW
  obtain ⟨p, q, hA0, hV, rfl, hfz, hnd⟩ := hW
  have hA : DataW.TrodAll enc Tryd.prog W 0 (fun _ => true) true Tryd.f4.params.toList args.toList ds p := hA0
  rw [Tryd.params4] at hA hval
  obtain ⟨v0, vs0, d0, ds0, p0, q0, hargs, rfl, rfl, h0, r0⟩ := trodAll_cons hA
  obtain ⟨v1, vs1, d1, ds1, p1, q1, rfl, rfl, rfl, h1, r1⟩ := trodAll_cons r0
  obtain ⟨v2, vs2, d2, ds2, p2, q2, rfl, rfl, rfl, h2, r2⟩ := trodAll_cons r1
  obtain ⟨v3, vs3, d3, ds3, p3, q3, rfl, rfl, rfl, h3, r3⟩ := trodAll_cons r2
  obtain ⟨rfl, rfl, rfl⟩ := trodAll_nil r3
  obtain rfl : args = #[v0, v1, v2, v3] := by cases args; simp_all
  obtain ⟨rfl, rfl⟩ := trodVars_none hV
  obtain ⟨a0, rfl, rfl, rfl, w0⟩ := open_int Tryd.underlying3 (hval 0 3 v0 rfl rfl) h0
  obtain ⟨a1, rfl, rfl, rfl, w1⟩ := open_int Tryd.underlying3 (hval 1 3 v1 rfl rfl) h1
  obtain ⟨a2, rfl, rfl, rfl, w2⟩ := open_int Tryd.underlying3 (hval 2 3 v2 rfl rfl) h2
  obtain ⟨a3, rfl, rfl, rfl, w3⟩ := open_int Tryd.underlying3 (hval 3 3 v3 rfl rfl) h3
  clear hA0
  refine (walk a0 a1 a2 a3 w0 w1 w2 w3 W hL hSh).mono fun e W' ⟨he, bel⟩ => ?_
  subst he
  exact ⟨_, rfl, _, _, _, [], _, [], hW', trodAll_mk1 (shut_bool Tryd.underlying4 _), (trodAll_cons_mk (shut_int Tryd.underlying3 w0) (trodAll_cons_mk (shut_int Tryd.underlying3 w1) (trodAll_cons_mk (shut_int Tryd.underlying3 w2) (trodAll_cons_mk (shut_int Tryd.underlying3 w3) trodAll_mk0)))), rfl, bel.frame _, fun h => by cases h⟩

noncomputable def low : Nat := (World.holding Tryd.prog default ⟨#[], #[], []⟩).heap.size
set_option maxRecDepth 1000000 in
theorem laid_met (os : Os) : laidMet Tryd.prog Rows.clockMonthsRow.laid (({ World.holding Tryd.prog os ⟨#[], #[], []⟩ with heap := ((World.holding Tryd.prog os ⟨#[], #[], []⟩).heap.modify 0 fun | .cells _ t frozen => .cells #[.int .i64 0, .int .i64 31, .int .i64 59, .int .i64 90, .int .i64 120, .int .i64 151, .int .i64 181, .int .i64 212, .int .i64 243, .int .i64 273, .int .i64 304, .int .i64 334, .int .i64 365] t frozen | o => o) } : World).forCall (fun _ _ => 0) ⟨#[], #[.int .i64 0, .int .i64 0, .int .i64 0, .int .i64 0], []⟩).memory :=
  laidMet_of_run' 8 (by kernel_rfl) (by kernel_rfl)
set_option maxRecDepth 1000000 in
theorem reads (os : Os) {H : Type} (enc : TypeId × Value → H) : ∃ places, DataW.whole enc Tryd.prog (({ World.holding Tryd.prog os ⟨#[], #[], []⟩ with heap := ((World.holding Tryd.prog os ⟨#[], #[], []⟩).heap.modify 0 fun | .cells _ t frozen => .cells #[.int .i64 0, .int .i64 31, .int .i64 59, .int .i64 90, .int .i64 120, .int .i64 151, .int .i64 181, .int .i64 212, .int .i64 243, .int .i64 273, .int .i64 304, .int .i64 334, .int .i64 365] t frozen | o => o) } : World).forCall (fun _ _ => 0) ⟨#[], #[.int .i64 0, .int .i64 0, .int .i64 0, .int .i64 0], []⟩).memory Tryd.f4.params.toList Rows.clockMonthsSpec.vars false (#[.int .i64 0, .int .i64 0, .int .i64 0, .int .i64 0] : Array Value).toList 8 = some ([.lit (.int .i64 0), .lit (.int .i64 0), .lit (.int .i64 0), .lit (.int .i64 0)], [], places) :=
  ⟨[], by kernel_rfl⟩
set_option maxRecDepth 1000000 in
theorem lifted (os : Os) (started : os.Started) (H : Type) (enc : TypeId × Value → H) (F : Stop.Interp) :
    ReturnsInHanded {} Tryd.checked os 4 .any ((OpenSpec.ofChange Rows.clockMonthsSpec).preRow enc Tryd.prog Tryd.f4 Rows.clockMonthsRow.domain false Rows.clockMonthsRow.laid) (((OpenSpec.ofChange Rows.clockMonthsSpec).at F).post enc Tryd.prog Tryd.f4 false true false false) := by
  obtain ⟨places, hx⟩ := reads os enc
  refine returnsInHanded_of_row (C := Tryd.checked) (s := OpenSpec.ofChange Rows.clockMonthsSpec) own started (by kernel_rfl) Tryd.func4
    (witness_row_atRef (enc := enc) (C := Tryd.checked) false ({ World.holding Tryd.prog os ⟨#[], #[], []⟩ with heap := ((World.holding Tryd.prog os ⟨#[], #[], []⟩).heap.modify 0 fun | .cells _ t frozen => .cells #[.int .i64 0, .int .i64 31, .int .i64 59, .int .i64 90, .int .i64 120, .int .i64 151, .int .i64 181, .int .i64 212, .int .i64 243, .int .i64 273, .int .i64 304, .int .i64 334, .int .i64 365] t frozen | o => o) } : World) #[.int .i64 0, .int .i64 0, .int .i64 0, .int .i64 0] rfl (by kernel_rfl) (by kernel_rfl) (by kernel_rfl)
      (OpenSpec.preRow_of_cond 8 hx (by kernel_rfl) (fun k hk => by cases hk) (by kernel_rfl) (laid_met os))) ?_
  intro W base args ds gs before hval hW _ hcond hsz hL hSh _
  exact contract H enc W base args ds gs before hval hW hL hSh

theorem said : Rows.ClockMonthsSaid :=
  OpenClaim.holds_of_cond 4 Tryd.f4 rfl rfl rfl rfl rfl rfl rfl ⟨rfl, rfl, rfl, rfl, rfl⟩ rfl rfl rfl rfl rfl (by kernel_rfl) Tryd.func4 (by kernel_rfl)
    (of_decide_eq_true (by kernel_rfl)) (by unfold Func.isWrapper; first | (rw [if_pos (by decide +kernel)]; kernel_rfl) | (rw [if_neg (by decide +kernel)]; exact ⟨rfl, rfl⟩))
    (fun os started H enc _ F => by rw [OpenClaim.pre_eq_preRow]; exact lifted os started H enc F)
theorem plain (f : FuncId) (fn : Func) (hf : Tryd.pinned.checked.prog.funcNamed "turnstile/turnstilelaw8.ClockMonths" = some f) (hfn : Tryd.pinned.checked.prog.funcs[f]? = some fn) :
    false = Tryd.pinned.checked.prog.looks [] ∧ ∀ (j : Nat) t, fn.params[j]? = some t → Tryd.pinned.checked.prog.wantsStandIn t = false := by
  obtain rfl : f = 4 := Option.some.inj ((show Tryd.prog.funcNamed "turnstile/turnstilelaw8.ClockMonths" = some 4 by kernel_rfl).symm.trans hf) |>.symm
  obtain rfl : fn = Tryd.f4 := (Option.some.inj (Tryd.func4.symm.trans hfn)).symm
  refine ⟨by kernel_rfl, fun j t ht => ?_⟩
  rw [Tryd.params4] at ht
  have hm : t = 3 := by
    rcases j with _ | _ | _ | _ | j
    all_goals first | (simp at ht; omega) | (simp at ht; exact Or.inl ht.symm) | (simp at ht; exact Or.inr ht.symm) | (simp at ht; exact ht.symm) | (simp at ht; done)
  rcases hm with rfl
  exact (show Tryd.prog.wantsStandIn 3 = false by kernel_rfl)

theorem proved : Rows.ClockMonthsCardSaid :=
  Claim7.holds_tied_plain_at .later [] _ _ _ _ said (fun _ h => by cases h) (by kernel_rfl) (fun _ h => by cases h) clockMonths_row_tie rfl ⟨rfl, rfl⟩ (by kernel_rfl) rfl plain (by kernel_rfl)
#print axioms proved
end Go.Proofs.YtpocbaaogkabeabDoor.clockMonths
