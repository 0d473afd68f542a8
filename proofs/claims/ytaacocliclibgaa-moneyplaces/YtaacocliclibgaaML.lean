/- MoneyPlaces: the law out of the contracts; the frame of the row. -/
import Derived.Test.YtaacocliclibgaaRows
import Derived.WalkKit
import Derived.ProofKit
import Derived.OpenShut
import Derived.ShutString
import Derived.ChangeOld
import Derived.Below
import Derived.JoinedCond
import Derived.Carry
import Derived.SizedLaws
import Derived.Test.YtaacocliclibgaaPr
import Derived.Test.YtaacocliclibgaaCu
import Derived.Test.YtaacocliclibgaaPick
import Derived.Test.YtaacocliclibgaaShelf
namespace Go.Proofs.Ytaacocliclibgaa.moneyPlaces
open Go.ChangeShapes Go.WideShapes Go.ChangeAt Go.RowKit
open Go.ChangeMaps (open_string shut_string)
set_option linter.unusedVariables false

theorem own : ownKnob Try.prog.godebug = none := by kernel_rfl

attribute [local go_sem] Oper.semAt_some
theorem nil_no (y : World) : (binOp .eql 28 (.func (.func 17) #[] #[]) .nilFunc).run Try.prog y = .ok (.bool false) y := by
  kernel_rfl
theorem sortS : Ri.SortS := fun blk off cap ss w h1 h2 h3 => Try.slices_Sort_string blk off cap ss w h1 h2 h3
theorem off_mk {p : List (List UInt8)} {x : List UInt8} (hn : x ≠ Pp.names.getD p.length []) : ¬ (p ++ [x]) <+: Pp.names := by
  rintro ⟨r, hr⟩
  refine hn ?_
  rw [← hr, List.getD_eq_getElem?_getD]
  simp
set_option maxRecDepth 100000 in
set_option maxHeartbeats 3200000 in
theorem walk (a0 : ByteArray) (a1 : Int) (w : World) (w0 : a0.size ≤ maxLen) (w1 : (Lit.int .i64 a1).wf = true) :
    Calls Try.prog 3 #[.string a0, .int .i64 a1] w fun e w' => e = .returned (.bool true) ∧ Below w.heap.size w w' := by
  have HW1 : -9223372036854775808 ≤ a1 ∧ a1 ≤ 9223372036854775807 := by
    have := w1
    simp [Lit.wf] at this
    have e1 : IntKind.i64.min = -9223372036854775808 := by decide
    have e2 : IntKind.i64.max = 9223372036854775807 := by decide
    omega
  obtain ⟨hlo, hhi⟩ := HW1
  clear w1
  have HW0 : Hid (a0.size ≤ maxLen) := w0
  clear w0
  refine (callsIn_wide (n := 8)).1 ?_
  refine callsIn_of_wp_marks Try.func3 rfl trivial ?_ rfl
  simp only [Try.ntmps3, List.size_toArray, List.length_cons, List.length_nil, Nat.reduceAdd, Nat.reduceSub, Array.replicate_succ, Array.replicate_zero, List.push_toArray, List.append_toArray, List.nil_append, List.cons_append]
  refine wpIn_wide.2 ?_
  have M4 := Kb.h1_0 w (.cells #[.bool false] 4)
  have B4 := Kb.below_one w (.cells #[.bool false] 4)
  go_wp2_with fail
  generalize w.alloc (.cells #[.bool false] 4) = W at *
  refine (Pc.places_any ⟨#[56, 52, 48]⟩ (by decide) _).mono ?_
  rintro e y0 ⟨rfl, h0⟩
  rw [show Pp.plV (ByteArray.mk #[56, 52, 48]).data.toList = 2 by decide, show Pp.plE (ByteArray.mk #[56, 52, 48]).data.toList = 0 by decide]
  replace M4 := Kb.kept h0 M4
  replace B4 := Kb.keepB B4 h0
  clear h0
  go_wp2_with fail
  refine (Pc.places_any a0 HW0.out _).mono ?_
  rintro e y1 ⟨rfl, h0⟩
  replace M4 := Kb.kept h0 M4
  replace B4 := Kb.keepB B4 h0
  clear h0
  go_wp2_with fail
  refine (Pr.placesr_any a0 _).mono ?_
  rintro e y2 ⟨rfl, h0⟩
  replace M4 := Kb.kept h0 M4
  replace B4 := Kb.keepB B4 h0
  clear h0
  generalize Pp.plV a0.data.toList = PV at *
  generalize Pp.plE a0.data.toList = PE at *
  go_wp2_with fail
  refine (Pr.currencies_any y2).mono ?_
  rintro e y3 ⟨rfl, h3⟩
  have h0 : Below y2.heap.size y2 y3 := by rw [h3]; exact Kb.below_one y2 _
  have MR : y3.heap[y2.heap.size]? = some (.cells Nm.nmC 9) := by rw [h3]; exact Kb.h1_0 y2 _
  replace M4 := Kb.kept h0 M4
  replace B4 := Kb.keepB B4 h0
  clear h0 h3
  generalize y2.heap.size = gW at *
  have M11 := Kb.h1_0 y3 (.cells #[.slice (some ⟨gW, 0, none⟩) 27 27] 25)
  have B11 := Kb.below_one y3 (.cells #[.slice (some ⟨gW, 0, none⟩) 27 27] 25)
  go_wp2_with fail
  replace M4 := Kb.kept B11 M4
  replace MR := Kb.kept B11 MR
  replace B4 := Kb.keepB B4 B11
  clear B11
  generalize y3.alloc (.cells #[.slice (some ⟨gW, 0, none⟩) 27 27] 25) = y4 at *
  generalize y3.heap.size = qW at *
  refine (Cu.currencies_fn y4).mono ?_
  rintro e y5 ⟨rfl, h5⟩
  rw [h5]
  clear h5 y5
  have M12 := Kb.h1_0 y4 (.cells #[.func (.func 17) #[] #[]] 28)
  have B12 := Kb.below_one y4 (.cells #[.func (.func 17) #[] #[]] 28)
  have nn := nil_no
  replace M11 := Kb.kept B12 M11
  obtain ⟨c11, f11⟩ := Ra.one1 M11
  obtain ⟨c12, f12⟩ := Ra.one1 M12
  go_wp2_with fail
  replace M4 := Kb.kept B12 M4
  replace MR := Kb.kept B12 MR
  replace B4 := Kb.keepB B4 B12
  clear B12 nn c11 f11 c12 f12
  generalize y4.alloc (.cells #[.func (.func 17) #[] #[]] 28) = y6 at *
  generalize y4.heap.size = qA at *
  refine (Pick.pick_any a1 28 y6 hlo hhi (by decide) (by decide)).mono ?_
  rintro e y7 ⟨rfl, h7⟩
  rw [h7]
  clear h7 y7
  obtain ⟨St, HSt, hSt⟩ : ∃ St : Nat, Hid (Pick.pickOf a1 28 = (St : Int)) ∧ St ≤ 27 := by
    have h1 := Pick.pick_lo a1 28 (by decide)
    have h2 := Pick.pick_hi a1 28 (by decide)
    exact ⟨(Pick.pickOf a1 28).toNat, by show _ = _; omega, by omega⟩
  rw [HSt.out]
  have M13 := Kb.h1_0 y6 (.cells #[.int .i64 (St : Int)] 3)
  have B13 := Kb.below_one y6 (.cells #[.int .i64 (St : Int)] 3)
  have M14 := Kb.h1_0 (y6.alloc (.cells #[.int .i64 (St : Int)] 3)) (.cells #[.int .i64 0] 3)
  have B14 := Kb.below_one (y6.alloc (.cells #[.int .i64 (St : Int)] 3)) (.cells #[.int .i64 0] 3)
  have s14 : (y6.alloc (.cells #[.int .i64 (St : Int)] 3)).heap.size = y6.heap.size + 1 := by simp
  have s15 : ((y6.alloc (.cells #[.int .i64 (St : Int)] 3)).alloc (.cells #[.int .i64 0] 3)).heap.size = y6.heap.size + 2 := by simp
  rw [s14] at M14
  obtain ⟨c12, f12⟩ := Ra.one1 (Kb.kept B14 (Kb.kept B13 M12))
  go_wp2_with fail
  clear c12 f12
  have HM4 : Hid ((y6.alloc (.cells #[.int .i64 (St : Int)] 3)).heap[w.heap.size]? = some (.cells #[.bool false] 4)) := Kb.kept B13 M4
  have HMR : Hid ((y6.alloc (.cells #[.int .i64 (St : Int)] 3)).heap[gW]? = some (.cells Nm.nmC 9)) := Kb.kept B13 MR
  have HM11 : Hid ((y6.alloc (.cells #[.int .i64 (St : Int)] 3)).heap[qW]? = some (.cells #[.slice (some ⟨gW, 0, none⟩) 27 27] 25)) := Kb.kept B13 M11
  have HM12 : Hid ((y6.alloc (.cells #[.int .i64 (St : Int)] 3)).heap[qA]? = some (.cells #[.func (.func 17) #[] #[]] 28)) := Kb.kept B13 M12
  have HM13 : Hid ((y6.alloc (.cells #[.int .i64 (St : Int)] 3)).heap[y6.heap.size]? = some (.cells #[.int .i64 (St : Int)] 3)) := M13
  have HB4 : Hid (Below w.heap.size w (y6.alloc (.cells #[.int .i64 (St : Int)] 3))) := Kb.keepB B4 B13
  clear M4 MR M11 M12 M13 B4 B13
  rw [← s14] at M14 ⊢
  generalize y6.alloc (.cells #[.int .i64 (St : Int)] 3) = Z0 at *
  generalize y6.heap.size = qS at *
  clear s14 s15
  have s15 : (Z0.alloc (.cells #[.int .i64 0] 3)).heap.size = Z0.heap.size + 1 := by simp
  have hw0 : w.heap.size < Z0.heap.size := (Array.getElem?_eq_some_iff.1 HM4.out).1
  generalize Z0.alloc (.cells #[.int .i64 0] 3) = Y0 at *
  obtain ⟨qk, Hqk⟩ : ∃ qk, Hid (Z0.heap.size = qk) := ⟨_, rfl⟩
  rw [Hqk.out] at M14 B14 s15 hw0 ⊢
  have hqY : qk < Y0.heap.size := by omega
  have KZ : Hid (∀ (X : World) (k : Nat) (o : Obj), Below qk Z0 X → Z0.heap[k]? = some o → X.heap[k]? = some o) := fun X k o h ho => (h.block k (by have := (Array.getElem?_eq_some_iff.1 ho).1; have := Hqk.out; omega)).trans ho
  clear s15
  refine (wpIn_wide (n := 8)).1 ?_
  refine Ra.range1E rfl (by omega) (gf := 17) (lb := #[]) rfl trivial (enters_of Try.func17 (by kernel_rfl) rfl)
    (Cu.goes sortS _ Y0) Cu.ks_r Cu.ks_t (fun W l o o' _ h hc _ => Cu.ks_b W l o o' h hc) (Below.refl _ _) 15
    (fun X => X.heap[qk]? = some (.cells #[.int .i64 (St : Int)] 3) ∧ Below qk Z0 X)
    (fun pre X => X.heap[qk]? = some (.cells #[.int .i64 (pre.length : Int)] 3) ∧ Below qk Z0 X ∧ pre.length ≤ St)
    (fun c pre X => ¬ pre <+: Pp.names ∨ (c = .exit 0 ∧ X.heap[qk]? = some (.cells #[.int .i64 (St : Int)] 3) ∧ Below qk Z0 X))
    (fun s X Y row hs hg hrow => ⟨Ra.cells_on hs.1 hg (fun r e => (hrow r e).2), hs.2.1.grown hg (by have := (Array.getElem?_eq_some_iff.1 hs.1).1; omega) (fun k e => by have := (hrow k e).1; omega), hs.2.2⟩)
    (fun c s X Y row hs hg hrow => by
      rcases hs with hs | ⟨hc, h1, h2⟩
      · exact .inl hs
      · exact .inr ⟨hc, Ra.cells_on h1 hg (fun r e => (hrow r e).2), h2.grown hg (by have := (Array.getElem?_eq_some_iff.1 h1).1; omega) (fun k e => by have := (hrow k e).1; omega)⟩)
    ⟨by simpa using M14, B14, Nat.zero_le _⟩
    (fun xs X hS hi => by
      have hl : xs.length = 27 := by rw [hS]; rfl
      obtain ⟨h1, h2, h3⟩ := hi
      rw [hl] at h1 h3
      have e : St = 27 := by omega
      rw [e]
      exact ⟨h1, h2⟩)
    (fun c pre X hS hi => by
      rcases hi with hi | hi
      · exact (hi hS).elim
      · exact hi) ?assign ?body ?_
  case assign =>
    intro l x X K hK
    simp only [Cu.ev, List.setIfInBounds_toArray, List.set_cons_succ, List.set_cons_zero] at hK ⊢
    gi_wp2
    exact hK
  case body =>
    rintro l pre x X hl - ⟨i1, i2, i3⟩ hpl
    obtain ⟨P, HP⟩ : ∃ P : Nat, Hid (pre.length = P) := ⟨_, rfl⟩
    have hP : P < 27 := by have := HP.out; omega
    have HLn : Hid ((pre ++ [x]).length = P + 1) := by
      show _ = _
      rw [List.length_append, HP.out]; simp
    have HOFF : Hid (x ≠ Pp.names.getD P [] → ¬ (pre ++ [x]) <+: Pp.names) := fun h => off_mk (by rw [HP.out]; exact h)
    rw [HP.out] at i1 i3
    obtain ⟨cS, fS⟩ := Ra.one1 (KZ.out X _ _ i2 HM13.out)
    obtain ⟨cW, fW⟩ := Ra.one1 (KZ.out X _ _ i2 HM11.out)
    obtain ⟨c4, f4⟩ := Ra.one1 (KZ.out X _ _ i2 HM4.out)
    obtain ⟨ck, fk⟩ := Ra.one1 i1
    have cR : X.cell? ⟨gW, P, none⟩ = some (.string (Nm.nm P)) := Nm.cell_row (KZ.out X _ _ i2 HMR.out) (Nm.nmC_get P hP)
    have hP' : (P : Int) < 27 := by omega
    simp only [Cu.ev, List.setIfInBounds_toArray, List.set_cons_succ, List.set_cons_zero]
    generalize pre ++ [x] = pre2 at *
    clear hpl HP
    by_cases hst : P = St
    case pos =>
      subst hst
      clear HOFF HLn
      gi_wp2
      exact ⟨KeepsFrom.refl _ _, .inr ⟨rfl, i1, i2⟩⟩
    have hst2 : (P == St) = false := by simpa using hst
    have hst3 : ((P : Int) == (St : Int)) = false := by simp only [beq_eq_false_iff_ne, ne_eq]; omega
    by_cases e1 : x = Pp.names.getD P []
    case neg =>
      have HO : Hid (¬ pre2 <+: Pp.names) := HOFF.out e1
      have e2 : ((⟨x.toArray⟩ : ByteArray).toList == (Nm.nm P).toList) = false := by
        rw [ByteArray.toList_eq, ByteArray.toList_eq, beq_eq_false_iff_ne]
        exact e1
      clear HOFF e1
      generalize (⟨x.toArray⟩ : ByteArray) = xB at *
      generalize Nm.nm P = nB at *
      gi_wp2
      exact ⟨⟨Nat.le_of_eq (by simp), fun k o _ hk ho => (KeepsOthers.setCell X ⟨w.heap.size, 0, none⟩ (.bool false)).same k o hk ho⟩, .inl HO.out⟩
    have e2 : (⟨x.toArray⟩ : ByteArray) = Nm.nm P := by rw [e1]; rfl
    rw [e2]
    clear e2 e1 HOFF
    generalize Nm.nm P = nB at *
    gi_wp2
    exact ⟨⟨Nat.le_of_eq (by simp), fun k o _ hk ho => (KeepsOthers.setCell X ⟨qk, 0, none⟩ (.int .i64 ((P : Int) + 1))).same k o hk ho⟩, Cu.ks_set i1 (by decide) 0 _, by rw [HLn.out]; exact Ra.setCell_heap i1 0 _, i2.setCell (p := ⟨qk, 0, none⟩) (Nat.le_refl _) _, by rw [HLn.out]; omega⟩
  rintro D0 X1 hD0 ⟨k1, b1⟩ hK0
  obtain ⟨cS, fS⟩ := Ra.one1 (KZ.out X1 _ _ b1 HM13.out)
  obtain ⟨ck, fk⟩ := Ra.one1 k1
  have hAk : qA < qk := by have h1 := (Array.getElem?_eq_some_iff.1 HM12.out).1; have h2 := Hqk.out; omega
  have nA : qk ≠ qA := by omega
  have m12 := (Ra.setCell_ne (w := X1) nA 0 (.int .i64 0)).trans (KZ.out X1 _ _ b1 HM12.out)
  obtain ⟨c12, f12⟩ := Ra.one1 m12
  have nA' : ¬ qk = qA := nA
  have nA2 : ¬ qA = qk := by omega
  go_wp2_with fail
  have k2 := Ra.setCell_heap k1 0 (.int .i64 0)
  have b2 := b1.setCell (p := ⟨qk, 0, none⟩) (Nat.le_refl _) (.int .i64 0)
  have HK0 : Hid ((X1.setCell ⟨qk, 0, none⟩ (.int .i64 0)).heap[D0]? = some (.deferred (some []))) := (KeepsOthers.setCell X1 ⟨qk, 0, none⟩ (.int .i64 0)).same D0 _ hK0 rfl
  have hqD : qk < D0 := by omega
  clear k1 b1 hK0 cS fS ck fk m12 c12 f12 nA' nA2 nA
  generalize X1.setCell ⟨qk, 0, none⟩ (.int .i64 0) = X2 at *
  have hDX : D0 < X2.heap.size := (Array.getElem?_eq_some_iff.1 HK0.out).1
  refine (wpIn_wide (n := 8)).1 ?_
  refine Ra.range1H rfl (by omega) (gf := 17) (lb := #[]) rfl trivial (enters_of Try.func17 (by kernel_rfl) rfl)
    (Cu.goes sortS _ X2) Cu.ks_r Cu.ks_t (fun W l o o' _ h hc _ => Cu.ks_b W l o o' h hc) (Below.refl _ _) 16
    (fun pre X => X.heap[qk]? = some (.cells #[.int .i64 (pre.length : Int)] 3) ∧ Below qk Z0 X ∧ X.heap[D0]? = some (.deferred (some [])))
    (fun c pre X => ¬ pre <+: Pp.names)
    (fun s X Y row hs hg hrow => ⟨Ra.cells_on hs.1 hg (fun r e => (hrow r e).2), hs.2.1.grown hg (by have := (Array.getElem?_eq_some_iff.1 hs.1).1; omega) (fun k e => by have := (hrow k e).1; omega), (hg.block D0 (Array.getElem?_eq_some_iff.1 hs.2.2).1 (fun e => by have := (hrow D0 e.symm).1; omega)).trans hs.2.2⟩)
    (fun c s X Y row hs hg hrow => hs)
    ⟨by simpa using k2, b2, HK0.out⟩ ?assign ?body ?_ ?stop
  case stop =>
    rintro D c pre X hD hS hF hK
    exact (hF hS).elim
  case assign =>
    intro l x X K hK
    simp only [Cu.ev, List.setIfInBounds_toArray, List.set_cons_succ, List.set_cons_zero] at hK ⊢
    gi_wp2
    exact hK
  case body =>
    rintro l pre x X hl ⟨lr, hlr⟩ ⟨i1, i2, i3⟩ hpl
    obtain ⟨P, HP⟩ : ∃ P : Nat, Hid (pre.length = P) := ⟨_, rfl⟩
    have hP : P < 27 := by have := HP.out; omega
    have HLn : Hid ((pre ++ [x]).length = P + 1) := by
      show _ = _
      rw [List.length_append, HP.out]; simp
    have HOFF : Hid (x ≠ Pp.names.getD P [] → ¬ (pre ++ [x]) <+: Pp.names) := fun h => off_mk (by rw [HP.out]; exact h)
    rw [HP.out] at i1
    obtain ⟨cS, fS⟩ := Ra.one1 (KZ.out X _ _ i2 HM13.out)
    obtain ⟨cW, fW⟩ := Ra.one1 (KZ.out X _ _ i2 HM11.out)
    obtain ⟨c4, f4⟩ := Ra.one1 (KZ.out X _ _ i2 HM4.out)
    obtain ⟨ck, fk⟩ := Ra.one1 i1
    have cR : X.cell? ⟨gW, P, none⟩ = some (.string (Nm.nm P)) := Nm.cell_row (KZ.out X _ _ i2 HMR.out) (Nm.nmC_get P hP)
    have hP' : (P : Int) < 27 := by omega
    simp only [Cu.ev, List.setIfInBounds_toArray, List.set_cons_succ, List.set_cons_zero]
    generalize pre ++ [x] = pre2 at *
    clear hpl HP
    by_cases e1 : x = Pp.names.getD P []
    case neg =>
      have HO : Hid (¬ pre2 <+: Pp.names) := HOFF.out e1
      have e2 : ((⟨x.toArray⟩ : ByteArray).toList == (Nm.nm P).toList) = false := by
        rw [ByteArray.toList_eq, ByteArray.toList_eq, beq_eq_false_iff_ne]
        exact e1
      clear HOFF e1
      generalize (⟨x.toArray⟩ : ByteArray) = xB at *
      generalize Nm.nm P = nB at *
      gi_wp2
      exact ⟨⟨Nat.le_of_eq (by simp), fun k o _ hk ho => (KeepsOthers.setCell X ⟨w.heap.size, 0, none⟩ (.bool false)).same k o hk ho⟩, HO.out⟩
    have e2 : (⟨x.toArray⟩ : ByteArray) = Nm.nm P := by rw [e1]; rfl
    rw [e2]
    clear e2 e1 HOFF
    generalize Nm.nm P = nB at *
    have HD0 : Hid (X.heap[D0]? = some (.deferred (some []))) := i3
    clear i3
    by_cases hst : P = St
    case neg =>
      have hst2 : (P == St) = false := by simpa using hst
      have hst3 : ((P : Int) == (St : Int)) = false := by simp only [beq_eq_false_iff_ne, ne_eq]; omega
      gi_wp2
      exact ⟨⟨Nat.le_of_eq (by simp), fun k o _ hk ho => (KeepsOthers.setCell X ⟨qk, 0, none⟩ (.int .i64 ((P : Int) + 1))).same k o hk ho⟩, Cu.ks_set i1 (by decide) 0 _, by rw [HLn.out]; exact Ra.setCell_heap i1 0 _, i2.setCell (p := ⟨qk, 0, none⟩) (Nat.le_refl _) _, (KeepsOthers.setCell X ⟨qk, 0, none⟩ (.int .i64 ((P : Int) + 1))).same D0 _ HD0.out rfl⟩
    have HST : Hid (P = St) := hst
    have hstS : (St : Int) = (P : Int) := by omega
    rw [hstS] at cS
    clear hst hstS
    have B17 := Kb.below_one X (.cells #[.int .i64 0] 3)
    have M17 := Kb.h1_0 X (.cells #[.int .i64 0] 3)
    have s17 : (X.alloc (.cells #[.int .i64 0] 3)).heap.size = X.heap.size + 1 := by simp
    obtain ⟨c12, f12⟩ := Ra.one1 (Kb.kept B17 (KZ.out X _ _ i2 HM12.out))
    gi_wp2_with fail
    have hlI := Kb.kept B17 hlr
    have hkX : qk < X.heap.size := (Array.getElem?_eq_some_iff.1 i1).1
    clear c12 f12 cS fS cW fW c4 f4 ck fk cR
    generalize X.alloc (.cells #[.int .i64 0] 3) = XI at *
    obtain ⟨q17, H17⟩ : ∃ q, Hid (X.heap.size = q) := ⟨_, rfl⟩
    rw [H17.out] at B17 M17 s17 hkX ⊢
    have hqI : q17 < XI.heap.size := by omega
    refine Ra.range1N rfl hlI (by omega) (gf := 17) (lb := #[]) rfl trivial (enters_of Try.func17 (by kernel_rfl) rfl)
      ((Cu.goes sortS _ XI).inRound l) Cu.ks_r Cu.ks_t (fun W l o o' _ h hc _ => Cu.ks_b W l o o' h hc) (Below.refl _ _) 18
      (fun pre Y => Y.heap[q17]? = some (.cells #[.int .i64 (pre.length : Int)] 3) ∧ Below q17 X Y)
      (fun c pre X => ¬ pre <+: Pp.names)
      (fun s X Y row hs hg hrow => ⟨Ra.cells_on hs.1 hg (fun r e => (hrow r e).2), hs.2.grown hg (by have := (Array.getElem?_eq_some_iff.1 hs.1).1; omega) (fun k e => by have := (hrow k e).1; omega)⟩)
      (fun c s X Y row hs hg hrow => hs)
      ⟨by simpa using M17, B17⟩ ?iassign ?ibody ?idone ?istop
    case istop =>
      rintro c pre X hS hF
      exact (hF hS).elim
    case iassign =>
      intro l x X K hK
      simp only [Cu.ev, List.setIfInBounds_toArray, List.set_cons_succ, List.set_cons_zero] at hK ⊢
      gi_wp2
      exact hK
    case ibody =>
      rintro l2 pre x X5 hl2 - ⟨j1, j2⟩ hpl
      obtain ⟨P2, HP⟩ : ∃ P : Nat, Hid (pre.length = P) := ⟨_, rfl⟩
      have hP2 : P2 < 27 := by have := HP.out; omega
      have HLn2 : Hid ((pre ++ [x]).length = P2 + 1) := by
        show _ = _
        rw [List.length_append, HP.out]; simp
      have HOFF : Hid (x ≠ Pp.names.getD P2 [] → ¬ (pre ++ [x]) <+: Pp.names) := fun h => off_mk (by rw [HP.out]; exact h)
      rw [HP.out] at j1
      have bz5 : Below qk Z0 X5 := i2.trans (j2.mono (Nat.le_of_lt hkX))
      obtain ⟨cW, fW⟩ := Ra.one1 (KZ.out X5 _ _ bz5 HM11.out)
      obtain ⟨c4, f4⟩ := Ra.one1 (KZ.out X5 _ _ bz5 HM4.out)
      obtain ⟨ck, fk⟩ := Ra.one1 j1
      have cR : X5.cell? ⟨gW, P2, none⟩ = some (.string (Nm.nm P2)) := Nm.cell_row (KZ.out X5 _ _ bz5 HMR.out) (Nm.nmC_get P2 hP2)
      have hP2' : (P2 : Int) < 27 := by omega
      simp only [Cu.ev, List.setIfInBounds_toArray, List.set_cons_succ, List.set_cons_zero]
      generalize pre ++ [x] = pre3 at *
      clear hpl HP
      by_cases e1 : x = Pp.names.getD P2 []
      case neg =>
        have HO : Hid (¬ pre3 <+: Pp.names) := HOFF.out e1
        have e2 : ((⟨x.toArray⟩ : ByteArray).toList == (Nm.nm P2).toList) = false := by
          rw [ByteArray.toList_eq, ByteArray.toList_eq, beq_eq_false_iff_ne]
          exact e1
        clear HOFF e1
        generalize (⟨x.toArray⟩ : ByteArray) = xB at *
        generalize Nm.nm P2 = nB2 at *
        gi_wp2
        exact ⟨⟨Nat.le_of_eq (by simp), fun k o _ hk ho => (KeepsOthers.setCell X5 ⟨w.heap.size, 0, none⟩ (.bool false)).same k o hk ho⟩, HO.out⟩
      have e2 : (⟨x.toArray⟩ : ByteArray) = Nm.nm P2 := by rw [e1]; rfl
      rw [e2]
      clear e2 e1 HOFF
      generalize Nm.nm P2 = nB2 at *
      gi_wp2
      exact ⟨⟨Nat.le_of_eq (by simp), fun k o _ hk ho => (KeepsOthers.setCell X5 ⟨q17, 0, none⟩ (.int .i64 ((P2 : Int) + 1))).same k o hk ho⟩, Cu.ks_set j1 (by decide) 0 _, by rw [HLn2.out]; exact Ra.setCell_heap j1 0 _, j2.setCell (p := ⟨q17, 0, none⟩) (Nat.le_refl _) _⟩
    case idone =>
      rintro xs X4 hS ⟨j1, j2⟩
      have hl27 : xs.length = 27 := by rw [hS]; rfl
      rw [hl27] at j1
      have bz4 : Below qk Z0 X4 := i2.trans (j2.mono (Nat.le_of_lt hkX))
      obtain ⟨cW, fW⟩ := Ra.one1 (KZ.out X4 _ _ bz4 HM11.out)
      obtain ⟨c17, f17⟩ := Ra.one1 j1
      have k4 : X4.heap[qk]? = some (.cells #[.int .i64 (P : Int)] 3) := (j2.block qk hkX).trans i1
      obtain ⟨ck, fk⟩ := Ra.one1 k4
      have d4 : X4.heap[D0]? = some (.deferred (some [])) := (j2.block D0 (by have := (Array.getElem?_eq_some_iff.1 HD0.out).1; have := H17.out; omega)).trans HD0.out
      have bX4 : Below X.heap.size X X4 := by rw [H17.out]; exact j2
      gi_wp2
      refine ⟨⟨?_, fun k o hB hk ho => ?_⟩, Cu.ks_t (Cu.ks_below bX4) (Cu.ks_set k4 (by decide) 0 _), by rw [HLn.out]; exact Ra.setCell_heap k4 0 _, bz4.setCell (p := ⟨qk, 0, none⟩) (Nat.le_refl _) _, (KeepsOthers.setCell X4 ⟨qk, 0, none⟩ (.int .i64 ((P : Int) + 1))).same D0 _ d4 rfl⟩
      · have := bX4.size; simpa using this
      · exact (KeepsOthers.setCell X4 ⟨qk, 0, none⟩ (.int .i64 ((P : Int) + 1))).same k o ((bX4.block k (Array.getElem?_eq_some_iff.1 hk).1).trans hk) ho
  rintro D1 xs X3 hD1 hS ⟨k3, b3, hK0⟩ hK1
  have hl27 : xs.length = 27 := by rw [hS]; rfl
  rw [hl27] at k3
  have m4 := KZ.out X3 _ _ b3 HM4.out
  obtain ⟨cW, fW⟩ := Ra.one1 (KZ.out X3 _ _ b3 HM11.out)
  obtain ⟨c4, f4⟩ := Ra.one1 m4
  obtain ⟨ck, fk⟩ := Ra.one1 k3
  have hd10 : D0 < D1 := by omega
  clear hS hl27 xs
  go_wp2_with fail
  have u0 := (KeepsOthers.setCell X3 ⟨w.heap.size, 0, none⟩ (.bool true)).same D0 _ hK0 rfl
  have u1 := (KeepsOthers.setCell X3 ⟨w.heap.size, 0, none⟩ (.bool true)).same D1 _ hK1 rfl
  have mr := Ra.setCell_heap m4 0 (.bool true)
  have bz : Below w.heap.size w (X3.setCell ⟨w.heap.size, 0, none⟩ (.bool true)) := (HB4.out.trans (b3.mono (Nat.le_of_lt hw0))).setCell (p := ⟨w.heap.size, 0, none⟩) (Nat.le_refl _) (.bool true)
  generalize X3.setCell ⟨w.heap.size, 0, none⟩ (.bool true) = V0 at *
  have v0 := Ra.put_at (o' := .deferred none) (show D0 ≠ D1 by omega) u0
  have vr := Ra.put_at (o' := .deferred none) (show w.heap.size ≠ D0 by omega) (Ra.put_at (o' := .deferred none) (show w.heap.size ≠ D1 by omega) mr)
  have bw := (bz.trans (belowK_b (w := w) (Nat.le_refl _) _ D1 _ (.deferred none) (by omega) u1 rfl rfl)).trans (belowK_b (w := w) (Nat.le_refl _) _ D0 _ (.deferred none) (by omega) v0 rfl rfl)
  refine ⟨by simp, .inl ⟨_, _, rfl, run_takeDeferred u1, by simp, .inl ⟨_, _, rfl, run_takeDeferred v0, ?_⟩⟩⟩
  obtain ⟨cr, -⟩ := Ra.one1 vr
  refine ⟨.bool true, ?_, rfl, bw⟩
  simp [results, Try.f3, go_sem, cr]

set_option maxRecDepth 100000 in
theorem contract (H : Type) (enc : TypeId × Value → H) (W : World) (base : Nat) (args : Array Value) (ds gs : List (DataW H)) (before : List MemPlace)
    (hval : ∀ (j : Nat) t v, Try.f3.params[j]? = some t → args[j]? = some v → Value.okWide Try.prog W .any base t v)
    (hW : DataW.Whole enc Try.prog Try.f3.params.toList Rows.moneyPlacesSpec.vars false W args.toList ds gs before) :
    Calls Try.prog 3 args W fun e W' => ∃ v, e = .returned v ∧ Rows.moneyPlacesSpec.post enc Try.prog Try.f3 false true false false W args v W' := by
  have hW' := hW
  obtain ⟨p, q, hA0, hV, rfl, hfz, hnd⟩ := hW
  have hA : DataW.TrodAll enc Try.prog W 0 (fun _ => true) true Try.f3.params.toList args.toList ds p := hA0
  rw [Try.params3] at hA hval
  obtain ⟨v0, vs0, d0, ds0, p0, q0, hargs, rfl, rfl, h0, r0⟩ := trodAll_cons hA
  obtain ⟨v1, vs1, d1, ds1, p1, q1, rfl, rfl, rfl, h1, r1⟩ := trodAll_cons r0
  obtain ⟨rfl, rfl, rfl⟩ := trodAll_nil r1
  obtain rfl : args = #[v0, v1] := by cases args; simp_all
  obtain ⟨rfl, rfl⟩ := trodVars_none hV
  obtain ⟨a0, rfl, rfl, rfl, w0⟩ := open_string Try.underlying9 (hval 0 9 v0 rfl rfl) h0
  obtain ⟨a1, rfl, rfl, rfl, w1⟩ := open_int Try.underlying3 (hval 1 3 v1 rfl rfl) h1
  clear hA0
  refine (walk a0 a1 W w0 w1).mono fun e W' ⟨he, bel⟩ => ?_
  subst he
  exact ⟨_, rfl, _, _, _, [], _, [], hW', trodAll_mk1 (shut_bool Try.underlying4 _), (trodAll_cons_mk (shut_string Try.underlying9 w0) (trodAll_cons_mk (shut_int Try.underlying3 w1) trodAll_mk0)), rfl, bel.frame _, fun h => by cases h⟩

set_option maxRecDepth 100000 in
theorem lifted (os : Os) (started : os.Started) (H : Type) (enc : TypeId × Value → H) :
    ReturnsInHanded {} Try.checked os 3 .any (Rows.moneyPlacesSpec.pre6 enc Try.prog Try.f3 Rows.moneyPlacesRow.domain false) (Rows.moneyPlacesSpec.post enc Try.prog Try.f3 false true false false) := by
  refine returnsInHanded_of_change (C := Try.checked) own started (by kernel_rfl) Try.func3
    (ChangeSpec.witness6 (enc := enc) (C := Try.checked) false ⟨#[], #[.string .empty, .int .i64 0], []⟩ 8 (by kernel_rfl) (by kernel_rfl) (by kernel_rfl) (by kernel_rfl)) ?_
  intro W base args ds gs before hval hW _ _
  exact contract H enc W base args ds gs before hval hW

theorem proved : Rows.MoneyPlacesSaid :=
  OpenClaim.holds_of_wide 3 Try.f3 rfl rfl rfl rfl rfl rfl rfl ⟨rfl, rfl, rfl, rfl, rfl⟩ rfl rfl rfl rfl rfl (by kernel_rfl) Try.func3 (by kernel_rfl)
    (of_decide_eq_true (by kernel_rfl)) (by unfold Func.isWrapper; first | (rw [if_pos (by decide +kernel)]; kernel_rfl) | (rw [if_neg (by decide +kernel)]; exact ⟨rfl, rfl⟩))
    (fun os started H enc _ => lifted os started H enc)
#print axioms proved
end Go.Proofs.Ytaacocliclibgaa.moneyPlaces
