/- BitmapOf: the law out of the contracts; the frame of the row. -/
import Derived.Test.YtiepchghlopfnaaRows
import Derived.WalkKit
import Derived.ProofKit
import Derived.OpenShut
import Derived.ShutString
import Derived.ChangeOld
import Derived.Below
import Derived.JoinedCond
import Derived.Carry
import Derived.Test.YtiepchghlopfnaaOm
import Derived.Test.YtiepchghlopfnaaEx
import Derived.Test.YtiepchghlopfnaaOl
import Derived.Test.YtiepchghlopfnaaAk
import Derived.Test.YtiepchghlopfnaaLw
import Derived.Test.YtiepchghlopfnaaQc
namespace Go.Proofs.Ytiepchghlopfnaa.bitmapOf
open Go.ChangeShapes Go.WideShapes Go.ChangeAt Go.RowKit
open Go.ChangeMaps (open_string shut_string)
set_option linter.unusedVariables false

theorem own : ownKnob Try.prog.godebug = none := by kernel_rfl

set_option maxRecDepth 100000 in
set_option maxHeartbeats 1600000 in
theorem walk (v0 : Value) (z0 : List Int) (w : World) (w0 : Sl.Lies w v0 z0) (k0 : z0.length ≤ 1048576) :
    Calls Try.prog 3 #[v0] w fun e w' => e = .returned (.bool true) ∧ Below w.heap.size w w' := by
  obtain ⟨ob, cap, hv⟩ := Ol.shape w0
  obtain ⟨N, hN⟩ : ∃ N, N = z0.length := ⟨_, rfl⟩
  obtain ⟨M, hM⟩ : ∃ M, M = N + 8 := ⟨_, rfl⟩
  rw [← hN] at hv
  subst hv
  have HL : Hid (Sl.Lies w (.slice ob N cap) z0) := w0
  have q1 : (N : Int) ≤ (M : Int) := by omega
  have q2 : N ≤ M := by omega
  have q3 : (M : Int) ≤ 1048584 := by omega
  have px := fun w => Ex.examples_any w
  have pl := fun (v : Value) x h => Ol.lentC (v := v) hN hM k0 x h
  have hd := Ol.inb w0
  have p1 := @(fun (g : Nat) (x : World) h => Ol.ofC1 hN hM k0 hd (g := g) (x := x) h)
  have pb := @(fun (g : Nat) (x : World) h1 h2 h3 => Ol.backC hN hM k0 (g := g) (x := x) w0 h1 h2 h3)
  have pr := fun (v : Value) (x : World) h => Rq.rof_lies z0 v x h k0
  have p2 := @(fun (g : Nat) (x : World) h => Ol.ofC2 hM (show N ≤ 1048576 by omega) (g := g) (x := x) h)
  have ps := @(fun (g : Nat) (x : World) h => Ol.rofC2 hM (show N ≤ 1048576 by omega) (g := g) (x := x) h)
  obtain ⟨l1, l2, l3⟩ := Ro.of_like z0
  obtain ⟨m1, m2, m3⟩ := Ro.of_like (List.replicate N 3)
  have pk := fun w => Ak.like_true l1 l2 w
  have pm := fun w => Ak.like_true m1 m2 w
  rw [l3] at p1
  rw [m3] at p2
  have hz := (zero_of_info Br.zrow).1
  have z1 := Br.hsz (Ro.ofRV z0)
  have o1 := Pla.rowC_one (Ro.ofRV z0)
  have s1 := Pla.rowC_size (Ro.ofRV z0)
  have z2 := Br.hsz (Ro.ofRV (List.replicate N 3))
  have o2 := Pla.rowC_one (Ro.ofRV (List.replicate N 3))
  have s2 := Pla.rowC_size (Ro.ofRV (List.replicate N 3))
  clear l1 l2 l3 m1 m2 m3 hd w0 k0 hM hN
  generalize Pla.rowC (Ro.ofRV z0) = C1 at *
  generalize Pla.rowC (Ro.ofRV (List.replicate N 3)) = C2 at *
  generalize (Of.ofV z0).1 = F1 at *
  generalize (Of.ofV z0).2.1 = S1 at *
  generalize Ro.ofE z0 = E1 at *
  generalize (Of.ofV (List.replicate N 3)).1 = F2 at *
  generalize (Of.ofV (List.replicate N 3)).2.1 = S2 at *
  generalize Ro.ofE (List.replicate N 3) = E2 at *
  go_enter Try.func3, Try.ntmps3
  go_wp2_with (first
    | (go_at_call 9; refine (px _).mono ?_; rintro e x1 ⟨rfl, h1⟩)
    | (go_at_call 10; refine (pl _ _ (Sl.lies_below HL.out h1)).mono ?_; rintro e x2 ⟨rfl, hx2⟩; obtain ⟨g2, h2⟩ := Ol.after hx2; clear hx2)
    | (go_at_call 11; refine (p2 _ _ (De.kept1 G4.out _)).mono ?_; rintro e y5 ⟨rfl, h5⟩; have G5 : Hid _ := Bm.kept h5 (De.kept1 G4.out _); have R5 : Hid _ := Bm.kept h5 (Bm.h1_0 y4 _); have M5 : Hid _ := Bm.kept h5 (De.kept1 M4.out _); have X5 : Hid _ := Bm.kept h5 (De.kept1 X4.out _); have B5 : Below w.heap.size w y5 := Bm.keepB (Bm.keepB B4 (Bm.below_one y4 _)) h5)
    | (go_at_call 11; refine (p1 _ _ (De.kept1 G3.out _)).mono ?_; rintro e y2 ⟨rfl, h3⟩; have M2 : Hid _ := Bm.kept h3 (Bm.h1_0 y1 _); have G3' : Hid _ := Bm.kept h3 (De.kept1 G3.out _))
    | (go_at_call 11; refine (p1 _ _ g2.out).mono ?_; rintro e y1 ⟨rfl, hy1⟩; have G3 : Hid _ := Bm.kept hy1 g2.out)
    | (go_at_call 12; have BB : Below w.heap.size w y2 := Bm.keepB (Bm.keepB (Bm.keepB (Bm.keepB h1 h2) hy1) (Bm.below_one y1 _)) h3; refine (pb _ _ h1.size (Bm.keepB BB (Bm.below_one y2 _)) (De.kept1 G3'.out _)).mono ?_; rintro e y3 ⟨rfl, hbk, hG, hk⟩; have G4a : Hid _ := hG; have B3 : Below w.heap.size w y3 := Ol.belowG h1.size (Bm.keepB BB (Bm.below_one y2 _)) hbk; have M3 : Hid _ := Ol.keptN hk (De.kept1 M2.out _) (Ol.neG G3.out); have X3 : Hid _ := Ol.keptN hk (Bm.h1_0 y2 _) (Ol.neG G3'.out); have L3 : Hid _ := Sl.lies_below HL.out B3; clear BB hbk hG hk h1 h2 hy1 h3 g2 G3 G3' M2)
    | (go_at_call 13; refine (ps _ _ (De.kept1 G5.out _)).mono ?_; rintro e y6 ⟨rfl, h6⟩; have Y6 : Hid _ := Bm.kept h6 (Bm.h1_0 y5 _); have R6 : Hid _ := Bm.kept h6 (De.kept1 R5.out _); have M6 : Hid _ := Bm.kept h6 (De.kept1 M5.out _); have X6 : Hid _ := Bm.kept h6 (De.kept1 X5.out _); have B6 : Below w.heap.size w y6 := Bm.keepB (Bm.keepB B5 (Bm.below_one y5 _)) h6; obtain ⟨a0, a1, af0, af1⟩ := De.and4 (Bm.held2a h6 (De.kept1 M5.out _)))
    | (go_at_call 13; refine (pr _ _ L3.out).mono ?_; rintro e y4 ⟨rfl, h4⟩; have G4 : Hid _ := Bm.kept h4 G4a.out; have M4 : Hid _ := Bm.kept h4 M3.out; have X4 : Hid _ := Bm.kept h4 X3.out; have B4 : Below w.heap.size w y4 := Bm.keepB B3 h4)
    | (refine wpList_store_row rfl 33 _ _ rfl y6.heap.size C2 rfl rfl _ _ (Bm.h1_0 _ _) z2 (by rw [Pla.rowC_size, s2]) o2 ?_; rw [World.setRow_alloc_new])
    | (refine wpList_store_row rfl 33 _ _ rfl y4.heap.size C1 rfl rfl _ _ (Bm.h1_0 _ _) z1 (by rw [Pla.rowC_size, s1]) o1 ?_; rw [World.setRow_alloc_new])
    | (refine wpList_load_row rfl 33 _ rfl y6.heap.size rfl _ _ _ _ W7.out Try.underlying33 rfl z2 ?_)
    | (refine wpList_load_row rfl 33 _ rfl y4.heap.size rfl _ _ _ _ (De.kept1 R6.out _) Try.underlying33 rfl z1 ?_)
    | (go_at_call_of 14 (Value.agg C1); refine (pk _).mono ?_; rintro e y7 ⟨rfl, h7⟩; have W7 : Hid _ := Bm.kept h7 (Bm.h1_0 y6 _); have M7 : Hid _ := Bm.kept h7 (De.kept1 M6.out _); have X7 : Hid _ := Bm.kept h7 (De.kept1 X6.out _); obtain ⟨b0, b1, bf0, bf1⟩ := Bm.held2 h7 (De.kept1 Y6.out _))
    | (go_at_call_of 14 (Value.agg C2); refine (pm _).mono ?_; rintro e y8 ⟨rfl, h8⟩; obtain ⟨c0, c1, cf0, cf1⟩ := Bm.held2 h8 M7.out; obtain ⟨d0, d1, df0, df1⟩ := Bm.held2 h8 X7.out))
  clear px pl pr p1 p2 ps pk pm pb
  go_ret
  exact ⟨rfl, Bm.keepB (Bm.keepB (Bm.keepB B6 (Bm.below_one y6 _)) h7) h8⟩

theorem contract (H : Type) (enc : TypeId × Value → H) (W : World) (base : Nat) (args : Array Value) (ds gs : List (DataW H)) (before : List MemPlace)
    (hval : ∀ (j : Nat) t v, Try.f3.params[j]? = some t → args[j]? = some v → Value.okWide Try.prog W .any base t v)
    (hW : DataW.Whole enc Try.prog Try.f3.params.toList Rows.bitmapOfSpec.vars false W args.toList ds gs before) (hk : Rows.uptoSmall H (ds ++ gs) = true) :
    Calls Try.prog 3 args W fun e W' => ∃ v, e = .returned v ∧ Rows.bitmapOfSpec.post enc Try.prog Try.f3 false true false false W args v W' := by
  have hW' := hW
  obtain ⟨p, q, hA0, hV, rfl, hfz, hnd⟩ := hW
  have hA : DataW.TrodAll enc Try.prog W 0 (fun _ => true) true Try.f3.params.toList args.toList ds p := hA0
  rw [Try.params3] at hA hval
  obtain ⟨v0, vs0, d0, ds0, p0, q0, hargs, rfl, rfl, h0, r0⟩ := trodAll_cons hA
  obtain ⟨rfl, rfl, rfl⟩ := trodAll_nil r0
  obtain rfl : args = #[v0] := by cases args; simp_all
  obtain ⟨rfl, rfl⟩ := trodVars_none hV
  obtain ⟨z0, w0, lt0, bulk0⟩ := Sl.open_sl (hval 0 22 v0 rfl rfl) h0
  clear hA0
  simp only [List.append_nil] at hk
  have hk1 := of_decide_eq_true hk
  simp only [Rows.uptoBulkAll] at hk1
  have e0 := bulk0
  refine (walk v0 z0 W w0 (by omega)).mono fun e W' ⟨he, bel⟩ => ?_
  subst he
  exact ⟨_, rfl, _, _, _, [], _, [], hW', trodAll_mk1 (shut_bool Try.underlying4 _), (trodAll_cons_mk (Below.trod (by kernel_rfl) (by kernel_rfl) (of_decide_eq_true (by kernel_rfl)) h0 bel lt0) trodAll_mk0), rfl, bel.frame _, fun h => by cases h⟩

set_option maxRecDepth 100000 in
theorem lifted (os : Os) (started : os.Started) (H : Type) (enc : TypeId × Value → H) (F : Stop.Interp) :
    ReturnsInHanded {} Try.checked os 3 .any ((Rows.OpenSpec.upto Rows.bitmapOfSpec).pre6 enc Try.prog Try.f3 Rows.bitmapOfUptoRow.domain false) (((Rows.OpenSpec.upto Rows.bitmapOfSpec).at F).post enc Try.prog Try.f3 false true false false) := by
  refine returnsInHanded_of_cond (C := Try.checked) (s := Rows.OpenSpec.upto Rows.bitmapOfSpec) (k := Rows.uptoSmall) rfl own started (by kernel_rfl) Try.func3
    (OpenSpec.witness (enc := enc) (C := Try.checked) (s := Rows.OpenSpec.upto Rows.bitmapOfSpec) (k := Rows.uptoSmall) rfl false ⟨#[], #[.slice none 0 0], []⟩ 8 (by kernel_rfl) (by kernel_rfl) (by kernel_rfl)
      (x := ([.nil], [], [])) (by kernel_rfl) rfl (by kernel_rfl)) ?_
  intro W base args ds gs before hval hW _ hk _
  exact contract H enc W base args ds gs before hval hW hk

theorem proved : Rows.BitmapOfUptoSaid :=
  OpenClaim.holds_of_cond 3 Try.f3 rfl rfl rfl rfl rfl rfl rfl ⟨rfl, rfl, rfl, rfl, rfl⟩ rfl rfl rfl rfl rfl (by kernel_rfl) Try.func3 (by kernel_rfl)
    (of_decide_eq_true (by kernel_rfl)) (by unfold Func.isWrapper; first | (rw [if_pos (by decide +kernel)]; kernel_rfl) | (rw [if_neg (by decide +kernel)]; exact ⟨rfl, rfl⟩))
    (fun os started H enc _ F => lifted os started H enc F)
#print axioms proved
end Go.Proofs.Ytiepchghlopfnaa.bitmapOf
