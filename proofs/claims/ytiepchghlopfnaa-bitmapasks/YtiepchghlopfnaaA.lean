/- BitmapAsks: the law out of the contracts; the frame of the row. -/
import Derived.Test.YtiepchghlopfnaaRows
import Derived.WalkKit
import Derived.ProofKit
import Derived.OpenShut
import Derived.ShutString
import Derived.ChangeOld
import Derived.Below
import Derived.JoinedCond
import Derived.Carry
import Derived.Test.YtiepchghlopfnaaOm
import Derived.Test.YtiepchghlopfnaaEx
import Derived.Test.YtiepchghlopfnaaAk
import Derived.Test.YtiepchghlopfnaaLw
import Derived.Test.YtiepchghlopfnaaQc
namespace Go.Proofs.Ytiepchghlopfnaa.bitmapAsks
open Go.ChangeShapes Go.WideShapes Go.ChangeAt Go.RowKit
open Go.ChangeMaps (open_string shut_string)
set_option linter.unusedVariables false

theorem own : ownKnob Try.prog.godebug = none := by kernel_rfl

set_option maxRecDepth 100000 in
set_option maxHeartbeats 1600000 in
theorem walk (a0 b0 : Nat) (a1 : Int) (w : World) (w0 : a0 < 18446744073709551616) (x0 : b0 < 18446744073709551616) (w1 : (Lit.int .i64 a1).wf = true) :
    Calls Try.prog 4 #[.agg #[.int .u64 (a0 : Int), .int .u64 (b0 : Int)], .int .i64 a1] w fun e w' => e = .returned (.bool true) ∧ Below w.heap.size w w' := by
  have n1 := (bounds_i64 w1).1
  have n2 := (bounds_i64 w1).2
  have hz := (zero_of_info Br.zrow).1
  have px := fun w => Ex.examples_any w
  have p1 := fun w => Bw.row_any a0 b0 w0 x0 w
  have p2 := fun w => Bn.with_any a0 b0 a1 w0 x0 n1 n2 w
  have p3 := fun w => Ak.refWith_any (Pla.rowF a0 b0) a1 w
  have hl := Ak.with_like a0 b0 a1 w0 x0
  have p4 := fun w => Ak.like_true hl.1 hl.2.1 w
  have p5 := fun w => Bn.without_any a0 b0 a1 w0 x0 n1 n2 w
  have p6 := fun w => Bx.refWithout_any (Pla.rowF a0 b0) a1 w
  have p7 := fun w => Ak.like_true (Ak.less_first (S := b0) (n := a1) w0).symm (Ak.less_second (F := a0) (n := a1) x0).symm w
  have p8 := fun w => Bm.right_any a0 b0 w0 x0 w
  have p9 := fun w => Bw.refRight_any (Pla.rowF a0 b0) w
  rw [Ak.right_is a0 b0 w0 x0, Bn.rightB] at p9
  have pa := fun w => Bh.has_any a0 b0 a1 w0 x0 n1 n2 w
  have pb := fun w => Bw.refHas_any (Pla.rowF a0 b0) a1 w
  rw [← Pla.hasB] at pb
  have he := hl.2.2
  rw [he] at p2
  have z0 := Br.hsz (Pla.rowF a0 b0)
  have o0 := Pla.rowC_one (Pla.rowF a0 b0)
  have s0 := Pla.rowC_size (Pla.rowF a0 b0)
  have z1 := Br.hsz (Ak.withF (Pla.rowF a0 b0) a1)
  have o1 := Pla.rowC_one (Ak.withF (Pla.rowF a0 b0) a1)
  have s1 := Pla.rowC_size (Ak.withF (Pla.rowF a0 b0) a1)
  generalize Pla.rowC (Pla.rowF a0 b0) = C0 at *
  generalize Pla.rowC (Ak.withF (Pla.rowF a0 b0) a1) = C1 at *
  generalize Pla.rowC (Bx.withoutF (Pla.rowF a0 b0) a1) = C2 at *
  generalize Ak.withE (Pla.rowF a0 b0) a1 = E at *
  generalize (Bn.withV a0 b0 a1).1 = X1 at *
  generalize (Bn.withV a0 b0 a1).2.1 = X2 at *
  generalize Pla.less a0 (Pla.onlyF a1) = L1 at *
  generalize Pla.less b0 (Pla.onlyS a1) = L2 at *
  generalize (decide (a0 < 9223372036854775808) && decide (b0 < 9223372036854775808)) = rr at *
  generalize Pla.hasB a0 b0 a1 = hh at *
  clear hl he w0 x0 w1
  go_enter Try.func4, Try.ntmps4
  go_wp2_with (first
    | (go_at_call 9; refine (px _).mono ?_; rintro e x1 ⟨rfl, h1⟩; obtain ⟨c0, c1, cf0, cf1⟩ := Bm.held2 h1 (Bm.h1_0 w _); have m1 := Bm.kept h1 (Bm.h1_0 w _))
    | (go_at_call 15; refine (p1 _).mono ?_; rintro e x2 ⟨rfl, h2⟩; have m2 := Bm.kept h2 m1; obtain ⟨d0, d1, df0, df1⟩ := De.and4 (Bm.held2a h2 m1))
    | (go_at_call 16; refine (p2 _).mono ?_; rintro e x3 ⟨rfl, h3⟩; have r3 := Bm.kept h3 (Bm.h1_0 x2 _); have m3 := Bm.kept h3 (De.kept1 m2 _))
    | (go_at_call 17; refine (p3 _).mono ?_; rintro e x4 ⟨rfl, h4⟩; have r4 := Bm.kept h4 (De.kept1 r3 _); have m4 := Bm.kept h4 (De.kept1 m3 _); obtain ⟨e0, e1, ef0, ef1⟩ := De.and4 (Bm.held2a h4 (Bm.h1_0 x3 _)))
    | (go_at_call_of 14 (Value.agg C1); refine (p4 _).mono ?_; rintro e x5 ⟨rfl, h5⟩; have r5 := Bm.kept h5 (De.kept1 r4 _); have m5 := Bm.kept h5 (De.kept1 m4 _))
    | (refine wpList_store_row rfl 33 _ _ rfl x2.heap.size C0 rfl rfl _ _ (Bm.h1_0 _ _) z0 (by rw [Pla.rowC_size, s0]) o0 ?_; rw [World.setRow_alloc_new])
    | (refine wpList_store_row rfl 33 _ _ rfl x4.heap.size C1 rfl rfl _ _ (Bm.h1_0 _ _) z1 (by rw [Pla.rowC_size, s1]) o1 ?_; rw [World.setRow_alloc_new])
    | (refine wpList_load_row rfl 33 _ rfl x2.heap.size rfl _ _ _ _ (De.kept1 r3 _) Try.underlying33 rfl z0 ?_)
    | (refine wpList_load_row rfl 33 _ rfl x4.heap.size rfl _ _ _ _ (Bm.h1_0 x4 _) Try.underlying33 rfl z1 ?_))
  have b5 : Below w.heap.size w x5 := Bm.keepB (Bm.keepB (Bm.keepB (Bm.keepB (Bm.keepB (Bm.keepB (Bm.keepB (Bm.keepB (Bm.below_one w _) h1) h2) (Bm.below_one x2 _)) h3) (Bm.below_one x3 _)) h4) (Bm.below_one x4 _)) h5
  clear c0 c1 cf0 cf1 m1 m2 d0 d1 df0 df1 r3 m3 r4 m4 e0 e1 ef0 ef1 px p1 p2 p3 p4
  have zm : (Try.prog.info? 27).map (·.size) = some (#[Value.int .u64 (a0 : Int), .int .u64 (b0 : Int)] : Array Value).size := by kernel_rfl
  refine Qc.region_cl (by kernel_rfl) (by kernel_rfl) ?_
  repeat (refine wpQuiet_step (fun K hK => ?_); first
    | (refine Qc.q_row (by rfl) 33 _ rfl x2.heap.size rfl _ C0 _ _ r5 Try.underlying33 rfl z0 (hK _ ?_); clear hK K)
    | (refine Qc.q_row (by rfl) 27 _ rfl w.heap.size rfl _ _ _ _ m5 Try.underlying27 rfl zm (hK _ ?_); clear hK K)
    | (go_simp; apply Exists.intro; refine ⟨fun y hy => ?_, hK _ ?_⟩; (first | (go_at_call 18; exact Qc.cl_of hy (p5 y)) | (go_at_call 19; exact Qc.cl_of hy (p6 y)) | (go_at_call 14; exact Qc.cl_of hy (p7 y))); clear hK K)
    | (go_simp; refine hK _ ?_; clear hK K)
    | (go_simp; refine ⟨_, fun _ _ => rfl, hK _ ?_⟩; clear hK K)
    | (go_simp; refine ⟨_, fun _ _ => ⟨rfl, rfl⟩, hK _ ?_⟩; clear hK K))
  refine wpQuiet_nil ?_
  intro x6 h6
  have r6 := Bm.kept h6 r5
  have m6 := Bm.kept h6 m5
  go_wp2_with fail
  refine Qc.region_cl (by kernel_rfl) (by kernel_rfl) ?_
  repeat (refine wpQuiet_step (fun K hK => ?_); first
    | (refine Qc.q_row (by rfl) 33 _ rfl x2.heap.size rfl _ C0 _ _ r6 Try.underlying33 rfl z0 (hK _ ?_); clear hK K)
    | (refine Qc.q_row (by rfl) 27 _ rfl w.heap.size rfl _ _ _ _ m6 Try.underlying27 rfl zm (hK _ ?_); clear hK K)
    | (go_simp; apply Exists.intro; refine ⟨fun y hy => ?_, hK _ ?_⟩; (first | (go_at_call 20; exact Qc.cl_of hy (p8 y)) | (go_at_call 21; exact Qc.cl_of hy (p9 y)) | (go_at_call 22; exact Qc.cl_of hy (pa y)) | (go_at_call 23; exact Qc.cl_of hy (pb y))); clear hK K)
    | (go_simp; refine hK _ ?_; clear hK K)
    | (go_simp; refine ⟨_, fun _ _ => rfl, hK _ ?_⟩; clear hK K)
    | (go_simp; refine ⟨_, fun _ _ => ⟨rfl, rfl⟩, hK _ ?_⟩; clear hK K))
  refine wpQuiet_nil ?_
  intro x7 h7
  go_wp2
  go_ret
  exact ⟨rfl, Bm.keepB (Bm.keepB b5 h6) h7⟩

theorem contract (H : Type) (enc : TypeId × Value → H) (W : World) (base : Nat) (args : Array Value) (ds gs : List (DataW H)) (before : List MemPlace)
    (hval : ∀ (j : Nat) t v, Try.f4.params[j]? = some t → args[j]? = some v → Value.okWide Try.prog W .any base t v)
    (hW : DataW.Whole enc Try.prog Try.f4.params.toList Rows.bitmapAsksSpec.vars false W args.toList ds gs before) :
    Calls Try.prog 4 args W fun e W' => ∃ v, e = .returned v ∧ Rows.bitmapAsksSpec.post enc Try.prog Try.f4 false true false false W args v W' := by
  have hW' := hW
  obtain ⟨p, q, hA0, hV, rfl, hfz, hnd⟩ := hW
  have hA : DataW.TrodAll enc Try.prog W 0 (fun _ => true) true Try.f4.params.toList args.toList ds p := hA0
  rw [Try.params4] at hA hval
  obtain ⟨v0, vs0, d0, ds0, p0, q0, hargs, rfl, rfl, h0, r0⟩ := trodAll_cons hA
  obtain ⟨v1, vs1, d1, ds1, p1, q1, rfl, rfl, rfl, h1, r1⟩ := trodAll_cons r0
  obtain ⟨rfl, rfl, rfl⟩ := trodAll_nil r1
  obtain rfl : args = #[v0, v1] := by cases args; simp_all
  obtain ⟨rfl, rfl⟩ := trodVars_none hV
  obtain ⟨a0, b0, rfl, rfl, rfl, w0, x0⟩ := Om.open_map (hval 0 27 v0 rfl rfl) h0
  obtain ⟨a1, rfl, rfl, rfl, w1⟩ := open_int Try.underlying3 (hval 1 3 v1 rfl rfl) h1
  clear hA0
  refine (walk a0 b0 a1 W w0 x0 w1).mono fun e W' ⟨he, bel⟩ => ?_
  subst he
  exact ⟨_, rfl, _, _, _, [], _, [], hW', trodAll_mk1 (shut_bool Try.underlying4 _), (trodAll_cons_mk (Om.shut_map w0 x0) (trodAll_cons_mk (shut_int Try.underlying3 w1) trodAll_mk0)), rfl, bel.frame _, fun h => by cases h⟩

set_option maxRecDepth 100000 in
theorem lifted (os : Os) (started : os.Started) (H : Type) (enc : TypeId × Value → H) :
    ReturnsInHanded {} Try.checked os 4 .any (Rows.bitmapAsksSpec.pre6 enc Try.prog Try.f4 Rows.bitmapAsksRow.domain false) (Rows.bitmapAsksSpec.post enc Try.prog Try.f4 false true false false) := by
  refine returnsInHanded_of_change (C := Try.checked) own started (by kernel_rfl) Try.func4
    (ChangeSpec.witness6 (enc := enc) (C := Try.checked) false ⟨#[], #[.agg #[.int .u64 0, .int .u64 0], .int .i64 0], []⟩ 8 (by kernel_rfl) (by kernel_rfl) (by kernel_rfl) (by kernel_rfl)) ?_
  intro W base args ds gs before hval hW _ _
  exact contract H enc W base args ds gs before hval hW

theorem proved : Rows.BitmapAsksSaid :=
  OpenClaim.holds_of_wide 4 Try.f4 rfl rfl rfl rfl rfl rfl rfl ⟨rfl, rfl, rfl, rfl, rfl⟩ rfl rfl rfl rfl rfl (by kernel_rfl) Try.func4 (by kernel_rfl)
    (of_decide_eq_true (by kernel_rfl)) (by unfold Func.isWrapper; first | (rw [if_pos (by decide +kernel)]; kernel_rfl) | (rw [if_neg (by decide +kernel)]; exact ⟨rfl, rfl⟩))
    (fun os started H enc _ => lifted os started H enc)
#print axioms proved
end Go.Proofs.Ytiepchghlopfnaa.bitmapAsks
