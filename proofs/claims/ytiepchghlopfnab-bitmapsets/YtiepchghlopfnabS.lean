/- BitmapSets: the law out of the contracts; the frame of the row. -/
import Derived.Test.YtiepchghlopfnabRows
import Derived.WalkKit
import Derived.ProofKit
import Derived.OpenShut
import Derived.ShutString
import Derived.ChangeOld
import Derived.Below
import Derived.JoinedCond
import Derived.Carry
import Derived.Test.YtiepchghlopfnabOm
import Derived.Test.YtiepchghlopfnabEx
import Derived.Test.YtiepchghlopfnabSt
import Derived.Test.YtiepchghlopfnabQc
namespace Go.Proofs.Ytiepchghlopfnab.bitmapSets
open Go.ChangeShapes Go.WideShapes Go.ChangeAt Go.RowKit
open Go.ChangeMaps (open_string shut_string)
set_option linter.unusedVariables false

theorem own : ownKnob Try.prog.godebug = none := by kernel_rfl

set_option maxRecDepth 100000 in
set_option maxHeartbeats 16000000 in
theorem walk (a0 b0 : Nat) (a1 b1 : Nat) (a2 : Int) (w : World) (w0 : a0 < 18446744073709551616) (x0 : b0 < 18446744073709551616) (w1 : a1 < 18446744073709551616) (x1 : b1 < 18446744073709551616) (w2 : (Lit.int .i64 a2).wf = true) :
    Calls Try.prog 4 #[.agg #[.int .u64 (a0 : Int), .int .u64 (b0 : Int)], .agg #[.int .u64 (a1 : Int), .int .u64 (b1 : Int)], .int .i64 a2] w fun e w' => e = .returned (.bool true) ∧ Below w.heap.size w w' := by
  have n1 := (bounds_i64 w2).1
  have n2 := (bounds_i64 w2).2
  have px := fun w => Ex.examples_any w
  have pA := fun w => Bn.and_any a0 b0 a1 b1 w0 x0 w1 x1 w
  have pB := fun w => Bn.less_any a0 b0 a1 b1 w0 x0 w1 x1 w
  have pF := fun w => St.field_any a2 n1 n2 w
  have hf := St.fieldOf_field a2
  have fb := St.field_bd hf
  have HM := fun n h1 h2 w => Bh.has_any a0 b0 n w0 x0 h1 h2 w
  have HO := fun n h1 h2 w => Bh.has_any a1 b1 n w1 x1 h1 h2 w
  have lA1 : Pla.fld (a0 &&& a1) < 18446744073709551616 := Pla.fld_lt (Pla.and_lt w0)
  have lA2 : Pla.fld (b0 &&& b1) < 18446744073709551616 := Pla.fld_lt (Pla.and_lt x0)
  have lB1 : Pla.fld (Pla.less a0 a1) < 18446744073709551616 := Pla.fld_lt (Pla.less_lt w0)
  have lB2 : Pla.fld (Pla.less b0 b1) < 18446744073709551616 := Pla.fld_lt (Pla.less_lt x0)
  have HA := fun n h1 h2 w => Bh.has_any (Pla.fld (a0 &&& a1)) (Pla.fld (b0 &&& b1)) n lA1 lA2 h1 h2 w
  have HB := fun n h1 h2 w => Bh.has_any (Pla.fld (Pla.less a0 a1)) (Pla.fld (Pla.less b0 b1)) n lB1 lB2 h1 h2 w
  have hA := fun n => St.has_and a0 b0 a1 b1 n
  have hB := fun n => St.has_less a0 b0 a1 b1 w0 x0 w1 x1 n
  have hpA := St.fld_half (a0 &&& a1)
  have hpA2 := St.fld_half (b0 &&& b1)
  have hlen := St.len_parts a0 b0 a1 b1 w0 x0 w1 x1
  have pLa := fun w => On.len_any (Pla.fld (a0 &&& a1)) (Pla.fld (b0 &&& b1)) lA1 lA2 w
  have pLb := fun w => On.len_any (Pla.fld (Pla.less a0 a1)) (Pla.fld (Pla.less b0 b1)) lB1 lB2 w
  have pLm := fun w => On.len_any a0 b0 w0 x0 w
  have pRa := fun w => Bm.right_any (Pla.fld (a0 &&& a1)) (Pla.fld (b0 &&& b1)) lA1 lA2 w
  have pRb := fun w => Bm.right_any (Pla.fld (Pla.less a0 a1)) (Pla.fld (Pla.less b0 b1)) lB1 lB2 w
  rw [← Bn.rightB, St.right_fld] at pRa pRb
  generalize St.fieldOf a2 = N at *
  have pX := fun w => Bn.with_any (Pla.fld (a0 &&& a1)) (Pla.fld (b0 &&& b1)) N lA1 lA2 (by omega) (by omega) w
  rw [St.with_right _ _ N hf hpA hpA2] at pX
  have oh := St.only_half N hf
  have l1 : On.lenN (Pla.fld (a0 &&& a1)) (Pla.fld (b0 &&& b1)) ≤ 128 := Nat.add_le_add (Pop.popN_le 64 _) (Pop.popN_le 64 _)
  have l2 : On.lenN (Pla.fld (Pla.less a0 a1)) (Pla.fld (Pla.less b0 b1)) ≤ 128 := Nat.add_le_add (Pop.popN_le 64 _) (Pop.popN_le 64 _)
  generalize Pla.fld (Pla.less a0 a1) = B1 at *
  generalize Pla.fld (Pla.less b0 b1) = B2 at *
  generalize Pla.fld (a0 &&& a1) = A1 at *
  generalize Pla.fld (b0 &&& b1) = A2 at *
  have lX1 : A1 ||| Pla.onlyF N < 18446744073709551616 := Pla.or_lt lA1 (Pla.onlyF_lt N)
  have lX2 : A2 ||| Pla.onlyS N < 18446744073709551616 := Pla.or_lt lA2 (Pla.onlyS_lt N)
  have pY := fun w => Bn.without_any (A1 ||| Pla.onlyF N) (A2 ||| Pla.onlyS N) N lX1 lX2 (by omega) (by omega) w
  have lY1 : Pla.less (A1 ||| Pla.onlyF N) (Pla.onlyF N) < 9223372036854775808 := Nat.lt_of_le_of_lt Nat.and_le_left (Nat.or_lt_two_pow (n := 63) hpA oh.1)
  have lY2 : Pla.less (A2 ||| Pla.onlyS N) (Pla.onlyS N) < 9223372036854775808 := Nat.lt_of_le_of_lt Nat.and_le_left (Nat.or_lt_two_pow (n := 63) hpA2 oh.2)
  have pZ := fun w => Bn.with_any (Pla.less (A1 ||| Pla.onlyF N) (Pla.onlyF N)) (Pla.less (A2 ||| Pla.onlyS N) (Pla.onlyS N)) N (by omega) (by omega) (by omega) (by omega) w
  rw [St.with_right _ _ N hf lY1 lY2, St.or_less lA1 (Pla.onlyF_lt N), St.or_less lA2 (Pla.onlyS_lt N)] at pZ
  have pHa := HA N (by omega) (by omega)
  have pHx := fun w => Bh.has_any (A1 ||| Pla.onlyF N) (A2 ||| Pla.onlyS N) N lX1 lX2 (by omega) (by omega) w
  rw [St.has_with A1 A2 N hf] at pHx
  have pHy := fun w => Bh.has_any (Pla.less (A1 ||| Pla.onlyF N) (Pla.onlyF N)) (Pla.less (A2 ||| Pla.onlyS N) (Pla.onlyS N)) N (by omega) (by omega) (by omega) (by omega) w
  rw [St.has_without _ _ N hf lX1 lX2] at pHy
  have und := St.undo A1 A2 N hf lA1 lA2
  generalize Pla.hasB A1 A2 N = had at und pHa
  generalize Pla.less (A1 ||| Pla.onlyF N) (Pla.onlyF N) = Y1 at *
  generalize Pla.less (A2 ||| Pla.onlyS N) (Pla.onlyS N) = Y2 at *
  generalize A1 ||| Pla.onlyF N = X1 at *
  generalize A2 ||| Pla.onlyS N = X2 at *
  generalize On.lenN A1 A2 = La at *
  generalize On.lenN B1 B2 = Lb at *
  generalize On.lenN a0 b0 = Lm at *
  have hl2 : IntKind.i64.wrap ((La : Int) + (Lb : Int)) = (Lm : Int) := by rw [IntKind.wrap_i64]; omega
  clear hlen l1 l2 lY1 lY2 lX1 lX2 oh hpA hpA2 fb hf lA1 lA2 lB1 lB2 w0 x0 w1 x1 w2 n1 n2
  have KM : Hid _ := HM
  have KO : Hid _ := HO
  have KA : Hid _ := HA
  have KB : Hid _ := HB
  have KhA : Hid _ := hA
  have KhB : Hid _ := hB
  clear HM HO HA HB hA hB
  go_enter Try.func4, Try.ntmps4
  go_wp2_with (first
    | (go_at_call 5; refine (px _).mono ?_; rintro e x1 ⟨rfl, h1⟩; obtain ⟨c0, c1, cf0, cf1⟩ := Bm.held2 h1 (Bm.h2_0 w _ _); obtain ⟨d0, d1, df0, df1⟩ := Bm.held2 h1 (Bm.h2_1 w _ _); have m1 := Bm.kept h1 (Bm.h2_0 w _ _); have o1 := Bm.kept h1 (Bm.h2_1 w _ _))
    | (go_at_call 10; refine (pA _).mono ?_; rintro e x2 ⟨rfl, h2⟩; have m2 := Bm.kept h2 m1; have o2 := Bm.kept h2 o1; obtain ⟨e0, e1, ef0, ef1⟩ := De.and4 (Bm.held2a h2 m1); obtain ⟨g0, g1, gf0, gf1⟩ := De.and4 (Bm.held2a h2 o1))
    | (go_at_call 11; refine (pB _).mono ?_; rintro e x3 ⟨rfl, h3⟩; have m3 := Bm.kept h3 (De.kept1 m2 _); have o3 := Bm.kept h3 (De.kept1 o2 _); have a3 := Bm.kept h3 (Bm.h1_0 x2 _)))
  have b3 : Below w.heap.size w (x3.alloc (Obj.cells #[Value.int IntKind.u64 ↑B1, Value.int IntKind.u64 ↑B2] 26)) := Bm.keepB (Bm.keepB (Bm.keepB (Bm.keepB (Bm.keepB (Bm.below_two w _ _) h1) h2) (Bm.below_one x2 _)) h3) (Bm.below_one x3 _)
  have M0 : Hid _ := De.kept1 m3 (Obj.cells #[Value.int IntKind.u64 ↑B1, Value.int IntKind.u64 ↑B2] 26)
  have O0 : Hid _ := De.kept1 o3 (Obj.cells #[Value.int IntKind.u64 ↑B1, Value.int IntKind.u64 ↑B2] 26)
  have A0 : Hid _ := De.kept1 a3 (Obj.cells #[Value.int IntKind.u64 ↑B1, Value.int IntKind.u64 ↑B2] 26)
  have B0 : Hid _ := Bm.h1_0 x3 (Obj.cells #[Value.int IntKind.u64 ↑B1, Value.int IntKind.u64 ↑B2] 26)
  generalize x3.alloc (Obj.cells #[Value.int IntKind.u64 ↑B1, Value.int IntKind.u64 ↑B2] 26) = W0 at *
  clear c0 c1 cf0 cf1 d0 d1 df0 df1 m1 o1 m2 o2 e0 e1 ef0 ef1 g0 g1 gf0 gf1 m3 o3 a3 h1 h2 h3 px pA pB
  have zz : ∀ u v : Value, (Try.prog.info? 26).map (·.size) = some (#[u, v] : Array Value).size := fun _ _ => by kernel_rfl
  go_loopw [10] (fun ii wr => ∃ j : Nat, j ≤ 130 ∧ ii = .int .i64 (j : Int) ∧ Hid (wr.heap[w.heap.size]? = some (.cells #[.int .u64 (a0 : Int), .int .u64 (b0 : Int)] 26 (0, 0))) ∧ Hid (wr.heap[w.heap.size + 1]? = some (.cells #[.int .u64 (a1 : Int), .int .u64 (b1 : Int)] 26 (0, 0))) ∧ Hid (wr.heap[x2.heap.size]? = some (.cells #[.int .u64 (A1 : Int), .int .u64 (A2 : Int)] 26 (0, 0))) ∧ Hid (wr.heap[x3.heap.size]? = some (.cells #[.int .u64 (B1 : Int), .int .u64 (B2 : Int)] 26 (0, 0))) ∧ Below w.heap.size w wr) (fun ii _ => 131 - (intOf ii).toNat)
  case atStart => exact ⟨0, by omega, rfl, M0, O0, A0, B0, b3⟩
  case round =>
    obtain ⟨j, hj, rfl, hM, hO, hA, hB, hbw⟩ := hrel
    have hM := hM.out
    have hO := hO.out
    have hA := hA.out
    have hB := hB.out
    clear M0 O0 A0 B0 b3
    by_cases hj2 : j < 130
    · have q : (j : Int) < 130 := by omega
      have pm := KM.out (j : Int) (by omega) (by omega)
      have po := KO.out (j : Int) (by omega) (by omega)
      have pa := KA.out (j : Int) (by omega) (by omega)
      have pb := KB.out (j : Int) (by omega) (by omega)
      rw [KhA.out (j : Int)] at pa
      rw [KhB.out (j : Int)] at pb
      generalize Pla.hasB a0 b0 (j : Int) = bm at *
      generalize Pla.hasB a1 b1 (j : Int) = bo at *
      clear pF pHa pX pY pZ pHx pHy pLa pLb pLm pRa pRb und
      cases bm <;> cases bo
      all_goals
        go_wp2_with (first
          | (go_at_call_of 12 (Value.agg #[Value.int IntKind.u64 (a0 : Int), Value.int IntKind.u64 (b0 : Int)]); refine (pm _).mono ?_; rintro e y ⟨rfl, hc⟩; have hbw := Bm.keepB hbw hc; have hM := Bm.kept hc hM; have hO := Bm.kept hc hO; have hA := Bm.kept hc hA; have hB := Bm.kept hc hB; have o0 := (Bm.held2 (Below.refl _ _) hO).1; have o1 := (Bm.held2 (Below.refl _ _) hO).2.1; have q0 := (Bm.held2 (Below.refl _ _) hB).1; have q1 := (Bm.held2 (Below.refl _ _) hB).2.1; clear hc)
          | (go_at_call_of 12 (Value.agg #[Value.int IntKind.u64 (a1 : Int), Value.int IntKind.u64 (b1 : Int)]); refine (po _).mono ?_; rintro e y ⟨rfl, hc⟩; have hbw := Bm.keepB hbw hc; have hM := Bm.kept hc hM; have hO := Bm.kept hc hO; have hA := Bm.kept hc hA; have hB := Bm.kept hc hB; have o0 := (Bm.held2 (Below.refl _ _) hO).1; have o1 := (Bm.held2 (Below.refl _ _) hO).2.1; have q0 := (Bm.held2 (Below.refl _ _) hB).1; have q1 := (Bm.held2 (Below.refl _ _) hB).2.1; clear hc)
          | (go_at_call_of 12 (Value.agg #[Value.int IntKind.u64 (A1 : Int), Value.int IntKind.u64 (A2 : Int)]); refine (pa _).mono ?_; rintro e y ⟨rfl, hc⟩; have hbw := Bm.keepB hbw hc; have hM := Bm.kept hc hM; have hO := Bm.kept hc hO; have hA := Bm.kept hc hA; have hB := Bm.kept hc hB; have o0 := (Bm.held2 (Below.refl _ _) hO).1; have o1 := (Bm.held2 (Below.refl _ _) hO).2.1; have q0 := (Bm.held2 (Below.refl _ _) hB).1; have q1 := (Bm.held2 (Below.refl _ _) hB).2.1; clear hc)
          | (go_at_call_of 12 (Value.agg #[Value.int IntKind.u64 (B1 : Int), Value.int IntKind.u64 (B2 : Int)]); refine (pb _).mono ?_; rintro e y ⟨rfl, hc⟩; have hbw := Bm.keepB hbw hc; have hM := Bm.kept hc hM; have hO := Bm.kept hc hO; have hA := Bm.kept hc hA; have hB := Bm.kept hc hB; have o0 := (Bm.held2 (Below.refl _ _) hO).1; have o1 := (Bm.held2 (Below.refl _ _) hO).2.1; have q0 := (Bm.held2 (Below.refl _ _) hB).1; have q1 := (Bm.held2 (Below.refl _ _) hB).2.1; clear hc)
          | (refine wpList_load_row rfl 26 _ rfl w.heap.size rfl _ _ _ _ (hM) Try.underlying26 rfl (zz _ _) ?_)
          | (refine wpList_load_row rfl 26 _ rfl (w.heap.size + 1) rfl _ _ _ _ (hO) Try.underlying26 rfl (zz _ _) ?_)
          | (refine wpList_load_row rfl 26 _ rfl x2.heap.size rfl _ _ _ _ (hA) Try.underlying26 rfl (zz _ _) ?_)
          | (refine wpList_load_row rfl 26 _ rfl x3.heap.size rfl _ _ _ _ (hB) Try.underlying26 rfl (zz _ _) ?_))
        exact ⟨⟨j + 1, by omega, by simp, hM, hO, hA, hB, hbw⟩, by simp only [intOf]; omega⟩
    · obtain rfl : j = 130 := by omega
      clear KM KO KA KB KhA KhB hj hj2
      go_wp2_with (first
        | (go_at_call 13; refine (pF _).mono ?_; rintro e x' ⟨rfl, rfl⟩)
        | (go_at_call_of 14 (Value.agg #[Value.int IntKind.u64 (A1 : Int), Value.int IntKind.u64 (A2 : Int)]); refine (pX _).mono ?_; rintro e x4 ⟨rfl, hc⟩; have hbw := Bm.keepB hbw hc; have hM := Bm.kept hc (hM); have hO := Bm.kept hc (hO); have hA := Bm.kept hc (hA); have hB := Bm.kept hc (hB); clear hc pX)
        | (go_at_call 15; refine (pY _).mono ?_; rintro e x5 ⟨rfl, hc⟩; have hbw := Bm.keepB (Bm.keepB hbw (Bm.below_one x4 _)) hc; have hM := Bm.kept hc (De.kept1 hM _); have hO := Bm.kept hc (De.kept1 hO _); have hA := Bm.kept hc (De.kept1 hA _); have hB := Bm.kept hc (De.kept1 hB _); have hX := Bm.kept hc (Bm.h1_0 x4 _); clear hc pY)
        | (go_at_call_of 14 (Value.agg #[Value.int IntKind.u64 (Y1 : Int), Value.int IntKind.u64 (Y2 : Int)]); refine (pZ _).mono ?_; rintro e x6 ⟨rfl, hc⟩; have hbw := Bm.keepB (Bm.keepB hbw (Bm.below_one x5 _)) hc; have hM := Bm.kept hc (De.kept1 hM _); have hO := Bm.kept hc (De.kept1 hO _); have hA := Bm.kept hc (De.kept1 hA _); have hB := Bm.kept hc (De.kept1 hB _); have hX := Bm.kept hc (De.kept1 hX _); have hY := Bm.kept hc (Bm.h1_0 x5 _); clear hc pZ)
        | (go_at_call 12; refine (pHa _).mono ?_; rintro e x7 ⟨rfl, hc⟩; have hbw := Bm.keepB (Bm.keepB hbw (Bm.below_one x6 _)) hc; have hM := Bm.kept hc (De.kept1 hM _); have hO := Bm.kept hc (De.kept1 hO _); have hA := Bm.kept hc (De.kept1 hA _); have hB := Bm.kept hc (De.kept1 hB _); have hX := Bm.kept hc (De.kept1 hX _); have hY := Bm.kept hc (De.kept1 hY _); have hZ := Bm.kept hc (Bm.h1_0 x6 _); clear hc pHa)
        | (refine wpList_load_row rfl 26 _ rfl x2.heap.size rfl _ _ _ _ (hA) Try.underlying26 rfl (zz _ _) ?_)
        | (refine wpList_load_row rfl 26 _ rfl x4.heap.size rfl _ _ _ _ (Bm.h1_0 x4 _) Try.underlying26 rfl (zz _ _) ?_)
        | (refine wpList_load_row rfl 26 _ rfl x5.heap.size rfl _ _ _ _ (Bm.h1_0 x5 _) Try.underlying26 rfl (zz _ _) ?_)
        | (refine wpList_load_row rfl 26 _ rfl x2.heap.size rfl _ _ _ _ (De.kept1 hA _) Try.underlying26 rfl (zz _ _) ?_))
      have HM2 : Hid _ := hM
      have HA2 : Hid _ := hA
      have HB2 : Hid _ := hB
      have HX2 : Hid _ := hX
      have HY2 : Hid _ := hY
      have HZ2 : Hid _ := hZ
      clear hM hO hA hB hX hY hZ
      rcases und with ⟨rfl, e1, e2⟩ | ⟨rfl, hne⟩ | ⟨rfl, e1, hne⟩
      · have e1 := e1.symm
        have e2 := e2.symm
        subst e1 e2
        refine Qc.region_cl (by kernel_rfl) (by kernel_rfl) ?_
        repeat (refine wpQuiet_step (fun K hK => ?_); first
          | (refine Qc.q_row (by rfl) 26 _ rfl w.heap.size rfl _ _ _ _ HM2.out Try.underlying26 rfl (zz _ _) (hK _ ?_); clear hK K)
          | (refine Qc.q_row (by rfl) 26 _ rfl x2.heap.size rfl _ _ _ _ HA2.out Try.underlying26 rfl (zz _ _) (hK _ ?_); clear hK K)
          | (refine Qc.q_row (by rfl) 26 _ rfl x3.heap.size rfl _ _ _ _ HB2.out Try.underlying26 rfl (zz _ _) (hK _ ?_); clear hK K)
          | (refine Qc.q_row (by rfl) 26 _ rfl x4.heap.size rfl _ _ _ _ HX2.out Try.underlying26 rfl (zz _ _) (hK _ ?_); clear hK K)
          | (refine Qc.q_row (by rfl) 26 _ rfl x5.heap.size rfl _ _ _ _ HY2.out Try.underlying26 rfl (zz _ _) (hK _ ?_); clear hK K)
          | (refine Qc.q_row (by rfl) 26 _ rfl x6.heap.size rfl _ _ _ _ HZ2.out Try.underlying26 rfl (zz _ _) (hK _ ?_); clear hK K)
          | (go_simp; apply Exists.intro; refine ⟨fun y hy => ?_, hK _ ?_⟩; (first | (go_at_call_of 16 (Value.agg #[Value.int IntKind.u64 (A1 : Int), Value.int IntKind.u64 (A2 : Int)]); exact Qc.cl_of hy (pLa y)) | (go_at_call_of 16 (Value.agg #[Value.int IntKind.u64 (B1 : Int), Value.int IntKind.u64 (B2 : Int)]); exact Qc.cl_of hy (pLb y)) | (go_at_call_of 16 (Value.agg #[Value.int IntKind.u64 (a0 : Int), Value.int IntKind.u64 (b0 : Int)]); exact Qc.cl_of hy (pLm y)) | (go_at_call_of 9 (Value.agg #[Value.int IntKind.u64 (A1 : Int), Value.int IntKind.u64 (A2 : Int)]); exact Qc.cl_of hy (pRa y)) | (go_at_call_of 9 (Value.agg #[Value.int IntKind.u64 (B1 : Int), Value.int IntKind.u64 (B2 : Int)]); exact Qc.cl_of hy (pRb y)) | (go_at_call_of 12 (Value.agg #[Value.int IntKind.u64 (X1 : Int), Value.int IntKind.u64 (X2 : Int)]); exact Qc.cl_of hy (pHx y)) | (go_at_call_of 12 (Value.agg #[Value.int IntKind.u64 (A1 : Int), Value.int IntKind.u64 (A2 : Int)]); exact Qc.cl_of hy (pHy y))); clear hK K)
          | (go_simp; refine hK _ ?_; clear hK K)
          | (go_simp; refine ⟨_, fun _ _ => rfl, hK _ ?_⟩; clear hK K)
          | (go_simp; refine ⟨_, fun _ _ => ⟨rfl, rfl⟩, hK _ ?_⟩; clear hK K))
        refine wpQuiet_nil ?_
        intro x8 h8
        go_wp2
        go_ret
        exact ⟨rfl, Bm.keepB hbw h8⟩
      · have q1 : ((Y1 : Int) == (A1 : Int)) = false := beq_eq_false_iff_ne.mpr (by omega)
        clear hne
        refine Qc.region_cl (by kernel_rfl) (by kernel_rfl) ?_
        repeat (refine wpQuiet_step (fun K hK => ?_); first
          | (refine Qc.q_row (by rfl) 26 _ rfl w.heap.size rfl _ _ _ _ HM2.out Try.underlying26 rfl (zz _ _) (hK _ ?_); clear hK K)
          | (refine Qc.q_row (by rfl) 26 _ rfl x2.heap.size rfl _ _ _ _ HA2.out Try.underlying26 rfl (zz _ _) (hK _ ?_); clear hK K)
          | (refine Qc.q_row (by rfl) 26 _ rfl x3.heap.size rfl _ _ _ _ HB2.out Try.underlying26 rfl (zz _ _) (hK _ ?_); clear hK K)
          | (refine Qc.q_row (by rfl) 26 _ rfl x4.heap.size rfl _ _ _ _ HX2.out Try.underlying26 rfl (zz _ _) (hK _ ?_); clear hK K)
          | (refine Qc.q_row (by rfl) 26 _ rfl x5.heap.size rfl _ _ _ _ HY2.out Try.underlying26 rfl (zz _ _) (hK _ ?_); clear hK K)
          | (refine Qc.q_row (by rfl) 26 _ rfl x6.heap.size rfl _ _ _ _ HZ2.out Try.underlying26 rfl (zz _ _) (hK _ ?_); clear hK K)
          | (go_simp; apply Exists.intro; refine ⟨fun y hy => ?_, hK _ ?_⟩; (first | (go_at_call_of 16 (Value.agg #[Value.int IntKind.u64 (A1 : Int), Value.int IntKind.u64 (A2 : Int)]); exact Qc.cl_of hy (pLa y)) | (go_at_call_of 16 (Value.agg #[Value.int IntKind.u64 (B1 : Int), Value.int IntKind.u64 (B2 : Int)]); exact Qc.cl_of hy (pLb y)) | (go_at_call_of 16 (Value.agg #[Value.int IntKind.u64 (a0 : Int), Value.int IntKind.u64 (b0 : Int)]); exact Qc.cl_of hy (pLm y)) | (go_at_call_of 9 (Value.agg #[Value.int IntKind.u64 (A1 : Int), Value.int IntKind.u64 (A2 : Int)]); exact Qc.cl_of hy (pRa y)) | (go_at_call_of 9 (Value.agg #[Value.int IntKind.u64 (B1 : Int), Value.int IntKind.u64 (B2 : Int)]); exact Qc.cl_of hy (pRb y)) | (go_at_call_of 12 (Value.agg #[Value.int IntKind.u64 (X1 : Int), Value.int IntKind.u64 (X2 : Int)]); exact Qc.cl_of hy (pHx y)) | (go_at_call_of 12 (Value.agg #[Value.int IntKind.u64 (Y1 : Int), Value.int IntKind.u64 (Y2 : Int)]); exact Qc.cl_of hy (pHy y))); clear hK K)
          | (go_simp; refine hK _ ?_; clear hK K)
          | (go_simp; refine ⟨_, fun _ _ => rfl, hK _ ?_⟩; clear hK K)
          | (go_simp; refine ⟨_, fun _ _ => ⟨rfl, rfl⟩, hK _ ?_⟩; clear hK K))
        refine wpQuiet_nil ?_
        intro x8 h8
        go_wp2
        go_ret
        exact ⟨rfl, Bm.keepB hbw h8⟩
      · have e1 := e1.symm
        subst e1
        have q1 : ((Y2 : Int) == (A2 : Int)) = false := beq_eq_false_iff_ne.mpr (by omega)
        clear hne
        refine Qc.region_cl (by kernel_rfl) (by kernel_rfl) ?_
        repeat (refine wpQuiet_step (fun K hK => ?_); first
          | (refine Qc.q_row (by rfl) 26 _ rfl w.heap.size rfl _ _ _ _ HM2.out Try.underlying26 rfl (zz _ _) (hK _ ?_); clear hK K)
          | (refine Qc.q_row (by rfl) 26 _ rfl x2.heap.size rfl _ _ _ _ HA2.out Try.underlying26 rfl (zz _ _) (hK _ ?_); clear hK K)
          | (refine Qc.q_row (by rfl) 26 _ rfl x3.heap.size rfl _ _ _ _ HB2.out Try.underlying26 rfl (zz _ _) (hK _ ?_); clear hK K)
          | (refine Qc.q_row (by rfl) 26 _ rfl x4.heap.size rfl _ _ _ _ HX2.out Try.underlying26 rfl (zz _ _) (hK _ ?_); clear hK K)
          | (refine Qc.q_row (by rfl) 26 _ rfl x5.heap.size rfl _ _ _ _ HY2.out Try.underlying26 rfl (zz _ _) (hK _ ?_); clear hK K)
          | (refine Qc.q_row (by rfl) 26 _ rfl x6.heap.size rfl _ _ _ _ HZ2.out Try.underlying26 rfl (zz _ _) (hK _ ?_); clear hK K)
          | (go_simp; apply Exists.intro; refine ⟨fun y hy => ?_, hK _ ?_⟩; (first | (go_at_call_of 16 (Value.agg #[Value.int IntKind.u64 (A1 : Int), Value.int IntKind.u64 (A2 : Int)]); exact Qc.cl_of hy (pLa y)) | (go_at_call_of 16 (Value.agg #[Value.int IntKind.u64 (B1 : Int), Value.int IntKind.u64 (B2 : Int)]); exact Qc.cl_of hy (pLb y)) | (go_at_call_of 16 (Value.agg #[Value.int IntKind.u64 (a0 : Int), Value.int IntKind.u64 (b0 : Int)]); exact Qc.cl_of hy (pLm y)) | (go_at_call_of 9 (Value.agg #[Value.int IntKind.u64 (A1 : Int), Value.int IntKind.u64 (A2 : Int)]); exact Qc.cl_of hy (pRa y)) | (go_at_call_of 9 (Value.agg #[Value.int IntKind.u64 (B1 : Int), Value.int IntKind.u64 (B2 : Int)]); exact Qc.cl_of hy (pRb y)) | (go_at_call_of 12 (Value.agg #[Value.int IntKind.u64 (X1 : Int), Value.int IntKind.u64 (X2 : Int)]); exact Qc.cl_of hy (pHx y)) | (go_at_call_of 12 (Value.agg #[Value.int IntKind.u64 (A1 : Int), Value.int IntKind.u64 (Y2 : Int)]); exact Qc.cl_of hy (pHy y))); clear hK K)
          | (go_simp; refine hK _ ?_; clear hK K)
          | (go_simp; refine ⟨_, fun _ _ => rfl, hK _ ?_⟩; clear hK K)
          | (go_simp; refine ⟨_, fun _ _ => ⟨rfl, rfl⟩, hK _ ?_⟩; clear hK K))
        refine wpQuiet_nil ?_
        intro x8 h8
        go_wp2
        go_ret
        exact ⟨rfl, Bm.keepB hbw h8⟩

theorem contract (H : Type) (enc : TypeId × Value → H) (W : World) (base : Nat) (args : Array Value) (ds gs : List (DataW H)) (before : List MemPlace)
    (hval : ∀ (j : Nat) t v, Try.f4.params[j]? = some t → args[j]? = some v → Value.okWide Try.prog W .any base t v)
    (hW : DataW.Whole enc Try.prog Try.f4.params.toList Rows.bitmapSetsSpec.vars false W args.toList ds gs before) :
    Calls Try.prog 4 args W fun e W' => ∃ v, e = .returned v ∧ Rows.bitmapSetsSpec.post enc Try.prog Try.f4 false true false false W args v W' := by
  have hW' := hW
  obtain ⟨p, q, hA0, hV, rfl, hfz, hnd⟩ := hW
  have hA : DataW.TrodAll enc Try.prog W 0 (fun _ => true) true Try.f4.params.toList args.toList ds p := hA0
  rw [Try.params4] at hA hval
  obtain ⟨v0, vs0, d0, ds0, p0, q0, hargs, rfl, rfl, h0, r0⟩ := trodAll_cons hA
  obtain ⟨v1, vs1, d1, ds1, p1, q1, rfl, rfl, rfl, h1, r1⟩ := trodAll_cons r0
  obtain ⟨v2, vs2, d2, ds2, p2, q2, rfl, rfl, rfl, h2, r2⟩ := trodAll_cons r1
  obtain ⟨rfl, rfl, rfl⟩ := trodAll_nil r2
  obtain rfl : args = #[v0, v1, v2] := by cases args; simp_all
  obtain ⟨rfl, rfl⟩ := trodVars_none hV
  obtain ⟨a0, b0, rfl, rfl, rfl, w0, x0⟩ := Om.open_map (hval 0 26 v0 rfl rfl) h0
  obtain ⟨a1, b1, rfl, rfl, rfl, w1, x1⟩ := Om.open_map (hval 1 26 v1 rfl rfl) h1
  obtain ⟨a2, rfl, rfl, rfl, w2⟩ := open_int Try.underlying3 (hval 2 3 v2 rfl rfl) h2
  clear hA0
  refine (walk a0 b0 a1 b1 a2 W w0 x0 w1 x1 w2).mono fun e W' ⟨he, bel⟩ => ?_
  subst he
  exact ⟨_, rfl, _, _, _, [], _, [], hW', trodAll_mk1 (shut_bool Try.underlying4 _), (trodAll_cons_mk (Om.shut_map w0 x0) (trodAll_cons_mk (Om.shut_map w1 x1) (trodAll_cons_mk (shut_int Try.underlying3 w2) trodAll_mk0))), rfl, bel.frame _, fun h => by cases h⟩

set_option maxRecDepth 100000 in
theorem lifted (os : Os) (started : os.Started) (H : Type) (enc : TypeId × Value → H) :
    ReturnsInHanded {} Try.checked os 4 .any (Rows.bitmapSetsSpec.pre6 enc Try.prog Try.f4 Rows.bitmapSetsRow.domain false) (Rows.bitmapSetsSpec.post enc Try.prog Try.f4 false true false false) := by
  refine returnsInHanded_of_change (C := Try.checked) own started (by kernel_rfl) Try.func4
    (ChangeSpec.witness6 (enc := enc) (C := Try.checked) false ⟨#[], #[.agg #[.int .u64 0, .int .u64 0], .agg #[.int .u64 0, .int .u64 0], .int .i64 0], []⟩ 8 (by kernel_rfl) (by kernel_rfl) (by kernel_rfl) (by kernel_rfl)) ?_
  intro W base args ds gs before hval hW _ _
  exact contract H enc W base args ds gs before hval hW

theorem proved : Rows.BitmapSetsSaid :=
  OpenClaim.holds_of_wide 4 Try.f4 rfl rfl rfl rfl rfl rfl rfl ⟨rfl, rfl, rfl, rfl, rfl⟩ rfl rfl rfl rfl rfl (by kernel_rfl) Try.func4 (by kernel_rfl)
    (of_decide_eq_true (by kernel_rfl)) (by unfold Func.isWrapper; first | (rw [if_pos (by decide +kernel)]; kernel_rfl) | (rw [if_neg (by decide +kernel)]; exact ⟨rfl, rfl⟩))
    (fun os started H enc _ => lifted os started H enc)
#print axioms proved
end Go.Proofs.Ytiepchghlopfnab.bitmapSets
