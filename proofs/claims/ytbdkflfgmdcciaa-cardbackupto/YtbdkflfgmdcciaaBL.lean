/- CardBack: the law out of the contracts; the frame of the row. -/
import Derived.Test.YtbdkflfgmdcciaaRows
import Derived.WalkKit
import Derived.ProofKit
import Derived.OpenShut
import Derived.ShutString
import Derived.ChangeOld
import Derived.Below
import Derived.JoinedCond
import Derived.Carry
import Derived.SizedLaws
import Derived.Test.YtbdkflfgmdcciaaKz
import Derived.Test.YtbdkflfgmdcciaaBc
namespace Go.Proofs.Ytbdkflfgmdcciaa.cardBack
open Go.ChangeShapes Go.WideShapes Go.ChangeAt Go.RowKit
open Go.ChangeMaps (open_string shut_string)
set_option linter.unusedVariables false

theorem own : ownKnob Try.prog.godebug = none := by kernel_rfl

set_option maxRecDepth 100000 in
set_option maxHeartbeats 6400000 in
theorem walk (v0 : Value) (z0 : List Int) (a1 : Int) (a2 : Int) (a3 : Int) (a4 : Int) (a5 : Int) (w : World) (w0 : Sl.Lies w v0 z0) (w1 : (Lit.int .i64 a1).wf = true) (w2 : (Lit.int .i64 a2).wf = true) (w3 : (Lit.int .i64 a3).wf = true) (w4 : (Lit.int .i64 a4).wf = true) (w5 : (Lit.int .i64 a5).wf = true) (k0 : z0.length ≤ 1048576) :
    Calls Try.prog 8 #[v0, .int .i64 a1, .int .i64 a2, .int .i64 a3, .int .i64 a4, .int .i64 a5] w fun e w' => e = .returned (.bool true) ∧ Below w.heap.size w w' := by
  have bnd : ∀ {x : Int}, (Lit.int .i64 x).wf = true → -9223372036854775808 ≤ x ∧ x ≤ 9223372036854775807 := by
    intro x h; simp [Lit.wf, IntKind.min, IntKind.max, IntKind.signed, IntKind.bits] at h; omega
  have b1 := bnd w1
  have b2 := bnd w2
  have b3 := bnd w3
  have b4 := bnd w4
  clear bnd
  have g1 := Pick.pick_lo a1 19 (by omega)
  have g2 := Pick.pick_hi a1 19 (by omega)
  obtain ⟨q, hq⟩ : ∃ q : Nat, Pick.pickOf a1 19 = (q : Int) := ⟨(Pick.pickOf a1 19).toNat, by omega⟩
  have pq := fun y => Pick.pick_any a1 19 y b1.1 b1.2 (by omega) (by omega)
  rw [hq] at g2 pq
  obtain ⟨n, Hn, hn, hn19⟩ : ∃ n : Nat, Hid (1 + q = n) ∧ (1 : Int) + q = n ∧ n ≤ 19 := ⟨1 + q, rfl, by omega, by omega⟩
  have hn1 : 1 ≤ n := by have := Hn.out; omega
  have pd := fun (m : Nat) (y : World) (h : Sl.Lies y v0 z0) (hm : m ≤ 100) => Dg.digits_raw z0 v0 m y h k0 hm
  have zA := Dg.ds_size z0 n
  have aA := Dg.ds_ad z0 n
  have pa := fun y h => pd n y h (by omega)
  generalize Dg.ds z0 n = A at *
  have zA' : (A.size : Int) = n := by omega
  clear hq g1
  by_cases s2 : a5.tmod 2 = 0
  · by_cases s3 : a5.tmod 3 = 0
    · have l1 := Pick.pick_lo a4 12 (by omega)
      have l2 := Pick.pick_hi a4 12 (by omega)
      have pm := fun y => Pick.pick_any a4 12 y b4.1 b4.2 (by omega) (by omega)
      obtain ⟨u, hu⟩ : ∃ u : Nat, Pick.pickOf a4 12 = (u : Int) := ⟨(Pick.pickOf a4 12).toNat, by omega⟩
      rw [hu] at l2 pm
      obtain ⟨m, Hm, hm⟩ : ∃ m : Nat, Hid (1 + u = m) ∧ (1 : Int) + u = m := ⟨1 + u, rfl, by omega⟩
      have l3 := Pick.pick_lo a3 100 (by omega)
      have l4 := Pick.pick_hi a3 100 (by omega)
      have py := fun y => Pick.pick_any a3 100 y b3.1 b3.2 (by omega) (by omega)
      obtain ⟨Y, hY⟩ : ∃ Y : Nat, Pick.pickOf a3 100 = (Y : Int) := ⟨(Pick.pickOf a3 100).toNat, by omega⟩
      rw [hY] at l4 py
      obtain ⟨Y1, HY1, hY1, hY2⟩ : ∃ Y1 : Nat, Hid (Y / 10 = Y1) ∧ (Y : Int) / 10 = Y1 ∧ Y1 ≤ 9 := ⟨Y / 10, rfl, by omega, by omega⟩
      obtain ⟨m1, Hm1, hm1, hm1'⟩ : ∃ m1 : Nat, Hid (m / 10 = m1) ∧ (m : Int) / 10 = m1 ∧ m1 ≤ 9 := ⟨m / 10, rfl, by omega, by have := Hm.out; omega⟩
      obtain ⟨m2, Hm2, hm2, hm2'⟩ : ∃ m2 : Nat, Hid (m % 10 = m2) ∧ (m : Int) % 10 = m2 ∧ m2 ≤ 9 := ⟨m % 10, rfl, by omega, by omega⟩
      have iM := Bc.month_ok (z := [(Y1 : Int), a3, (m1 : Int), (m2 : Int)]) rfl (by have := Hm.out; omega : 1 ≤ m) (by have := Hm.out; omega : m ≤ 12) Hm1.out Hm2.out
      have zB := Dg.ds_size [(Y1 : Int), a3, (m1 : Int), (m2 : Int)] 4
      have pb := fun (y : World) (v : Value) (h : Sl.Lies y v [(Y1 : Int), a3, (m1 : Int), (m2 : Int)]) => Dg.digits_raw [(Y1 : Int), a3, (m1 : Int), (m2 : Int)] v 4 y h (by simp) (by omega)
      generalize Dg.ds [(Y1 : Int), a3, (m1 : Int), (m2 : Int)] 4 = B at *
      have zB' : (B.size : Int) = 4 := by omega
      have nB : B.toList.isEmpty = false := by rw [Ku.tl, List.isEmpty_eq_false_iff]; intro hh; have : B.data.toList.length = 0 := by rw [hh]; rfl
                                               rw [Kp.sz] at this; omega
      clear hu l1 hY l3
      have oB : (Ku.om B).size = 4 := by rw [Kc.om_ne (by omega)]; exact zB
      have oC : (Ku.om ⟨#[]⟩).size = 1 := by rw [Kc.om_em]; rfl
      obtain ⟨rm, Hrm, hrm⟩ : ∃ rm : Nat, Hid (n + 1 + 4 + 1 + rm = 37) ∧ rm ≤ 37 := ⟨37 - (n + 1 + 4 + 1), by show _ = _; omega, by omega⟩
      obtain ⟨rs, Hrs, er2⟩ : ∃ rs : Nat, Hid (rm + 1 = rs) ∧ (rm : Int) + 1 = rs := ⟨rm + 1, rfl, by omega⟩
      have rs1 : 1 ≤ rs := by have := Hrs.out; omega
      have rs2 : rs ≤ 38 := by have := Hrs.out; omega
      have k1 := Pick.pick_lo a2 rs (by omega)
      have k2 := Pick.pick_hi a2 rs (by omega)
      have pr := fun y => Pick.pick_any a2 rs y b2.1 b2.2 (by omega) (by omega)
      obtain ⟨d, hd⟩ : ∃ d : Nat, Pick.pickOf a2 rs = (d : Int) := ⟨(Pick.pickOf a2 rs).toNat, by omega⟩
      rw [hd] at k2 pr
      have zD := Dg.ds_size z0 d
      have aD := Dg.ds_ad z0 d
      have pD := fun y h => pd d y h (by omega)
      generalize Dg.ds z0 d = D at *
      have zE := Dg.ds_size z0 rs
      have pE := fun y h => pd rs y h (by omega)
      generalize Dg.ds z0 rs = E at *
      have vd : Kc.Vd A B ⟨#[]⟩ D := Bc.back_ok zA hn1 hn19 aA (.inr iM) (.inl rfl) aD (by have := Hrm.out; have := Hrs.out; omega)
      have zc1 : (Kv.cat A B ⟨#[]⟩ D).size ≤ 37 := vd.hs
      have pw1 := fun y => Kv.write_any A B ⟨#[]⟩ D y (by omega) (by omega) (by decide) (by omega)
      rw [Bc.wt_yes vd] at pw1
      have prd := fun y => Kx.read_any (Kv.cat A B ⟨#[]⟩ D) y
      rw [Bc.rt_yes vd] at prd
      have pw2 := fun y => Kv.write_any A B ⟨#[]⟩ E y (by omega) (by omega) (by decide) (by omega)
      rw [Bc.wt_no (by rw [Kc.cat_size]; have := Hrm.out; have := Hrs.out; omega)] at pw2
      unfold Kx.trkV at pw1 pw2
      generalize Kv.cat A B ⟨#[]⟩ D = Q at *
      have zQ : ¬ (37 : Int) < Q.size := by omega
      have er1 : (37 : Int) - n - 1 - 1 - 4 = rm := by have := Hrm.out; omega
      clear vd zc1 oB oC k1 hd Hn aA aD
      clear iM Hm Hm1 Hm2 HY1
      go_enter Try.func8, Try.ntmps8
      go_wp2_with fail
      refine (Kz.examples_any _).mono ?_
      rintro e y0 ⟨rfl, h0⟩
      go_wp2_with fail
      refine (pq _).mono ?_
      rintro e y0' ⟨rfl, rfl⟩
      go_wp2_with fail
      refine (pa _ (Sl.lies_below w0 h0)).mono ?_
      rintro e y1 ⟨rfl, h1⟩
      have T0 := Kb.h1_0 y1 (Obj.cells #[.string A, .string ⟨#[]⟩, .string ⟨#[]⟩, .string ⟨#[]⟩] 33)
      have B0 := Kb.keepB (Kb.keepB h0 h1) (Kb.below_one y1 (Obj.cells #[.string A, .string ⟨#[]⟩, .string ⟨#[]⟩, .string ⟨#[]⟩] 33))
      have hT : w.heap.size ≤ y1.heap.size := (Kb.keepB h0 h1).size
      clear h0 h1
      go_wp2_with fail
      generalize y1.alloc (Obj.cells #[.string A, .string ⟨#[]⟩, .string ⟨#[]⟩, .string ⟨#[]⟩] 33) = W at *
      generalize y1.heap.size = T at *
      obtain ⟨⟨c0, c1, c2, c3⟩, ⟨f0, f1, f2, f3⟩⟩ := Kx.held4 T0
      refine (pm _).mono ?_
      rintro e z1 ⟨rfl, rfl⟩
      go_wp2_with fail
      refine (py _).mono ?_
      rintro e z2 ⟨rfl, rfl⟩
      go_wp2_with fail
      have L4 := Bc.lies4 z2 (Y1 : Int) a3 (m1 : Int) (m2 : Int) (Bc.wf_nat (by omega)) w3 (Bc.wf_nat (by omega)) (Bc.wf_nat (by omega))
      have T1 := Kx.kept1 T0 (Obj.cells #[.int .i64 (Y1 : Int), .int .i64 a3, .int .i64 (m1 : Int), .int .i64 (m2 : Int)] 3)
      have B1 := Kb.keepB B0 (Kb.below_one z2 (Obj.cells #[.int .i64 (Y1 : Int), .int .i64 a3, .int .i64 (m1 : Int), .int .i64 (m2 : Int)] 3))
      clear T0 B0
      clear c0 c1 c2 c3 f0 f1 f2 f3
      refine (pb _ _ L4).mono ?_
      rintro e z3 ⟨rfl, h3⟩
      have T0 := Kb.kept h3 T1
      have B0 := Kb.keepB B1 h3
      clear T1 B1 L4 h3
      obtain ⟨⟨c0, c1, c2, c3⟩, ⟨f0, f1, f2, f3⟩⟩ := Kx.held4 T0
      have T1 := Kt.setCell_heap T0 1 (.string B)
      have B1 := Kt.below_setCell B0 hT 1 (.string B)
      go_wp2_with fail
      generalize z3.setCell ⟨T, 1, none⟩ (.string B) = W2 at *
      change W2.heap[T]? = some (Obj.cells #[.string A, .string B, .string ⟨#[]⟩, .string ⟨#[]⟩] 33) at T1
      clear T0 B0
      clear c0 c1 c2 c3 f0 f1 f2 f3
      have T0 := T1
      have B0 := B1
      clear T1 B1
      obtain ⟨⟨c0, c1, c2, c3⟩, ⟨f0, f1, f2, f3⟩⟩ := Kx.held4 T0
      refine (pr _).mono ?_
      rintro e x2 ⟨rfl, rfl⟩
      go_wp2_with fail
      refine (pD _ (Sl.lies_below w0 B0)).mono ?_
      rintro e x3 ⟨rfl, h5⟩
      replace T0 := Kb.kept h5 T0
      replace B0 := Kb.keepB B0 h5
      clear h5
      clear c0 c1 c2 c3 f0 f1 f2 f3
      obtain ⟨⟨c0, c1, c2, c3⟩, ⟨f0, f1, f2, f3⟩⟩ := Kx.held4 T0
      have T1 := Kt.setCell_heap T0 3 (.string D)
      have B1 := Kt.below_setCell B0 hT 3 (.string D)
      change (x3.setCell ⟨T, 3, none⟩ (.string D)).heap[T]? = some (Obj.cells #[.string A, .string B, .string ⟨#[]⟩, .string D] 33) at T1
      obtain ⟨⟨c0', c1', c2', c3'⟩, ⟨f0', f1', f2', f3'⟩⟩ := Kx.held4 T1
      go_wp2_with fail
      generalize x3.setCell ⟨T, 3, none⟩ (.string D) = W4 at *
      clear T0 B0
      clear c0 c1 c2 c3 f0 f1 f2 f3
      clear c0' c1' c2' c3' f0' f1' f2' f3'
      refine (pw1 _).mono ?_
      rintro e x4 ⟨rfl, h6⟩
      have T0 := Kb.kept h6 T1
      have B0 := Kb.keepB B1 h6
      clear T1 B1 h6
      go_wp2_with fail
      refine (prd _).mono ?_
      rintro e x5 ⟨rfl, h7⟩
      have T1 := Kx.kept1 (Kb.kept h7 T0) (Obj.cells #[.string A, .string B, .string ⟨#[]⟩, .string D] 33)
      have N1 := Kb.h1_0 x5 (Obj.cells #[.string A, .string B, .string ⟨#[]⟩, .string D] 33)
      have B1 := Kb.keepB (Kb.keepB B0 h7) (Kb.below_one x5 (Obj.cells #[.string A, .string B, .string ⟨#[]⟩, .string D] 33))
      clear T0 B0 h7
      obtain ⟨⟨c0, c1, c2, c3⟩, ⟨f0, f1, f2, f3⟩⟩ := Kx.held4 T1
      obtain ⟨⟨e0, e1, e2, e3⟩, ⟨i0, i1, i2, i3⟩⟩ := Kx.held4 N1
      go_wp2_with fail
      generalize x5.alloc (Obj.cells #[.string A, .string B, .string ⟨#[]⟩, .string D] 33) = W5 at *
      refine (pE _ (Sl.lies_below w0 B1)).mono ?_
      rintro e x6 ⟨rfl, h8⟩
      have T0 := Kb.kept h8 T1
      have B0 := Kb.keepB B1 h8
      clear T1 B1 h8 c0 c1 c2 c3 f0 f1 f2 f3 e0 e1 e2 e3 i0 i1 i2 i3 N1
      obtain ⟨⟨c0, c1, c2, c3⟩, ⟨f0, f1, f2, f3⟩⟩ := Kx.held4 T0
      have T1 := Kt.setCell_heap T0 3 (.string E)
      have B1 := Kt.below_setCell B0 hT 3 (.string E)
      change (x6.setCell ⟨T, 3, none⟩ (.string E)).heap[T]? = some (Obj.cells #[.string A, .string B, .string ⟨#[]⟩, .string E] 33) at T1
      obtain ⟨⟨c0', c1', c2', c3'⟩, ⟨f0', f1', f2', f3'⟩⟩ := Kx.held4 T1
      go_wp2_with fail
      refine (pw2 _).mono ?_
      rintro e x7 ⟨rfl, h9⟩
      go_wp2
      go_ret
      exact ⟨by simp, Kb.keepB B1 h9⟩
    · have s3' : (a5.tmod 3 != 0) = true := by simpa using s3
      have l1 := Pick.pick_lo a4 12 (by omega)
      have l2 := Pick.pick_hi a4 12 (by omega)
      have pm := fun y => Pick.pick_any a4 12 y b4.1 b4.2 (by omega) (by omega)
      obtain ⟨u, hu⟩ : ∃ u : Nat, Pick.pickOf a4 12 = (u : Int) := ⟨(Pick.pickOf a4 12).toNat, by omega⟩
      rw [hu] at l2 pm
      obtain ⟨m, Hm, hm⟩ : ∃ m : Nat, Hid (1 + u = m) ∧ (1 : Int) + u = m := ⟨1 + u, rfl, by omega⟩
      have l3 := Pick.pick_lo a3 100 (by omega)
      have l4 := Pick.pick_hi a3 100 (by omega)
      have py := fun y => Pick.pick_any a3 100 y b3.1 b3.2 (by omega) (by omega)
      obtain ⟨Y, hY⟩ : ∃ Y : Nat, Pick.pickOf a3 100 = (Y : Int) := ⟨(Pick.pickOf a3 100).toNat, by omega⟩
      rw [hY] at l4 py
      obtain ⟨Y1, HY1, hY1, hY2⟩ : ∃ Y1 : Nat, Hid (Y / 10 = Y1) ∧ (Y : Int) / 10 = Y1 ∧ Y1 ≤ 9 := ⟨Y / 10, rfl, by omega, by omega⟩
      obtain ⟨m1, Hm1, hm1, hm1'⟩ : ∃ m1 : Nat, Hid (m / 10 = m1) ∧ (m : Int) / 10 = m1 ∧ m1 ≤ 9 := ⟨m / 10, rfl, by omega, by have := Hm.out; omega⟩
      obtain ⟨m2, Hm2, hm2, hm2'⟩ : ∃ m2 : Nat, Hid (m % 10 = m2) ∧ (m : Int) % 10 = m2 ∧ m2 ≤ 9 := ⟨m % 10, rfl, by omega, by omega⟩
      have iM := Bc.month_ok (z := [(Y1 : Int), a3, (m1 : Int), (m2 : Int)]) rfl (by have := Hm.out; omega : 1 ≤ m) (by have := Hm.out; omega : m ≤ 12) Hm1.out Hm2.out
      have zB := Dg.ds_size [(Y1 : Int), a3, (m1 : Int), (m2 : Int)] 4
      have pb := fun (y : World) (v : Value) (h : Sl.Lies y v [(Y1 : Int), a3, (m1 : Int), (m2 : Int)]) => Dg.digits_raw [(Y1 : Int), a3, (m1 : Int), (m2 : Int)] v 4 y h (by simp) (by omega)
      generalize Dg.ds [(Y1 : Int), a3, (m1 : Int), (m2 : Int)] 4 = B at *
      have zB' : (B.size : Int) = 4 := by omega
      have nB : B.toList.isEmpty = false := by rw [Ku.tl, List.isEmpty_eq_false_iff]; intro hh; have : B.data.toList.length = 0 := by rw [hh]; rfl
                                               rw [Kp.sz] at this; omega
      clear hu l1 hY l3
      have zC := Dg.ds_size z0 3
      have aC := Dg.ds_ad z0 3
      have pc := fun y h => pd 3 y h (by omega)
      generalize Dg.ds z0 3 = C at *
      have zC' : (C.size : Int) = 3 := by omega
      have nC : C.toList.isEmpty = false := by rw [Ku.tl, List.isEmpty_eq_false_iff]; intro hh; have : C.data.toList.length = 0 := by rw [hh]; rfl
                                               rw [Kp.sz] at this; omega
      have oB : (Ku.om B).size = 4 := by rw [Kc.om_ne (by omega)]; exact zB
      have oC : (Ku.om C).size = 3 := by rw [Kc.om_ne (by omega)]; exact zC
      obtain ⟨rm, Hrm, hrm⟩ : ∃ rm : Nat, Hid (n + 1 + 4 + 3 + rm = 37) ∧ rm ≤ 37 := ⟨37 - (n + 1 + 4 + 3), by show _ = _; omega, by omega⟩
      obtain ⟨rs, Hrs, er2⟩ : ∃ rs : Nat, Hid (rm + 1 = rs) ∧ (rm : Int) + 1 = rs := ⟨rm + 1, rfl, by omega⟩
      have rs1 : 1 ≤ rs := by have := Hrs.out; omega
      have rs2 : rs ≤ 38 := by have := Hrs.out; omega
      have k1 := Pick.pick_lo a2 rs (by omega)
      have k2 := Pick.pick_hi a2 rs (by omega)
      have pr := fun y => Pick.pick_any a2 rs y b2.1 b2.2 (by omega) (by omega)
      obtain ⟨d, hd⟩ : ∃ d : Nat, Pick.pickOf a2 rs = (d : Int) := ⟨(Pick.pickOf a2 rs).toNat, by omega⟩
      rw [hd] at k2 pr
      have zD := Dg.ds_size z0 d
      have aD := Dg.ds_ad z0 d
      have pD := fun y h => pd d y h (by omega)
      generalize Dg.ds z0 d = D at *
      have zE := Dg.ds_size z0 rs
      have pE := fun y h => pd rs y h (by omega)
      generalize Dg.ds z0 rs = E at *
      have vd : Kc.Vd A B C D := Bc.back_ok zA hn1 hn19 aA (.inr iM) (.inr ⟨zC, aC⟩) aD (by have := Hrm.out; have := Hrs.out; omega)
      have zc1 : (Kv.cat A B C D).size ≤ 37 := vd.hs
      have pw1 := fun y => Kv.write_any A B C D y (by omega) (by omega) (by omega) (by omega)
      rw [Bc.wt_yes vd] at pw1
      have prd := fun y => Kx.read_any (Kv.cat A B C D) y
      rw [Bc.rt_yes vd] at prd
      have pw2 := fun y => Kv.write_any A B C E y (by omega) (by omega) (by omega) (by omega)
      rw [Bc.wt_no (by rw [Kc.cat_size]; have := Hrm.out; have := Hrs.out; omega)] at pw2
      unfold Kx.trkV at pw1 pw2
      generalize Kv.cat A B C D = Q at *
      have zQ : ¬ (37 : Int) < Q.size := by omega
      have er1 : (37 : Int) - n - 1 - 4 - 3 = rm := by have := Hrm.out; omega
      clear vd zc1 oB oC k1 hd Hn aA aD
      clear iM Hm Hm1 Hm2 HY1
      go_enter Try.func8, Try.ntmps8
      go_wp2_with fail
      refine (Kz.examples_any _).mono ?_
      rintro e y0 ⟨rfl, h0⟩
      go_wp2_with fail
      refine (pq _).mono ?_
      rintro e y0' ⟨rfl, rfl⟩
      go_wp2_with fail
      refine (pa _ (Sl.lies_below w0 h0)).mono ?_
      rintro e y1 ⟨rfl, h1⟩
      have T0 := Kb.h1_0 y1 (Obj.cells #[.string A, .string ⟨#[]⟩, .string ⟨#[]⟩, .string ⟨#[]⟩] 33)
      have B0 := Kb.keepB (Kb.keepB h0 h1) (Kb.below_one y1 (Obj.cells #[.string A, .string ⟨#[]⟩, .string ⟨#[]⟩, .string ⟨#[]⟩] 33))
      have hT : w.heap.size ≤ y1.heap.size := (Kb.keepB h0 h1).size
      clear h0 h1
      go_wp2_with fail
      generalize y1.alloc (Obj.cells #[.string A, .string ⟨#[]⟩, .string ⟨#[]⟩, .string ⟨#[]⟩] 33) = W at *
      generalize y1.heap.size = T at *
      obtain ⟨⟨c0, c1, c2, c3⟩, ⟨f0, f1, f2, f3⟩⟩ := Kx.held4 T0
      refine (pm _).mono ?_
      rintro e z1 ⟨rfl, rfl⟩
      go_wp2_with fail
      refine (py _).mono ?_
      rintro e z2 ⟨rfl, rfl⟩
      go_wp2_with fail
      have L4 := Bc.lies4 z2 (Y1 : Int) a3 (m1 : Int) (m2 : Int) (Bc.wf_nat (by omega)) w3 (Bc.wf_nat (by omega)) (Bc.wf_nat (by omega))
      have T1 := Kx.kept1 T0 (Obj.cells #[.int .i64 (Y1 : Int), .int .i64 a3, .int .i64 (m1 : Int), .int .i64 (m2 : Int)] 3)
      have B1 := Kb.keepB B0 (Kb.below_one z2 (Obj.cells #[.int .i64 (Y1 : Int), .int .i64 a3, .int .i64 (m1 : Int), .int .i64 (m2 : Int)] 3))
      clear T0 B0
      clear c0 c1 c2 c3 f0 f1 f2 f3
      refine (pb _ _ L4).mono ?_
      rintro e z3 ⟨rfl, h3⟩
      have T0 := Kb.kept h3 T1
      have B0 := Kb.keepB B1 h3
      clear T1 B1 L4 h3
      obtain ⟨⟨c0, c1, c2, c3⟩, ⟨f0, f1, f2, f3⟩⟩ := Kx.held4 T0
      have T1 := Kt.setCell_heap T0 1 (.string B)
      have B1 := Kt.below_setCell B0 hT 1 (.string B)
      go_wp2_with fail
      generalize z3.setCell ⟨T, 1, none⟩ (.string B) = W2 at *
      change W2.heap[T]? = some (Obj.cells #[.string A, .string B, .string ⟨#[]⟩, .string ⟨#[]⟩] 33) at T1
      clear T0 B0
      clear c0 c1 c2 c3 f0 f1 f2 f3
      have T0 := T1
      have B0 := B1
      clear T1 B1
      obtain ⟨⟨c0, c1, c2, c3⟩, ⟨f0, f1, f2, f3⟩⟩ := Kx.held4 T0
      refine (pc _ (Sl.lies_below w0 B0)).mono ?_
      rintro e x1 ⟨rfl, h4⟩
      replace T0 := Kb.kept h4 T0
      replace B0 := Kb.keepB B0 h4
      clear h4
      clear c0 c1 c2 c3 f0 f1 f2 f3
      obtain ⟨⟨c0, c1, c2, c3⟩, ⟨f0, f1, f2, f3⟩⟩ := Kx.held4 T0
      have T1 := Kt.setCell_heap T0 2 (.string C)
      have B1 := Kt.below_setCell B0 hT 2 (.string C)
      change (x1.setCell ⟨T, 2, none⟩ (.string C)).heap[T]? = some (Obj.cells #[.string A, .string B, .string C, .string ⟨#[]⟩] 33) at T1
      obtain ⟨⟨c0', c1', c2', c3'⟩, ⟨f0', f1', f2', f3'⟩⟩ := Kx.held4 T1
      go_wp2_with fail
      generalize x1.setCell ⟨T, 2, none⟩ (.string C) = W3 at *
      clear T0 B0
      clear c0 c1 c2 c3 f0 f1 f2 f3
      clear c0' c1' c2' c3' f0' f1' f2' f3'
      have T0 := T1
      have B0 := B1
      clear T1 B1
      obtain ⟨⟨c0, c1, c2, c3⟩, ⟨f0, f1, f2, f3⟩⟩ := Kx.held4 T0
      refine (pr _).mono ?_
      rintro e x2 ⟨rfl, rfl⟩
      go_wp2_with fail
      refine (pD _ (Sl.lies_below w0 B0)).mono ?_
      rintro e x3 ⟨rfl, h5⟩
      replace T0 := Kb.kept h5 T0
      replace B0 := Kb.keepB B0 h5
      clear h5
      clear c0 c1 c2 c3 f0 f1 f2 f3
      obtain ⟨⟨c0, c1, c2, c3⟩, ⟨f0, f1, f2, f3⟩⟩ := Kx.held4 T0
      have T1 := Kt.setCell_heap T0 3 (.string D)
      have B1 := Kt.below_setCell B0 hT 3 (.string D)
      change (x3.setCell ⟨T, 3, none⟩ (.string D)).heap[T]? = some (Obj.cells #[.string A, .string B, .string C, .string D] 33) at T1
      obtain ⟨⟨c0', c1', c2', c3'⟩, ⟨f0', f1', f2', f3'⟩⟩ := Kx.held4 T1
      go_wp2_with fail
      generalize x3.setCell ⟨T, 3, none⟩ (.string D) = W4 at *
      clear T0 B0
      clear c0 c1 c2 c3 f0 f1 f2 f3
      clear c0' c1' c2' c3' f0' f1' f2' f3'
      refine (pw1 _).mono ?_
      rintro e x4 ⟨rfl, h6⟩
      have T0 := Kb.kept h6 T1
      have B0 := Kb.keepB B1 h6
      clear T1 B1 h6
      go_wp2_with fail
      refine (prd _).mono ?_
      rintro e x5 ⟨rfl, h7⟩
      have T1 := Kx.kept1 (Kb.kept h7 T0) (Obj.cells #[.string A, .string B, .string C, .string D] 33)
      have N1 := Kb.h1_0 x5 (Obj.cells #[.string A, .string B, .string C, .string D] 33)
      have B1 := Kb.keepB (Kb.keepB B0 h7) (Kb.below_one x5 (Obj.cells #[.string A, .string B, .string C, .string D] 33))
      clear T0 B0 h7
      obtain ⟨⟨c0, c1, c2, c3⟩, ⟨f0, f1, f2, f3⟩⟩ := Kx.held4 T1
      obtain ⟨⟨e0, e1, e2, e3⟩, ⟨i0, i1, i2, i3⟩⟩ := Kx.held4 N1
      go_wp2_with fail
      generalize x5.alloc (Obj.cells #[.string A, .string B, .string C, .string D] 33) = W5 at *
      refine (pE _ (Sl.lies_below w0 B1)).mono ?_
      rintro e x6 ⟨rfl, h8⟩
      have T0 := Kb.kept h8 T1
      have B0 := Kb.keepB B1 h8
      clear T1 B1 h8 c0 c1 c2 c3 f0 f1 f2 f3 e0 e1 e2 e3 i0 i1 i2 i3 N1
      obtain ⟨⟨c0, c1, c2, c3⟩, ⟨f0, f1, f2, f3⟩⟩ := Kx.held4 T0
      have T1 := Kt.setCell_heap T0 3 (.string E)
      have B1 := Kt.below_setCell B0 hT 3 (.string E)
      change (x6.setCell ⟨T, 3, none⟩ (.string E)).heap[T]? = some (Obj.cells #[.string A, .string B, .string C, .string E] 33) at T1
      obtain ⟨⟨c0', c1', c2', c3'⟩, ⟨f0', f1', f2', f3'⟩⟩ := Kx.held4 T1
      go_wp2_with fail
      refine (pw2 _).mono ?_
      rintro e x7 ⟨rfl, h9⟩
      go_wp2
      go_ret
      exact ⟨by simp, Kb.keepB B1 h9⟩
  · have s2' : (a5.tmod 2 == 0) = false := by simpa using s2
    by_cases s3 : a5.tmod 3 = 0
    · have oB : (Ku.om ⟨#[]⟩).size = 1 := by rw [Kc.om_em]; rfl
      have oC : (Ku.om ⟨#[]⟩).size = 1 := by rw [Kc.om_em]; rfl
      obtain ⟨rm, Hrm, hrm⟩ : ∃ rm : Nat, Hid (n + 1 + 1 + 1 + rm = 37) ∧ rm ≤ 37 := ⟨37 - (n + 1 + 1 + 1), by show _ = _; omega, by omega⟩
      obtain ⟨rs, Hrs, er2⟩ : ∃ rs : Nat, Hid (rm + 1 = rs) ∧ (rm : Int) + 1 = rs := ⟨rm + 1, rfl, by omega⟩
      have rs1 : 1 ≤ rs := by have := Hrs.out; omega
      have rs2 : rs ≤ 38 := by have := Hrs.out; omega
      have k1 := Pick.pick_lo a2 rs (by omega)
      have k2 := Pick.pick_hi a2 rs (by omega)
      have pr := fun y => Pick.pick_any a2 rs y b2.1 b2.2 (by omega) (by omega)
      obtain ⟨d, hd⟩ : ∃ d : Nat, Pick.pickOf a2 rs = (d : Int) := ⟨(Pick.pickOf a2 rs).toNat, by omega⟩
      rw [hd] at k2 pr
      have zD := Dg.ds_size z0 d
      have aD := Dg.ds_ad z0 d
      have pD := fun y h => pd d y h (by omega)
      generalize Dg.ds z0 d = D at *
      have zE := Dg.ds_size z0 rs
      have pE := fun y h => pd rs y h (by omega)
      generalize Dg.ds z0 rs = E at *
      have vd : Kc.Vd A ⟨#[]⟩ ⟨#[]⟩ D := Bc.back_ok zA hn1 hn19 aA (.inl rfl) (.inl rfl) aD (by have := Hrm.out; have := Hrs.out; omega)
      have zc1 : (Kv.cat A ⟨#[]⟩ ⟨#[]⟩ D).size ≤ 37 := vd.hs
      have pw1 := fun y => Kv.write_any A ⟨#[]⟩ ⟨#[]⟩ D y (by omega) (by decide) (by decide) (by omega)
      rw [Bc.wt_yes vd] at pw1
      have prd := fun y => Kx.read_any (Kv.cat A ⟨#[]⟩ ⟨#[]⟩ D) y
      rw [Bc.rt_yes vd] at prd
      have pw2 := fun y => Kv.write_any A ⟨#[]⟩ ⟨#[]⟩ E y (by omega) (by decide) (by decide) (by omega)
      rw [Bc.wt_no (by rw [Kc.cat_size]; have := Hrm.out; have := Hrs.out; omega)] at pw2
      unfold Kx.trkV at pw1 pw2
      generalize Kv.cat A ⟨#[]⟩ ⟨#[]⟩ D = Q at *
      have zQ : ¬ (37 : Int) < Q.size := by omega
      have er1 : (37 : Int) - n - 1 - 1 - 1 = rm := by have := Hrm.out; omega
      clear vd zc1 oB oC k1 hd Hn aA aD
      go_enter Try.func8, Try.ntmps8
      go_wp2_with fail
      refine (Kz.examples_any _).mono ?_
      rintro e y0 ⟨rfl, h0⟩
      go_wp2_with fail
      refine (pq _).mono ?_
      rintro e y0' ⟨rfl, rfl⟩
      go_wp2_with fail
      refine (pa _ (Sl.lies_below w0 h0)).mono ?_
      rintro e y1 ⟨rfl, h1⟩
      have T0 := Kb.h1_0 y1 (Obj.cells #[.string A, .string ⟨#[]⟩, .string ⟨#[]⟩, .string ⟨#[]⟩] 33)
      have B0 := Kb.keepB (Kb.keepB h0 h1) (Kb.below_one y1 (Obj.cells #[.string A, .string ⟨#[]⟩, .string ⟨#[]⟩, .string ⟨#[]⟩] 33))
      have hT : w.heap.size ≤ y1.heap.size := (Kb.keepB h0 h1).size
      clear h0 h1
      go_wp2_with fail
      generalize y1.alloc (Obj.cells #[.string A, .string ⟨#[]⟩, .string ⟨#[]⟩, .string ⟨#[]⟩] 33) = W at *
      generalize y1.heap.size = T at *
      obtain ⟨⟨c0, c1, c2, c3⟩, ⟨f0, f1, f2, f3⟩⟩ := Kx.held4 T0
      refine (pr _).mono ?_
      rintro e x2 ⟨rfl, rfl⟩
      go_wp2_with fail
      refine (pD _ (Sl.lies_below w0 B0)).mono ?_
      rintro e x3 ⟨rfl, h5⟩
      replace T0 := Kb.kept h5 T0
      replace B0 := Kb.keepB B0 h5
      clear h5
      clear c0 c1 c2 c3 f0 f1 f2 f3
      obtain ⟨⟨c0, c1, c2, c3⟩, ⟨f0, f1, f2, f3⟩⟩ := Kx.held4 T0
      have T1 := Kt.setCell_heap T0 3 (.string D)
      have B1 := Kt.below_setCell B0 hT 3 (.string D)
      change (x3.setCell ⟨T, 3, none⟩ (.string D)).heap[T]? = some (Obj.cells #[.string A, .string ⟨#[]⟩, .string ⟨#[]⟩, .string D] 33) at T1
      obtain ⟨⟨c0', c1', c2', c3'⟩, ⟨f0', f1', f2', f3'⟩⟩ := Kx.held4 T1
      go_wp2_with fail
      generalize x3.setCell ⟨T, 3, none⟩ (.string D) = W4 at *
      clear T0 B0
      clear c0 c1 c2 c3 f0 f1 f2 f3
      clear c0' c1' c2' c3' f0' f1' f2' f3'
      refine (pw1 _).mono ?_
      rintro e x4 ⟨rfl, h6⟩
      have T0 := Kb.kept h6 T1
      have B0 := Kb.keepB B1 h6
      clear T1 B1 h6
      go_wp2_with fail
      refine (prd _).mono ?_
      rintro e x5 ⟨rfl, h7⟩
      have T1 := Kx.kept1 (Kb.kept h7 T0) (Obj.cells #[.string A, .string ⟨#[]⟩, .string ⟨#[]⟩, .string D] 33)
      have N1 := Kb.h1_0 x5 (Obj.cells #[.string A, .string ⟨#[]⟩, .string ⟨#[]⟩, .string D] 33)
      have B1 := Kb.keepB (Kb.keepB B0 h7) (Kb.below_one x5 (Obj.cells #[.string A, .string ⟨#[]⟩, .string ⟨#[]⟩, .string D] 33))
      clear T0 B0 h7
      obtain ⟨⟨c0, c1, c2, c3⟩, ⟨f0, f1, f2, f3⟩⟩ := Kx.held4 T1
      obtain ⟨⟨e0, e1, e2, e3⟩, ⟨i0, i1, i2, i3⟩⟩ := Kx.held4 N1
      go_wp2_with fail
      generalize x5.alloc (Obj.cells #[.string A, .string ⟨#[]⟩, .string ⟨#[]⟩, .string D] 33) = W5 at *
      refine (pE _ (Sl.lies_below w0 B1)).mono ?_
      rintro e x6 ⟨rfl, h8⟩
      have T0 := Kb.kept h8 T1
      have B0 := Kb.keepB B1 h8
      clear T1 B1 h8 c0 c1 c2 c3 f0 f1 f2 f3 e0 e1 e2 e3 i0 i1 i2 i3 N1
      obtain ⟨⟨c0, c1, c2, c3⟩, ⟨f0, f1, f2, f3⟩⟩ := Kx.held4 T0
      have T1 := Kt.setCell_heap T0 3 (.string E)
      have B1 := Kt.below_setCell B0 hT 3 (.string E)
      change (x6.setCell ⟨T, 3, none⟩ (.string E)).heap[T]? = some (Obj.cells #[.string A, .string ⟨#[]⟩, .string ⟨#[]⟩, .string E] 33) at T1
      obtain ⟨⟨c0', c1', c2', c3'⟩, ⟨f0', f1', f2', f3'⟩⟩ := Kx.held4 T1
      go_wp2_with fail
      refine (pw2 _).mono ?_
      rintro e x7 ⟨rfl, h9⟩
      go_wp2
      go_ret
      exact ⟨by simp, Kb.keepB B1 h9⟩
    · have s3' : (a5.tmod 3 != 0) = true := by simpa using s3
      have zC := Dg.ds_size z0 3
      have aC := Dg.ds_ad z0 3
      have pc := fun y h => pd 3 y h (by omega)
      generalize Dg.ds z0 3 = C at *
      have zC' : (C.size : Int) = 3 := by omega
      have nC : C.toList.isEmpty = false := by rw [Ku.tl, List.isEmpty_eq_false_iff]; intro hh; have : C.data.toList.length = 0 := by rw [hh]; rfl
                                               rw [Kp.sz] at this; omega
      have oB : (Ku.om ⟨#[]⟩).size = 1 := by rw [Kc.om_em]; rfl
      have oC : (Ku.om C).size = 3 := by rw [Kc.om_ne (by omega)]; exact zC
      obtain ⟨rm, Hrm, hrm⟩ : ∃ rm : Nat, Hid (n + 1 + 1 + 3 + rm = 37) ∧ rm ≤ 37 := ⟨37 - (n + 1 + 1 + 3), by show _ = _; omega, by omega⟩
      obtain ⟨rs, Hrs, er2⟩ : ∃ rs : Nat, Hid (rm + 1 = rs) ∧ (rm : Int) + 1 = rs := ⟨rm + 1, rfl, by omega⟩
      have rs1 : 1 ≤ rs := by have := Hrs.out; omega
      have rs2 : rs ≤ 38 := by have := Hrs.out; omega
      have k1 := Pick.pick_lo a2 rs (by omega)
      have k2 := Pick.pick_hi a2 rs (by omega)
      have pr := fun y => Pick.pick_any a2 rs y b2.1 b2.2 (by omega) (by omega)
      obtain ⟨d, hd⟩ : ∃ d : Nat, Pick.pickOf a2 rs = (d : Int) := ⟨(Pick.pickOf a2 rs).toNat, by omega⟩
      rw [hd] at k2 pr
      have zD := Dg.ds_size z0 d
      have aD := Dg.ds_ad z0 d
      have pD := fun y h => pd d y h (by omega)
      generalize Dg.ds z0 d = D at *
      have zE := Dg.ds_size z0 rs
      have pE := fun y h => pd rs y h (by omega)
      generalize Dg.ds z0 rs = E at *
      have vd : Kc.Vd A ⟨#[]⟩ C D := Bc.back_ok zA hn1 hn19 aA (.inl rfl) (.inr ⟨zC, aC⟩) aD (by have := Hrm.out; have := Hrs.out; omega)
      have zc1 : (Kv.cat A ⟨#[]⟩ C D).size ≤ 37 := vd.hs
      have pw1 := fun y => Kv.write_any A ⟨#[]⟩ C D y (by omega) (by decide) (by omega) (by omega)
      rw [Bc.wt_yes vd] at pw1
      have prd := fun y => Kx.read_any (Kv.cat A ⟨#[]⟩ C D) y
      rw [Bc.rt_yes vd] at prd
      have pw2 := fun y => Kv.write_any A ⟨#[]⟩ C E y (by omega) (by decide) (by omega) (by omega)
      rw [Bc.wt_no (by rw [Kc.cat_size]; have := Hrm.out; have := Hrs.out; omega)] at pw2
      unfold Kx.trkV at pw1 pw2
      generalize Kv.cat A ⟨#[]⟩ C D = Q at *
      have zQ : ¬ (37 : Int) < Q.size := by omega
      have er1 : (37 : Int) - n - 1 - 1 - 3 = rm := by have := Hrm.out; omega
      clear vd zc1 oB oC k1 hd Hn aA aD
      go_enter Try.func8, Try.ntmps8
      go_wp2_with fail
      refine (Kz.examples_any _).mono ?_
      rintro e y0 ⟨rfl, h0⟩
      go_wp2_with fail
      refine (pq _).mono ?_
      rintro e y0' ⟨rfl, rfl⟩
      go_wp2_with fail
      refine (pa _ (Sl.lies_below w0 h0)).mono ?_
      rintro e y1 ⟨rfl, h1⟩
      have T0 := Kb.h1_0 y1 (Obj.cells #[.string A, .string ⟨#[]⟩, .string ⟨#[]⟩, .string ⟨#[]⟩] 33)
      have B0 := Kb.keepB (Kb.keepB h0 h1) (Kb.below_one y1 (Obj.cells #[.string A, .string ⟨#[]⟩, .string ⟨#[]⟩, .string ⟨#[]⟩] 33))
      have hT : w.heap.size ≤ y1.heap.size := (Kb.keepB h0 h1).size
      clear h0 h1
      go_wp2_with fail
      generalize y1.alloc (Obj.cells #[.string A, .string ⟨#[]⟩, .string ⟨#[]⟩, .string ⟨#[]⟩] 33) = W at *
      generalize y1.heap.size = T at *
      obtain ⟨⟨c0, c1, c2, c3⟩, ⟨f0, f1, f2, f3⟩⟩ := Kx.held4 T0
      refine (pc _ (Sl.lies_below w0 B0)).mono ?_
      rintro e x1 ⟨rfl, h4⟩
      replace T0 := Kb.kept h4 T0
      replace B0 := Kb.keepB B0 h4
      clear h4
      clear c0 c1 c2 c3 f0 f1 f2 f3
      obtain ⟨⟨c0, c1, c2, c3⟩, ⟨f0, f1, f2, f3⟩⟩ := Kx.held4 T0
      have T1 := Kt.setCell_heap T0 2 (.string C)
      have B1 := Kt.below_setCell B0 hT 2 (.string C)
      change (x1.setCell ⟨T, 2, none⟩ (.string C)).heap[T]? = some (Obj.cells #[.string A, .string ⟨#[]⟩, .string C, .string ⟨#[]⟩] 33) at T1
      obtain ⟨⟨c0', c1', c2', c3'⟩, ⟨f0', f1', f2', f3'⟩⟩ := Kx.held4 T1
      go_wp2_with fail
      generalize x1.setCell ⟨T, 2, none⟩ (.string C) = W3 at *
      clear T0 B0
      clear c0 c1 c2 c3 f0 f1 f2 f3
      clear c0' c1' c2' c3' f0' f1' f2' f3'
      have T0 := T1
      have B0 := B1
      clear T1 B1
      obtain ⟨⟨c0, c1, c2, c3⟩, ⟨f0, f1, f2, f3⟩⟩ := Kx.held4 T0
      refine (pr _).mono ?_
      rintro e x2 ⟨rfl, rfl⟩
      go_wp2_with fail
      refine (pD _ (Sl.lies_below w0 B0)).mono ?_
      rintro e x3 ⟨rfl, h5⟩
      replace T0 := Kb.kept h5 T0
      replace B0 := Kb.keepB B0 h5
      clear h5
      clear c0 c1 c2 c3 f0 f1 f2 f3
      obtain ⟨⟨c0, c1, c2, c3⟩, ⟨f0, f1, f2, f3⟩⟩ := Kx.held4 T0
      have T1 := Kt.setCell_heap T0 3 (.string D)
      have B1 := Kt.below_setCell B0 hT 3 (.string D)
      change (x3.setCell ⟨T, 3, none⟩ (.string D)).heap[T]? = some (Obj.cells #[.string A, .string ⟨#[]⟩, .string C, .string D] 33) at T1
      obtain ⟨⟨c0', c1', c2', c3'⟩, ⟨f0', f1', f2', f3'⟩⟩ := Kx.held4 T1
      go_wp2_with fail
      generalize x3.setCell ⟨T, 3, none⟩ (.string D) = W4 at *
      clear T0 B0
      clear c0 c1 c2 c3 f0 f1 f2 f3
      clear c0' c1' c2' c3' f0' f1' f2' f3'
      refine (pw1 _).mono ?_
      rintro e x4 ⟨rfl, h6⟩
      have T0 := Kb.kept h6 T1
      have B0 := Kb.keepB B1 h6
      clear T1 B1 h6
      go_wp2_with fail
      refine (prd _).mono ?_
      rintro e x5 ⟨rfl, h7⟩
      have T1 := Kx.kept1 (Kb.kept h7 T0) (Obj.cells #[.string A, .string ⟨#[]⟩, .string C, .string D] 33)
      have N1 := Kb.h1_0 x5 (Obj.cells #[.string A, .string ⟨#[]⟩, .string C, .string D] 33)
      have B1 := Kb.keepB (Kb.keepB B0 h7) (Kb.below_one x5 (Obj.cells #[.string A, .string ⟨#[]⟩, .string C, .string D] 33))
      clear T0 B0 h7
      obtain ⟨⟨c0, c1, c2, c3⟩, ⟨f0, f1, f2, f3⟩⟩ := Kx.held4 T1
      obtain ⟨⟨e0, e1, e2, e3⟩, ⟨i0, i1, i2, i3⟩⟩ := Kx.held4 N1
      go_wp2_with fail
      generalize x5.alloc (Obj.cells #[.string A, .string ⟨#[]⟩, .string C, .string D] 33) = W5 at *
      refine (pE _ (Sl.lies_below w0 B1)).mono ?_
      rintro e x6 ⟨rfl, h8⟩
      have T0 := Kb.kept h8 T1
      have B0 := Kb.keepB B1 h8
      clear T1 B1 h8 c0 c1 c2 c3 f0 f1 f2 f3 e0 e1 e2 e3 i0 i1 i2 i3 N1
      obtain ⟨⟨c0, c1, c2, c3⟩, ⟨f0, f1, f2, f3⟩⟩ := Kx.held4 T0
      have T1 := Kt.setCell_heap T0 3 (.string E)
      have B1 := Kt.below_setCell B0 hT 3 (.string E)
      change (x6.setCell ⟨T, 3, none⟩ (.string E)).heap[T]? = some (Obj.cells #[.string A, .string ⟨#[]⟩, .string C, .string E] 33) at T1
      obtain ⟨⟨c0', c1', c2', c3'⟩, ⟨f0', f1', f2', f3'⟩⟩ := Kx.held4 T1
      go_wp2_with fail
      refine (pw2 _).mono ?_
      rintro e x7 ⟨rfl, h9⟩
      go_wp2
      go_ret
      exact ⟨by simp, Kb.keepB B1 h9⟩

set_option maxRecDepth 100000 in
theorem contract (H : Type) (enc : TypeId × Value → H) (W : World) (base : Nat) (args : Array Value) (ds gs : List (DataW H)) (before : List MemPlace)
    (hval : ∀ (j : Nat) t v, Try.f8.params[j]? = some t → args[j]? = some v → Value.okWide Try.prog W .any base t v)
    (hW : DataW.Whole enc Try.prog Try.f8.params.toList Rows.cardBackSpec.vars false W args.toList ds gs before) (hk : Rows.uptoSmall H (ds ++ gs) = true) :
    Calls Try.prog 8 args W fun e W' => ∃ v, e = .returned v ∧ Rows.cardBackSpec.post enc Try.prog Try.f8 false true false false W args v W' := by
  have hW' := hW
  obtain ⟨p, q, hA0, hV, rfl, hfz, hnd⟩ := hW
  have hA : DataW.TrodAll enc Try.prog W 0 (fun _ => true) true Try.f8.params.toList args.toList ds p := hA0
  rw [Try.params8] at hA hval
  obtain ⟨v0, vs0, d0, ds0, p0, q0, hargs, rfl, rfl, h0, r0⟩ := trodAll_cons hA
  obtain ⟨v1, vs1, d1, ds1, p1, q1, rfl, rfl, rfl, h1, r1⟩ := trodAll_cons r0
  obtain ⟨v2, vs2, d2, ds2, p2, q2, rfl, rfl, rfl, h2, r2⟩ := trodAll_cons r1
  obtain ⟨v3, vs3, d3, ds3, p3, q3, rfl, rfl, rfl, h3, r3⟩ := trodAll_cons r2
  obtain ⟨v4, vs4, d4, ds4, p4, q4, rfl, rfl, rfl, h4, r4⟩ := trodAll_cons r3
  obtain ⟨v5, vs5, d5, ds5, p5, q5, rfl, rfl, rfl, h5, r5⟩ := trodAll_cons r4
  obtain ⟨rfl, rfl, rfl⟩ := trodAll_nil r5
  obtain rfl : args = #[v0, v1, v2, v3, v4, v5] := by cases args; simp_all
  obtain ⟨rfl, rfl⟩ := trodVars_none hV
  obtain ⟨z0, w0, lt0, bulk0⟩ := Sl.open_sl (hval 0 49 v0 rfl rfl) h0
  obtain ⟨a1, rfl, rfl, rfl, w1⟩ := open_int Try.underlying3 (hval 1 3 v1 rfl rfl) h1
  obtain ⟨a2, rfl, rfl, rfl, w2⟩ := open_int Try.underlying3 (hval 2 3 v2 rfl rfl) h2
  obtain ⟨a3, rfl, rfl, rfl, w3⟩ := open_int Try.underlying3 (hval 3 3 v3 rfl rfl) h3
  obtain ⟨a4, rfl, rfl, rfl, w4⟩ := open_int Try.underlying3 (hval 4 3 v4 rfl rfl) h4
  obtain ⟨a5, rfl, rfl, rfl, w5⟩ := open_int Try.underlying3 (hval 5 3 v5 rfl rfl) h5
  clear hA0
  simp only [List.append_nil] at hk
  have hk1 := of_decide_eq_true hk
  simp only [Rows.uptoBulkAll] at hk1
  have e0 := bulk0
  refine (walk v0 z0 a1 a2 a3 a4 a5 W w0 w1 w2 w3 w4 w5 (by omega)).mono fun e W' ⟨he, bel⟩ => ?_
  subst he
  exact ⟨_, rfl, _, _, _, [], _, [], hW', trodAll_mk1 (shut_bool Try.underlying4 _), (trodAll_cons_mk (Below.trod (by kernel_rfl) (by kernel_rfl) (of_decide_eq_true (by kernel_rfl)) h0 bel lt0) (trodAll_cons_mk (shut_int Try.underlying3 w1) (trodAll_cons_mk (shut_int Try.underlying3 w2) (trodAll_cons_mk (shut_int Try.underlying3 w3) (trodAll_cons_mk (shut_int Try.underlying3 w4) (trodAll_cons_mk (shut_int Try.underlying3 w5) trodAll_mk0)))))), rfl, bel.frame _, fun h => by cases h⟩

set_option maxRecDepth 100000 in
theorem lifted (os : Os) (started : os.Started) (H : Type) (enc : TypeId × Value → H) (F : Stop.Interp) :
    ReturnsInHanded {} Try.checked os 8 .any ((Rows.OpenSpec.upto Rows.cardBackSpec).pre6 enc Try.prog Try.f8 Rows.cardBackUptoRow.domain false) (((Rows.OpenSpec.upto Rows.cardBackSpec).at F).post enc Try.prog Try.f8 false true false false) := by
  refine returnsInHanded_of_cond (C := Try.checked) (s := Rows.OpenSpec.upto Rows.cardBackSpec) (k := Rows.uptoSmall) rfl own started (by kernel_rfl) Try.func8
    (OpenSpec.witness (enc := enc) (C := Try.checked) (s := Rows.OpenSpec.upto Rows.cardBackSpec) (k := Rows.uptoSmall) rfl false ⟨#[], #[.slice none 0 0, .int .i64 0, .int .i64 0, .int .i64 0, .int .i64 0, .int .i64 0], []⟩ 8 (by kernel_rfl) (by kernel_rfl) (by kernel_rfl)
      (x := ([.nil, .lit (.int .i64 0), .lit (.int .i64 0), .lit (.int .i64 0), .lit (.int .i64 0), .lit (.int .i64 0)], [], [])) (by kernel_rfl) rfl (by kernel_rfl)) ?_
  intro W base args ds gs before hval hW _ hk _
  exact contract H enc W base args ds gs before hval hW hk

theorem proved : Rows.CardBackUptoSaid :=
  OpenClaim.holds_of_cond 8 Try.f8 rfl rfl rfl rfl rfl rfl rfl ⟨rfl, rfl, rfl, rfl, rfl⟩ rfl rfl rfl rfl rfl (by kernel_rfl) Try.func8 (by kernel_rfl)
    (of_decide_eq_true (by kernel_rfl)) (by unfold Func.isWrapper; first | (rw [if_pos (by decide +kernel)]; kernel_rfl) | (rw [if_neg (by decide +kernel)]; exact ⟨rfl, rfl⟩))
    (fun os started H enc _ F => lifted os started H enc F)
#print axioms proved
end Go.Proofs.Ytbdkflfgmdcciaa.cardBack
