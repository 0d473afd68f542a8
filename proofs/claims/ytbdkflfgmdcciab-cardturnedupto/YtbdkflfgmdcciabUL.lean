/- CardTurned: the law out of the contracts; the frame of the row. -/
import Derived.Test.YtbdkflfgmdcciabRows
import Derived.WalkKit
import Derived.ProofKit
import Derived.OpenShut
import Derived.ShutString
import Derived.ChangeOld
import Derived.Below
import Derived.JoinedCond
import Derived.Carry
import Derived.SizedLaws
import Derived.Test.YtbdkflfgmdcciabKz
import Derived.Test.YtbdkflfgmdcciabDg
import Derived.Test.YtbdkflfgmdcciabKl
import Derived.Test.YtbdkflfgmdcciabRw
import Derived.Test.YtbdkflfgmdcciabQt
namespace Go.Proofs.Ytbdkflfgmdcciab.cardTurned
open Go.ChangeShapes Go.WideShapes Go.ChangeAt Go.RowKit
open Go.ChangeMaps (open_string shut_string)
set_option linter.unusedVariables false

theorem own : ownKnob Try.prog.godebug = none := by kernel_rfl

set_option maxRecDepth 100000 in
set_option maxHeartbeats 6400000 in
theorem walk (v0 : Value) (z0 : List Int) (a1 : Int) (a2 : Int) (a3 : Int) (w : World) (w0 : Sl.Lies w v0 z0) (w1 : (Lit.int .i64 a1).wf = true) (w2 : (Lit.int .i64 a2).wf = true) (w3 : (Lit.int .i64 a3).wf = true) (k0 : z0.length ≤ 1048576) :
    Calls Try.prog 4 #[v0, .int .i64 a1, .int .i64 a2, .int .i64 a3] w fun e w' => e = .returned (.bool true) ∧ Below w.heap.size w w' := by
  have b1 : -9223372036854775808 ≤ a1 ∧ a1 ≤ 9223372036854775807 := by simp [Lit.wf, IntKind.min, IntKind.max, IntKind.signed, IntKind.bits] at w1; omega
  have b2 : -9223372036854775808 ≤ a2 ∧ a2 ≤ 9223372036854775807 := by simp [Lit.wf, IntKind.min, IntKind.max, IntKind.signed, IntKind.bits] at w2; omega
  have b3 : -9223372036854775808 ≤ a3 ∧ a3 ≤ 9223372036854775807 := by simp [Lit.wf, IntKind.min, IntKind.max, IntKind.signed, IntKind.bits] at w3; omega
  have g1 := Pick.pick_lo a1 18 (by omega)
  have g2 := Pick.pick_hi a1 18 (by omega)
  obtain ⟨q, hq⟩ : ∃ q : Nat, Pick.pickOf a1 18 = (q : Int) := ⟨(Pick.pickOf a1 18).toNat, by omega⟩
  have pq := fun y => Pick.pick_any a1 18 y b1.1 b1.2 (by omega) (by omega)
  rw [hq] at g2 pq
  obtain ⟨n, Hn, hn, hn18⟩ : ∃ n : Nat, Hid (1 + q = n) ∧ (1 : Int) + q = n ∧ n ≤ 18 := ⟨1 + q, rfl, by omega, by omega⟩
  have hn1 : 1 ≤ n := by have := Hn.out; omega
  have pd := fun (y : World) (h : Sl.Lies y v0 z0) => Dg.digits_raw z0 v0 n y h k0 (by omega)
  have zX := Dg.ds_size z0 n
  have aX := Dg.ds_ad z0 n
  generalize Dg.ds z0 n = X at *
  have pg := fun y => Kg.digit_good X y (by omega) (by omega) aX
  have hm := Kp.miss_lt X.data.toList
  have hbal : Kp.sm (X.data.toList ++ [UInt8.ofNat (48 + Kp.miss X.data.toList)]) % 10 = 0 := (Kp.miss_hit _ _ (Kg.dig_one _ hm).1).2 (Kg.dig_one _ hm).2
  have hd := (Kg.dig_one _ hm).1
  generalize UInt8.ofNat (48 + Kp.miss X.data.toList) = dd at *
  obtain ⟨D, HD, hD⟩ : ∃ D : ByteArray, Hid ((⟨#[dd]⟩ : ByteArray) = D) ∧ (D.size : Int) = 1 := ⟨_, rfl, rfl⟩
  rw [HD.out] at pg
  have eS : (X ++ D).data.toList = X.data.toList ++ [dd] := by rw [Kg.app_list, ← HD.out]
  have zS : (X ++ D).size = n + 1 := by rw [ByteArray.size_append, zX]; omega
  have aS : (X ++ D).data.toList.all Kp.dig = true := by rw [eS, List.all_append]; unfold Kp.ad at aX; rw [aX]; simp [hd]
  have bS : Kp.sm (X ++ D).data.toList % 10 = 0 := by rw [eS]; exact hbal
  have zX' : X.size ≤ 18 := by omega
  clear hbal hm hd eS zX aX hq g1
  go_enter Try.func4, Try.ntmps4
  go_wp2_with fail
  refine (Kz.examples_any _).mono ?_
  rintro e y0 ⟨rfl, h0⟩
  go_wp2_with fail
  refine (pq _).mono ?_
  rintro e y0' ⟨rfl, rfl⟩
  go_wp2_with fail
  refine (pd _ (Sl.lies_below w0 h0)).mono ?_
  rintro e y1 ⟨rfl, h1⟩
  go_wp2_with fail
  refine (pg _).mono ?_
  rintro e y2 ⟨rfl, h2⟩
  have B2 := Kb.keepB (Kb.keepB h0 h1) h2
  clear h0 h1 h2 w0 pq pd pg
  go_wp2_with fail
  generalize X ++ D = S at *
  clear hD zX' HD Hn hn g2
  have S19 : S.size ≤ 19 := by omega
  have S2 : 2 ≤ S.size := by omega
  clear zS hn18 hn1
  have adg := fun i (hi : i < S.data.toList.length) => (Kp.dig_iff _).1 ((List.all_eq_true.1 aS) _ (List.getElem_mem hi))
  have cv := run_bytes_of_string (P := Try.prog) y2 9 35 5 S Try.underlying9 Try.underlying35 Try.underlying5
  have R1 := Rw.Row.of y2 S (grownCap y2 S.size 0 5) 5
  have B3 := Kb.keepB B2 (((Below.refl _ y2).drew).alloc (Nat.le_refl _) (Obj.cells (bytesRow S (grownCap y2 S.size 0 5)) 5 ((bytesRow S (grownCap y2 S.size 0 5)).size, (bytesRow S (grownCap y2 S.size 0 5)).size + 1)))
  have hG := B2.size
  generalize y2.drew.alloc (Obj.cells (bytesRow S (grownCap y2 S.size 0 5)) 5 ((bytesRow S (grownCap y2 S.size 0 5)).size, (bytesRow S (grownCap y2 S.size 0 5)).size + 1)) = W1 at *
  generalize grownCap y2 S.size 0 5 = C1 at *
  rw [cv]
  clear cv B2
  generalize y2.heap.size = G1 at *
  have l1 := Pick.pick_lo a2 S.size (by omega)
  have l2 := Pick.pick_hi a2 S.size (by omega)
  have pk := fun y => Pick.pick_any a2 S.size y b2.1 b2.2 (by omega) (by omega)
  obtain ⟨k, hk⟩ : ∃ k : Nat, Pick.pickOf a2 S.size = (k : Int) := ⟨(Pick.pickOf a2 S.size).toNat, by omega⟩
  rw [hk] at l2 pk
  clear hk l1
  go_wp2_with fail
  refine (pk _).mono ?_
  rintro e W1' ⟨rfl, rfl⟩
  have hkl : k < S.data.toList.length := by rw [Kp.sz]; omega
  have c1 := R1.cell k hkl
  have hE : G1 < W1'.heap.size := World.block_lt_of_cell? W1' _ c1
  obtain ⟨x, Hx, hx9⟩ : ∃ x : Nat, Hid (S.data.toList[k].toNat = 48 + x) ∧ x ≤ 9 := ⟨S.data.toList[k].toNat - 48, by have := adg k hkl; show _ = _; omega, by have := adg k hkl; omega⟩
  rw [show ((S.data.toList[k].toNat : Nat) : Int) = 48 + (x : Int) by have := Hx.out; omega] at c1
  have m1 := Pick.pick_lo a3 9 (by omega)
  have m2 := Pick.pick_hi a3 9 (by omega)
  have pt := fun y => Pick.pick_any a3 9 y b3.1 b3.2 (by omega) (by omega)
  obtain ⟨t, ht⟩ : ∃ t : Nat, Pick.pickOf a3 9 = (t : Int) := ⟨(Pick.pickOf a3 9).toNat, by omega⟩
  rw [ht] at m2 pt
  obtain ⟨r, Hr, hr, hr9⟩ : ∃ r : Nat, Hid ((x + 1 + t) % 10 = r) ∧ ((x : Int) + 1 + t) % 10 = r ∧ r ≤ 9 := ⟨(x + 1 + t) % 10, rfl, by omega, by omega⟩
  have v0' : 48 + (x : Int) - 48 = x := by omega
  have v1 : IntKind.u8.wrap (x : Int) = x := Lib0.wrap_u8 _ (by omega) (by omega)
  have v2 : IntKind.i64.wrap (x : Int) = x := Lib0.wrap_i64 _ (by omega) (by omega)
  have v3 : IntKind.i64.wrap ((x : Int) + 1) = (x : Int) + 1 := Lib0.wrap_i64 _ (by omega) (by omega)
  have v4 : IntKind.i64.wrap ((x : Int) + 1 + t) = (x : Int) + 1 + t := Lib0.wrap_i64 _ (by omega) (by omega)
  have v5 : IntKind.i64.wrap (48 + (r : Int)) = 48 + (r : Int) := Lib0.wrap_i64 _ (by omega) (by omega)
  have v6 : IntKind.u8.wrap (48 + (r : Int)) = 48 + (r : Int) := Lib0.wrap_u8 _ (by omega) (by omega)
  have v7 : ((x : Int) + 1 + t).tmod 10 = r := by rw [Int.tmod_eq_emod_of_nonneg (by omega)]; exact hr
  have v8 : (0 : Int) ≤ k := by omega
  clear ht m1
  go_wp2_with fail
  refine Qt.region_tail 16 0 (C := Ql.Cl W1') (by kernel_rfl) rfl (by kernel_rfl) (by kernel_rfl) (by kernel_rfl) ((Below.refl _ _).drew) ?_
  repeat (refine wpQuiet_step (fun K hK => ?_); first
    | (go_simp; refine hK _ ?_; clear hK K)
    | (go_simp; refine ⟨_, fun _ _ => rfl, hK _ ?_⟩; clear hK K)
    | (go_simp; refine ⟨_, fun _ _ => ⟨rfl, rfl⟩, hK _ ?_⟩; clear hK K)
    | (refine Ql.q_cell (by rfl) 5 _ rfl G1 k rfl _ c1 hE (fun y => by simp [isAgg, go_sem]) (hK _ ?_); clear hK K)
    | (go_simp; apply Exists.intro; refine ⟨fun y hy => ?_, hK _ ?_⟩; (go_at_call 10; exact Ql.cl_same hy (pt y)); clear hK K))
  refine wpQuiet_nil ?_
  intro y3 hy3
  have R2 := R1.kept hy3
  have B4' := Kb.keepB B3 hy3
  obtain ⟨hc1, hc2⟩ := Kg.dig_one r (by omega)
  generalize UInt8.ofNat (48 + r) = c' at *
  have cc := R2.cell k hkl
  have ff := R2.free k hkl
  have R3 := R2.set k c'
  rw [show ((c'.toNat : Nat) : Int) = 48 + (r : Int) by omega] at R3
  have B4 := Kt.below_setCell B4' hG k (.int .u8 (48 + (r : Int)))
  have hne : c' ≠ S.data.toList[k] := by intro hh; rw [hh] at hc2; have := Hx.out; have := Hr.out; omega
  have lf : Kp.luhn (S.data.toList.set k c') = false := by
    unfold Kp.luhn
    rw [show decide (Kp.sm (S.data.toList.set k c') % 10 = 0) = false by simpa using Kl.turned hkl aS hc1 bS hne]
    simp
  clear hr hr9 v0' v1 v2 v3 v4 v5 v6 v7 c1 hE hx9 pt m2 Hr Hx R1 B3 hc1 hc2 hne B4'
  have zT : (⟨(S.data.toList.set k c').toArray⟩ : ByteArray).size = S.size := by show (S.data.toList.set k c').length = _; rw [List.length_set]; rfl
  have cv2 := R3.back (P := Try.prog) (cap := C1) (src := 35) (dst := 9) (e := 5) Try.underlying35 Try.underlying5 Try.underlying9
  rw [List.length_set, Kp.sz] at cv2
  rw [show S.data.toList.set k c' = (⟨(S.data.toList.set k c').toArray⟩ : ByteArray).data.toList from rfl] at lf
  generalize (⟨(S.data.toList.set k c').toArray⟩ : ByteArray) = T1 at *
  have pL1 := fun y => Ki.luhn_any T1 y (by omega)
  rw [lf] at pL1
  clear lf zT R2 R3
  go_wp2_with fail
  generalize y3.setCell ⟨G1, k, none⟩ (.int .u8 (48 + (r : Int))) = W2 at *
  clear cv2 cc ff hy3 hkl pk l2
  refine (pL1 _).mono ?_
  rintro e W2' ⟨rfl, rfl⟩
  go_wp2_with fail
  have cv := run_bytes_of_string (P := Try.prog) W2' 9 35 5 S Try.underlying9 Try.underlying35 Try.underlying5
  have R1 := Rw.Row.of W2' S (grownCap W2' S.size 0 5) 5
  have B3 := Kb.keepB B4 (((Below.refl _ W2').drew).alloc (Nat.le_refl _) (Obj.cells (bytesRow S (grownCap W2' S.size 0 5)) 5 ((bytesRow S (grownCap W2' S.size 0 5)).size, (bytesRow S (grownCap W2' S.size 0 5)).size + 1)))
  have hG2 := B4.size
  generalize W2'.drew.alloc (Obj.cells (bytesRow S (grownCap W2' S.size 0 5)) 5 ((bytesRow S (grownCap W2' S.size 0 5)).size, (bytesRow S (grownCap W2' S.size 0 5)).size + 1)) = W3 at *
  generalize grownCap W2' S.size 0 5 = C2 at *
  rw [cv]
  clear cv B4 hG
  generalize W2'.heap.size = G2 at *
  have l1 := Pick.pick_lo a2 (S.size - 1) (by omega)
  have l2 := Pick.pick_hi a2 (S.size - 1) (by omega)
  have pk := fun y => Pick.pick_any a2 (S.size - 1) y b2.1 b2.2 (by omega) (by omega)
  obtain ⟨i, hi⟩ : ∃ i : Nat, Pick.pickOf a2 (S.size - 1) = (i : Int) := ⟨(Pick.pickOf a2 (S.size - 1)).toNat, by omega⟩
  rw [hi] at l2 pk
  clear hi l1
  obtain ⟨j, Hj, hj⟩ : ∃ j : Nat, Hid (i + 1 = j) ∧ (i : Int) + 1 = j := ⟨i + 1, rfl, by omega⟩
  have hi1 : (i : Int) < S.size := by omega
  have hj1 : (j : Int) < S.size := by omega
  have hil : i < S.data.toList.length := by rw [Kp.sz]; omega
  have hjl : j < S.data.toList.length := by rw [Kp.sz]; omega
  have ci := R1.cell i hil
  have cj := R1.cell j hjl
  have fi := R1.free i hil
  have fj := R1.free j hjl
  have R4 := R1.set i S.data.toList[j]
  have cj2 := R4.cell j (by rw [List.length_set]; exact hjl)
  have fj2 := R4.free j (by rw [List.length_set]; exact hjl)
  rw [List.getElem_set_ne (by have := Hj.out; omega)] at cj2
  have R5 := R4.set j S.data.toList[i]
  have B5 := Kt.below_setCell (Kt.below_setCell B3 hG2 i (.int .u8 (S.data.toList[j].toNat : Int))) hG2 j (.int .u8 (S.data.toList[i].toNat : Int))
  have sw : Kp.sm ((S.data.toList.set i S.data.toList[j]).set j S.data.toList[i]) % 10 = 0 ↔ (S.data.toList[i] = S.data.toList[j] ∨ (S.data.toList[i].toNat = 48 ∧ S.data.toList[j].toNat = 57) ∨ (S.data.toList[i].toNat = 57 ∧ S.data.toList[j].toNat = 48)) := by
    have := Hj.out
    subst this
    exact Kl.swapped hjl aS bS
  have al2 : ((S.data.toList.set i S.data.toList[j]).set j S.data.toList[i]).all Kp.dig = true := Kl.all_set (Kl.all_set aS i ((List.all_eq_true.1 aS) _ (List.getElem_mem hjl))) j ((List.all_eq_true.1 aS) _ (List.getElem_mem hil))
  have ln2 : ((S.data.toList.set i S.data.toList[j]).set j S.data.toList[i]).length = S.size := by rw [List.length_set, List.length_set]; rfl
  have cv3 := R5.back (P := Try.prog) (cap := C2) (src := 35) (dst := 9) (e := 5) Try.underlying35 Try.underlying5 Try.underlying9
  rw [ln2] at cv3
  have lu2 : Kp.luhn ((S.data.toList.set i S.data.toList[j]).set j S.data.toList[i]) = decide (Kp.sm ((S.data.toList.set i S.data.toList[j]).set j S.data.toList[i]) % 10 = 0) := by
    unfold Kp.luhn
    rw [al2, ln2, show decide (2 ≤ S.size) = true by simpa using S2]; rfl
  rw [show (S.data.toList.set i S.data.toList[j]).set j S.data.toList[i] = (⟨((S.data.toList.set i S.data.toList[j]).set j S.data.toList[i]).toArray⟩ : ByteArray).data.toList from rfl] at lu2
  have zT2 : (⟨((S.data.toList.set i S.data.toList[j]).set j S.data.toList[i]).toArray⟩ : ByteArray).size ≤ 19 := by show ((S.data.toList.set i S.data.toList[j]).set j S.data.toList[i]).length ≤ 19; rw [ln2]; exact S19
  have pL2 := fun y => Ki.luhn_any (⟨((S.data.toList.set i S.data.toList[j]).set j S.data.toList[i]).toArray⟩ : ByteArray) y (by omega)
  rw [lu2] at pL2
  rw [show decide (Kp.sm (⟨((S.data.toList.set i S.data.toList[j]).set j S.data.toList[i]).toArray⟩ : ByteArray).data.toList % 10 = 0) = decide (S.data.toList[i] = S.data.toList[j] ∨ (S.data.toList[i].toNat = 48 ∧ S.data.toList[j].toNat = 57) ∨ (S.data.toList[i].toNat = 57 ∧ S.data.toList[j].toNat = 48)) from decide_eq_decide.2 sw] at pL2
  generalize (⟨((S.data.toList.set i S.data.toList[j]).set j S.data.toList[i]).toArray⟩ : ByteArray) = T2 at *
  clear lu2 sw al2 ln2 R5 R4 R1 zT2
  have pR := fun y => Ki.right_any S y (by omega)
  obtain ⟨RR, HRR⟩ : ∃ RR, Kp.rightR S.data.toList = RR := ⟨_, rfl⟩
  have HR : Hid ((if 12 ≤ S.size then (0 : Int) else 50) = RR) := by
    show _ = _
    rw [← HRR]
    unfold Kp.rightR
    rw [aS, Kp.sz, if_pos bS, show decide (S.size ≤ 19) = true by simpa using S19]
    by_cases h : 12 ≤ S.size
    · rw [if_pos h]; simp [h]
    · rw [if_neg h]; simp [h]
  rw [HRR] at pR
  have pS := fun y => Ki.luhn_any S y (by omega)
  rw [show Kp.luhn S.data.toList = true by unfold Kp.luhn; rw [aS, Kp.sz]; simp [S2, bS]] at pS
  clear HRR aS bS
  have eqi : (S.data.toList[i] = S.data.toList[j]) ↔ ((S.data.toList[i].toNat : Int) = (S.data.toList[j].toNat : Int)) := by rw [← UInt8.toNat_inj]; omega
  simp only [eqi] at pL2
  clear eqi adg
  generalize S.data.toList[i] = bi at *
  generalize S.data.toList[j] = bj at *
  obtain ⟨α, Hα, hα⟩ : ∃ α : Int, (bi.toNat : Int) = α ∧ Hid ((bi.toNat : Int) = α) := ⟨_, rfl, rfl⟩
  obtain ⟨β, Hβ, hβ⟩ : ∃ β : Int, (bj.toNat : Int) = β ∧ Hid ((bj.toNat : Int) = β) := ⟨_, rfl, rfl⟩
  have dd2 : decide ((bi.toNat : Int) = (bj.toNat : Int) ∨ (bi.toNat = 48 ∧ bj.toNat = 57) ∨ (bi.toNat = 57 ∧ bj.toNat = 48)) = decide (α = β ∨ (α = 48 ∧ β = 57) ∨ (α = 57 ∧ β = 48)) := by rw [decide_eq_decide]; omega
  rw [dd2] at pL2
  rw [Hα] at ci B5 cv3
  rw [Hβ] at cj cj2 B5 cv3 fj2
  clear dd2 Hα Hβ hil hjl
  go_wp2_with fail
  refine (pk _).mono ?_
  rintro e W3' ⟨rfl, rfl⟩
  go_wp2_with fail
  generalize (W3'.setCell ⟨G2, i, none⟩ (.int .u8 β)).setCell ⟨G2, j, none⟩ (.int .u8 α) = W4 at *
  clear cv3 ci cj fi fj cj2 fj2 B3
  refine (pL2 _).mono ?_
  rintro e W5 ⟨rfl, rfl⟩
  have B7 := B5
  by_cases e1 : α = β
  · rw [show decide (α = β ∨ (α = 48 ∧ β = 57) ∨ (α = 57 ∧ β = 48)) = true by simp [e1]]
    subst e1
    go_wp2_with fail
    refine (pR _).mono ?_
    rintro e z1 ⟨rfl, rfl⟩
    go_wp2_with fail
    refine (pS _).mono ?_
    rintro e z2 ⟨rfl, rfl⟩
    by_cases h12 : (12 : Int) ≤ S.size
    · obtain rfl : RR = 0 := by rw [← HR.out, if_pos (by omega)]
      go_wp2
      go_ret
      exact ⟨by simp, B7⟩
    · obtain rfl : RR = 50 := by rw [← HR.out, if_neg (by omega)]
      go_wp2
      go_ret
      exact ⟨by simp; omega, B7⟩
  · have f1 : (α == β) = false := by simpa using e1
    by_cases e2 : α = 48
    · by_cases e3 : β = 57
      · rw [show decide (α = β ∨ (α = 48 ∧ β = 57) ∨ (α = 57 ∧ β = 48)) = true by simp [e2, e3]]
        subst e2 e3
        go_wp2_with fail
        refine (pR _).mono ?_
        rintro e z1 ⟨rfl, rfl⟩
        go_wp2_with fail
        refine (pS _).mono ?_
        rintro e z2 ⟨rfl, rfl⟩
        by_cases h12 : (12 : Int) ≤ S.size
        · obtain rfl : RR = 0 := by rw [← HR.out, if_pos (by omega)]
          go_wp2
          go_ret
          exact ⟨by simp, B7⟩
        · obtain rfl : RR = 50 := by rw [← HR.out, if_neg (by omega)]
          go_wp2
          go_ret
          exact ⟨by simp; omega, B7⟩
      · have f3 : (β == 57) = false := by simpa using e3
        rw [show decide (α = β ∨ (α = 48 ∧ β = 57) ∨ (α = 57 ∧ β = 48)) = false by simp; omega]
        subst e2
        go_wp2_with fail
        refine (pR _).mono ?_
        rintro e z1 ⟨rfl, rfl⟩
        go_wp2_with fail
        refine (pS _).mono ?_
        rintro e z2 ⟨rfl, rfl⟩
        by_cases h12 : (12 : Int) ≤ S.size
        · obtain rfl : RR = 0 := by rw [← HR.out, if_pos (by omega)]
          go_wp2
          go_ret
          exact ⟨by simp, B7⟩
        · obtain rfl : RR = 50 := by rw [← HR.out, if_neg (by omega)]
          go_wp2
          go_ret
          exact ⟨by simp; omega, B7⟩
    · have f2 : (α == 48) = false := by simpa using e2
      by_cases e3 : α = 57
      · by_cases e4 : β = 48
        · rw [show decide (α = β ∨ (α = 48 ∧ β = 57) ∨ (α = 57 ∧ β = 48)) = true by simp [e3, e4]]
          subst e3 e4
          go_wp2_with fail
          refine (pR _).mono ?_
          rintro e z1 ⟨rfl, rfl⟩
          go_wp2_with fail
          refine (pS _).mono ?_
          rintro e z2 ⟨rfl, rfl⟩
          by_cases h12 : (12 : Int) ≤ S.size
          · obtain rfl : RR = 0 := by rw [← HR.out, if_pos (by omega)]
            go_wp2
            go_ret
            exact ⟨by simp, B7⟩
          · obtain rfl : RR = 50 := by rw [← HR.out, if_neg (by omega)]
            go_wp2
            go_ret
            exact ⟨by simp; omega, B7⟩
        · have f4 : (β == 48) = false := by simpa using e4
          rw [show decide (α = β ∨ (α = 48 ∧ β = 57) ∨ (α = 57 ∧ β = 48)) = false by simp; omega]
          subst e3
          go_wp2_with fail
          refine (pR _).mono ?_
          rintro e z1 ⟨rfl, rfl⟩
          go_wp2_with fail
          refine (pS _).mono ?_
          rintro e z2 ⟨rfl, rfl⟩
          by_cases h12 : (12 : Int) ≤ S.size
          · obtain rfl : RR = 0 := by rw [← HR.out, if_pos (by omega)]
            go_wp2
            go_ret
            exact ⟨by simp, B7⟩
          · obtain rfl : RR = 50 := by rw [← HR.out, if_neg (by omega)]
            go_wp2
            go_ret
            exact ⟨by simp; omega, B7⟩
      · have f3 : (α == 57) = false := by simpa using e3
        rw [show decide (α = β ∨ (α = 48 ∧ β = 57) ∨ (α = 57 ∧ β = 48)) = false by simp; omega]
        go_wp2_with fail
        refine (pR _).mono ?_
        rintro e z1 ⟨rfl, rfl⟩
        go_wp2_with fail
        refine (pS _).mono ?_
        rintro e z2 ⟨rfl, rfl⟩
        by_cases h12 : (12 : Int) ≤ S.size
        · obtain rfl : RR = 0 := by rw [← HR.out, if_pos (by omega)]
          go_wp2
          go_ret
          exact ⟨by simp, B7⟩
        · obtain rfl : RR = 50 := by rw [← HR.out, if_neg (by omega)]
          go_wp2
          go_ret
          exact ⟨by simp; omega, B7⟩

set_option maxRecDepth 100000 in
theorem contract (H : Type) (enc : TypeId × Value → H) (W : World) (base : Nat) (args : Array Value) (ds gs : List (DataW H)) (before : List MemPlace)
    (hval : ∀ (j : Nat) t v, Try.f4.params[j]? = some t → args[j]? = some v → Value.okWide Try.prog W .any base t v)
    (hW : DataW.Whole enc Try.prog Try.f4.params.toList Rows.cardTurnedSpec.vars false W args.toList ds gs before) (hk : Rows.uptoSmall H (ds ++ gs) = true) :
    Calls Try.prog 4 args W fun e W' => ∃ v, e = .returned v ∧ Rows.cardTurnedSpec.post enc Try.prog Try.f4 false true false false W args v W' := by
  have hW' := hW
  obtain ⟨p, q, hA0, hV, rfl, hfz, hnd⟩ := hW
  have hA : DataW.TrodAll enc Try.prog W 0 (fun _ => true) true Try.f4.params.toList args.toList ds p := hA0
  rw [Try.params4] at hA hval
  obtain ⟨v0, vs0, d0, ds0, p0, q0, hargs, rfl, rfl, h0, r0⟩ := trodAll_cons hA
  obtain ⟨v1, vs1, d1, ds1, p1, q1, rfl, rfl, rfl, h1, r1⟩ := trodAll_cons r0
  obtain ⟨v2, vs2, d2, ds2, p2, q2, rfl, rfl, rfl, h2, r2⟩ := trodAll_cons r1
  obtain ⟨v3, vs3, d3, ds3, p3, q3, rfl, rfl, rfl, h3, r3⟩ := trodAll_cons r2
  obtain ⟨rfl, rfl, rfl⟩ := trodAll_nil r3
  obtain rfl : args = #[v0, v1, v2, v3] := by cases args; simp_all
  obtain ⟨rfl, rfl⟩ := trodVars_none hV
  obtain ⟨z0, w0, lt0, bulk0⟩ := Sl.open_sl (hval 0 31 v0 rfl rfl) h0
  obtain ⟨a1, rfl, rfl, rfl, w1⟩ := open_int Try.underlying3 (hval 1 3 v1 rfl rfl) h1
  obtain ⟨a2, rfl, rfl, rfl, w2⟩ := open_int Try.underlying3 (hval 2 3 v2 rfl rfl) h2
  obtain ⟨a3, rfl, rfl, rfl, w3⟩ := open_int Try.underlying3 (hval 3 3 v3 rfl rfl) h3
  clear hA0
  simp only [List.append_nil] at hk
  have hk1 := of_decide_eq_true hk
  simp only [Rows.uptoBulkAll] at hk1
  have e0 := bulk0
  refine (walk v0 z0 a1 a2 a3 W w0 w1 w2 w3 (by omega)).mono fun e W' ⟨he, bel⟩ => ?_
  subst he
  exact ⟨_, rfl, _, _, _, [], _, [], hW', trodAll_mk1 (shut_bool Try.underlying4 _), (trodAll_cons_mk (Below.trod (by kernel_rfl) (by kernel_rfl) (of_decide_eq_true (by kernel_rfl)) h0 bel lt0) (trodAll_cons_mk (shut_int Try.underlying3 w1) (trodAll_cons_mk (shut_int Try.underlying3 w2) (trodAll_cons_mk (shut_int Try.underlying3 w3) trodAll_mk0)))), rfl, bel.frame _, fun h => by cases h⟩

set_option maxRecDepth 100000 in
theorem lifted (os : Os) (started : os.Started) (H : Type) (enc : TypeId × Value → H) (F : Stop.Interp) :
    ReturnsInHanded {} Try.checked os 4 .any ((Rows.OpenSpec.upto Rows.cardTurnedSpec).pre6 enc Try.prog Try.f4 Rows.cardTurnedUptoRow.domain false) (((Rows.OpenSpec.upto Rows.cardTurnedSpec).at F).post enc Try.prog Try.f4 false true false false) := by
  refine returnsInHanded_of_cond (C := Try.checked) (s := Rows.OpenSpec.upto Rows.cardTurnedSpec) (k := Rows.uptoSmall) rfl own started (by kernel_rfl) Try.func4
    (OpenSpec.witness (enc := enc) (C := Try.checked) (s := Rows.OpenSpec.upto Rows.cardTurnedSpec) (k := Rows.uptoSmall) rfl false ⟨#[], #[.slice none 0 0, .int .i64 0, .int .i64 0, .int .i64 0], []⟩ 8 (by kernel_rfl) (by kernel_rfl) (by kernel_rfl)
      (x := ([.nil, .lit (.int .i64 0), .lit (.int .i64 0), .lit (.int .i64 0)], [], [])) (by kernel_rfl) rfl (by kernel_rfl)) ?_
  intro W base args ds gs before hval hW _ hk _
  exact contract H enc W base args ds gs before hval hW hk

theorem proved : Rows.CardTurnedUptoSaid :=
  OpenClaim.holds_of_cond 4 Try.f4 rfl rfl rfl rfl rfl rfl rfl ⟨rfl, rfl, rfl, rfl, rfl⟩ rfl rfl rfl rfl rfl (by kernel_rfl) Try.func4 (by kernel_rfl)
    (of_decide_eq_true (by kernel_rfl)) (by unfold Func.isWrapper; first | (rw [if_pos (by decide +kernel)]; kernel_rfl) | (rw [if_neg (by decide +kernel)]; exact ⟨rfl, rfl⟩))
    (fun os started H enc _ F => lifted os started H enc F)
#print axioms proved
end Go.Proofs.Ytbdkflfgmdcciab.cardTurned
