/- stopOldest. -/
import Derived.Test.YtgchdjjafgkcbaaPj
namespace Go.Proofs.Ytgchdjjafgkcbaa.Pk
set_option linter.unusedVariables false
set_option linter.unusedSimpArgs false
open Go.RowKit Go.Maps Lib0 Kb Xp Za Ze Ih Fh Hh Pa Pb Pc Pe Pf Pg
attribute [local go_sem] Oper.semAt_some
def numC (w : World) (b o : Nat) : Int := match w.cell? ⟨b, o, none⟩ with | some (.int _ n) => n | _ => 0
theorem numC_of {w : World} {b o : Nat} {n : Int} (h : w.cell? ⟨b, o, none⟩ = some (.int .i64 n)) : numC w b o = n := by simp [numC, h]
theorem drop_head {x : XT} {L : LT} (hi : Inc (x :: L)) : (x :: L).filter (fun y => !(y.1 == x.1)) = L := by
  rw [Inc, List.pairwise_cons] at hi
  rw [List.filter_cons, if_neg (by simp), List.filter_eq_self]
  intro y hy
  have := hi.1 y hy
  have e : ¬ y.1 = x.1 := by omega
  simp [e]
section
variable {w : World} {base b wb rb kb hb : Nat} {Bw Br : Nat → Prop} {ck ch : Nat} {Dk Dh : DataW Value} {C : Cf} {old : Int} {XW XR : LT} {nw nr lw lr : Int}
theorem kx_old (h : Tm w base b wb rb kb hb Bw Br ck ch Dk Dh C old XW XR nw nr lw lr) (v : Value) : Kx w (w.setCell ⟨b, 4, none⟩ v) ∧ Below base w (w.setCell ⟨b, 4, none⟩ v) :=
  ⟨⟨rfl, rfl, rfl, by rw [setCell_size]; exact Nat.le_refl _, fun k c2 t fr hk a b2 d e => setCell_ne (p := ⟨b, 4, none⟩) (fun e2 : b = k => a (by subst e2; rw [h.blk] at hk; injection hk with hk; injection hk with _ hk; exact hk.symm)) v⟩, (Below.refl _ w).setCell h.low.1 _⟩
set_option maxRecDepth 100000 in
set_option maxHeartbeats 3200000 in
theorem stopOldest_any {x0 : XT} (h : Tm w base b wb rb kb hb Bw Br ck ch Dk Dh C old XW (x0 :: XR) nw nr lw lr) (ok : Ok 256 (x0 :: XR) nr lr) (h0 : 0 ≤ old) (h1 : old < x0.1) (hl : lr ≤ 5864062014805) :
    Calls Try.prog 33 #[.pointer (some ⟨b, 0, none⟩)] w fun e w' => e = .returned x0.2.2 ∧ (∃ Br', Tm w' base b wb rb kb hb Bw Br' ck ch Dk Dh C x0.1 XW XR nw nr lw lr) ∧ Kx w w' ∧ Below base w w' := by
  obtain ⟨T, tk, th⟩ := x0
  have hT := ok.num (T, tk, th) (by simp)
  dsimp only at h1 hT
  have HLO : Hid (∀ o : Int, o < T → lkG ((T, tk, th) :: XR) o = none) := fun o ho => lkG_none.2 fun y hy => by
    rcases List.mem_cons.1 hy with rfl | hy
    · dsimp only; omega
    · have := (List.pairwise_cons.1 ok.inc).1 y hy
      dsimp only at this; omega
  have HLT : Hid (lkG ((T, tk, th) :: XR) T = some (T, tk, th)) := lkG_of_mem ok.inc (x := (T, tk, th)) (by simp)
  have HOK : Hid (Ok 256 ((T, tk, th) :: XR) nr lr) := ok
  have HFD : Hid (((T, tk, th) :: XR).filter (fun y => !(y.1 == T)) = XR) := drop_head ok.inc
  have HB0 : Hid (Tm w base b wb rb kb hb Bw Br ck ch Dk Dh C old XW ((T, tk, th) :: XR) nw nr lw lr) := h
  have HTB : Hid (T ≤ 5864062014805) := by show T ≤ _; omega
  clear h ok
  go_enter Try.func33, Try.ntmps33
  go_wp2_with fail
  go_loopw [] (fun wr => ∃ o : Int, 0 ≤ o ∧ o < T ∧ Hid (Tm wr base b wb rb kb hb Bw Br ck ch Dk Dh C o XW ((T, tk, th) :: XR) nw nr lw lr ∧ Kx w wr ∧ Below base w wr)) (fun wr => (T - numC wr b 4).toNat)
  case atStart => exact ⟨old, h0, h1, HB0.out, Kx.refl w, Below.refl _ _⟩
  case round =>
    obtain ⟨o, q0, q1, HJ⟩ := hrel
    obtain ⟨-, -, -, -, c4, -⟩ := HJ.out.1.cells
    have f4 : wr.frozen? ⟨b, 4, none⟩ = false := by simp [World.frozen?, HJ.out.1.blk]
    have HM0 : Hid (numC wr b 4 = o) := numC_of c4
    obtain ⟨y, hy⟩ : ∃ y, wr.setCell ⟨b, 4, none⟩ (.int .i64 (o + 1)) = y := ⟨_, rfl⟩
    have HY : Hid (Tm y base b wb rb kb hb Bw Br ck ch Dk Dh C (o + 1) XW ((T, tk, th) :: XR) nw nr lw lr ∧ Kx w y ∧ Below base w y) := hy ▸ ⟨HJ.out.1.setOld (o + 1), HJ.out.2.1.trans (kx_old HJ.out.1 _).1, HJ.out.2.2.trans (kx_old HJ.out.1 _).2⟩
    obtain ⟨-, d1, -, -, d4, -⟩ := HY.out.1.cells
    have HDR : Hid (Tm y.drew base b wb rb kb hb Bw Br ck ch Dk Dh C (o + 1) XW ((T, tk, th) :: XR) nw nr lw lr ∧ Kx w y.drew ∧ Below base w y.drew) := ⟨HY.out.1.below ((Below.refl _ _).drew), HY.out.2.1.trans (Kx.of ((Below.refl _ _).drew)), HY.out.2.2.trans (((Below.refl _ _).drew).mono HY.out.1.base_)⟩
    obtain ⟨-, e1, -, -, e4, -⟩ := HDR.out.1.cells
    have q2 : o + 1 ≤ 9223372036854775807 := by have := HTB.out; omega
    have q3 : -9223372036854775808 ≤ o + 1 := by omega
    have HWF : Hid ((Lit.int .i64 (o + 1)).wf = true) := Hh.wf64 (by omega) q2
    by_cases hc : o + 1 < T
    · have HCN : Hid (Calls Try.prog 38 #[.pointer (some ⟨rb, 0, none⟩), .int .i64 (o + 1)] y.drew fun e w' => e = .returned (.tuple #[.pointer none, .int .i64 170]) ∧ Below y.drew.heap.size y.drew w') := Ch.cancel_no y.drew rb Br 256 _ nr lr (o + 1) HDR.out.1.wr HWF.out (HLO.out (o + 1) hc)
      have HE : Hid (∀ x, Below y.drew.heap.size y.drew x → (Tm x base b wb rb kb hb Bw Br ck ch Dk Dh C (o + 1) XW ((T, tk, th) :: XR) nw nr lw lr ∧ Kx w x ∧ Below base w x)) := fun x hx => ⟨HDR.out.1.below hx, HDR.out.2.1.trans (Kx.of hx), HDR.out.2.2.trans (hx.mono HDR.out.1.base_)⟩
      have HC : Hid (o + 1 < T) := hc
      have HQ : Hid (0 ≤ o) := q0
      clear hc HJ q1
      go_wp2_with fail
      try rw [hy]
      go_region_with ((go_at_call 38; refine HCN.out.mono ?_; rintro e x ⟨rfl, hbx⟩; have HX := HE.out x hbx; have HX2 : Hid (Tm x base b wb rb kb hb Bw Br ck ch Dk Dh C (o + 1) XW ((T, tk, th) :: XR) nw nr lw lr ∧ Kx w x ∧ Below base w x) := HX; clear HX hbx))
      all_goals
        go_wp2_with fail
        go_round
        case rel => exact ⟨o + 1, by have := HQ.out; omega, HC.out, HX2.out⟩
        case measure => rw [HM0.out, numC_of HX2.out.1.cells.2.2.2.2.1]; have := HC.out; omega
    · obtain rfl : T = o + 1 := by omega
      have HCN : Hid (Calls Try.prog 38 #[.pointer (some ⟨rb, 0, none⟩), .int .i64 (o + 1)] y.drew fun e w' => e = .returned (.tuple #[th, .int .i64 0]) ∧ Trn y.drew rb Br 256 (((o + 1, tk, th) :: XR).filter fun y => !(y.1 == o + 1)) nr lr w') := Ch.cancel_yes y.drew rb Br 256 _ nr lr (o + 1) (o + 1, tk, th) HDR.out.1.wr HOK.out hl HWF.out HLT.out
      have HE : Hid (∀ x, Trn y.drew rb Br 256 (((o + 1, tk, th) :: XR).filter fun y => !(y.1 == o + 1)) nr lr x → ((∃ Br', Tm x base b wb rb kb hb Bw Br' ck ch Dk Dh C (o + 1) XW XR nw nr lw lr) ∧ Kx w x ∧ Below base w x)) := fun x hx => by
        rw [HFD.out] at hx
        obtain ⟨a1, a2, a3⟩ := HDR.out.1.rem hx
        exact ⟨a1, HDR.out.2.1.trans a2, HDR.out.2.2.trans a3⟩
      clear hc HJ q1 h1 hT
      go_wp2_with fail
      try rw [hy]
      go_region_with ((go_at_call 38; refine HCN.out.mono ?_; rintro e x ⟨rfl, hbx⟩; have HX := HE.out x hbx; have HX2 : Hid ((∃ Br', Tm x base b wb rb kb hb Bw Br' ck ch Dk Dh C (o + 1) XW XR nw nr lw lr) ∧ Kx w x ∧ Below base w x) := HX; clear HX hbx))
      all_goals
        go_wp2_with fail
        go_ret
        exact ⟨rfl, HX2.out⟩
end
end Go.Proofs.Ytgchdjjafgkcbaa.Pk
