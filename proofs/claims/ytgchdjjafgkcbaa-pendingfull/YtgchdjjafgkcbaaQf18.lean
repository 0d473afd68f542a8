import Derived.Test.YtgchdjjafgkcbaaQf17
/- forget. -/
namespace Go.Proofs.Ytgchdjjafgkcbaa.Pj
set_option linter.unusedVariables false
set_option linter.unusedSimpArgs false
open Go.RowKit Go.Maps Lib0 Kb Xp Za Ze Ih Fh Hh Pa Pb Pc Pe Pf Pg
attribute [local go_sem] Oper.semAt_some
theorem hcells {x : World} {g : Nat} {r : Rq} {v1 v2 : Value} {t : Int} {l : Bool} (h : x.heap[g]? = some (.cells (hcs r v1 v2 t l) tH (0, 0))) : x.cell? ⟨g, 0, none⟩ = some (.int .i64 r.link) ∧ x.cell? ⟨g, 1, none⟩ = some (.int .i64 r.cls) ∧ x.cell? ⟨g, 2, none⟩ = some (.string r.num) ∧ x.cell? ⟨g, 3, none⟩ = some (.string r.stp) ∧ x.cell? ⟨g, 4, none⟩ = some (.string r.trm) ∧ x.cell? ⟨g, 5, none⟩ = some (.int .i64 r.frm) ∧ x.cell? ⟨g, 6, none⟩ = some (.int .i64 r.to_) ∧ x.cell? ⟨g, 7, none⟩ = some (.int .i64 r.no) ∧ x.cell? ⟨g, 8, none⟩ = some (.string r.m1) ∧ x.cell? ⟨g, 9, none⟩ = some v1 ∧ x.cell? ⟨g, 10, none⟩ = some (.string r.m2) ∧ x.cell? ⟨g, 11, none⟩ = some v2 := by
  unfold hcs at h
  refine ⟨?_, ?_, ?_, ?_, ?_, ?_, ?_, ?_, ?_, ?_, ?_, ?_⟩ <;> simp [World.cell?, h]
section
variable {w : World} {base b wb rb kb hb : Nat} {Bw Br : Nat → Prop} {ck ch : Nat} {Dk Dh : DataW Value} {C : Cf} {old : Int} {XW XR : LT} {nw nr lw lr : Int}
/-- a block of a request's type is written -/
theorem Tm.setP (h : Tm w base b wb rb kb hb Bw Br ck ch Dk Dh C old XW XR nw nr lw lr) {g : Nat} {c : Array Value} (hg : w.heap[g]? = some (.cells c tP (0, 0))) (c' : Array Value) : Tm (w.setRow g c') base b wb rb kb hb Bw Br ck ch Dk Dh C old XW XR nw nr lw lr := by
  have ne : ∀ k, k ≠ g → (w.setRow g c').heap[k]? = w.heap[k]? := fun k hk => setRow_ne (fun e : g = k => hk e.symm) c'
  have n1 := wl_kind h.ww hg ⟨by decide, by decide, by decide⟩
  have n2 := wl_kind h.wr hg ⟨by decide, by decide, by decide⟩
  exact ⟨(ne b (ty_ne h.blk hg (by decide))).trans h.blk, h.ww.keep (fun k hk => ne k (fun e => n1 (e ▸ hk))), h.wr.keep (fun k hk => ne k (fun e => n2 (e ▸ hk))), map_keep h.keys (ne _ (map_blk h.keys hg).symm), map_keep h.held (ne _ (map_blk h.held hg).symm), h.apart, h.nk, h.nh, h.kh, h.low, h.loww, h.lowr, by have := h.base_; simpa [World.setRow] using this⟩
theorem Kx.fresh {w x : World} (h : Kx w x) {k : Nat} (hk : w.heap.size ≤ k) (c : Array Value) : Kx w (x.setRow k c) := ⟨h.os, h.tape, h.output, by have := h.size; simpa [World.setRow] using this, fun g c2 t fr hg a b d e => (setRow_ne (by have := (Array.getElem?_eq_some_iff.1 hg).1; omega) c).trans (h.block g c2 t fr hg a b d e)⟩
theorem row_setP {x : World} {k n : Nat} {c : Array Value} (hk : x.heap[k]? = some (.cells c tP (0, 0))) {v : Value} {xs : List Value} (h : x.ownsRow base tF 3 v n xs) (c' : Array Value) : (x.setRow k c').ownsRow base tF 3 v n xs := own_keep h fun g hg => by
  obtain ⟨cc, hc⟩ := own_ty h hg
  exact setRow_ne (fun e => ty_ne hk hc (by decide) e) c'
set_option maxRecDepth 100000 in
set_option maxHeartbeats 1600000 in
theorem forget_any (h : Tm w base b wb rb kb hb Bw Br ck ch Dk Dh C old XW XR nw nr lw lr) {g : Nat} {r : Rq} {t0 : Int} {l0 : Bool} (hd : Hd w base g r t0 l0) (ho : Ro r) :
    Calls Try.prog 28 #[.pointer (some ⟨b, 0, none⟩), .pointer (some ⟨g, 0, none⟩)] w fun e w' => ∃ v1 v2, e = .returned (pv r v1 v2) ∧ Tm w' base b wb rb kb hb Bw Br ck ch Dk (Dh.del (nl r)) C old XW XR nw nr lw lr ∧ w'.ownsRow base tF 3 v1 r.L1.length (fc r.L1) ∧ w'.ownsRow base tF 3 v2 r.L2.length (fc r.L2) ∧ Kx w w' ∧ Below base w w' := by
  obtain ⟨h0, v1, v2, hg, hr1, hr2⟩ := hd
  obtain ⟨o1, p1, e1, -⟩ := own_form hr1
  obtain ⟨o2, p2, e2, -⟩ := own_form hr2
  obtain ⟨K1, HK1⟩ : ∃ K1, Hid (r.L1.length = K1) := ⟨_, rfl⟩
  obtain ⟨K2, HK2⟩ : ∃ K2, Hid (r.L2.length = K2) := ⟨_, rfl⟩
  rw [HK1.out] at e1 hr1 ⊢
  rw [HK2.out] at e2 hr2 ⊢
  subst e1 e2
  obtain ⟨y, hy⟩ : ∃ y, w.alloc (.cells #[.int .i64 0, .int .i64 0, .string ⟨#[]⟩, .string ⟨#[]⟩, .string ⟨#[]⟩, .int .i64 0, .int .i64 0, .int .i64 0, .string ⟨#[]⟩, .slice none 0 0, .string ⟨#[]⟩, .slice none 0 0] tP) = y := ⟨_, rfl⟩
  have HY : Hid (Below w.heap.size w y) := hy ▸ below_one _ _
  have HZ : Hid (y.heap[w.heap.size]? = some (.cells zP tP (0, 0))) := hy ▸ h1_0 _ _
  have HG : Hid (∀ x, Below y.heap.size y x → x.heap[g]? = some (.cells (hcs r (.slice o1 K1 p1) (.slice o2 K2 p2) t0 l0) tH (0, 0))) := fun x hx => kept hx (kept HY.out hg)
  have HT : Hid (∀ x, Below y.heap.size y x → Tm x base b wb rb kb hb Bw Br ck ch Dk Dh C old XW XR nw nr lw lr) := fun x hx => h.below (keepB HY.out hx)
  have HN : Hid (∀ x, Calls Try.prog 24 #[pv r (.slice o1 K1 p1) (.slice o2 K2 p2)] x fun e w' => e = .returned (nv r) ∧ Below x.heap.size x w') := fun x => Pd.nameOf_any r _ _ x ⟨_, _, _, rfl⟩ ⟨_, _, _, rfl⟩
  have HBS : Hid (base ≤ w.heap.size) := h.base_
  have HDR : Hid (Below y.heap.size y y.drew) := (Below.refl _ _).drew
  have HDEL : Hid (∀ x, Below y.heap.size y x → x.cell? ⟨b, 7, none⟩ = some (.map (some hb)) ∧ ∃ w', (Builtin.delete_ #[tMH, tN] 0 #[.map (some hb), nv r]).run Try.prog x = .ok (.tuple #[]) w' ∧ Hid (w'.heap[w.heap.size]? = some (.cells zP tP (0, 0)) ∧ w'.heap[g]? = some (.cells (hcs r (.slice o1 K1 p1) (.slice o2 K2 p2) t0 l0) tH (0, 0)) ∧ Tm w' base b wb rb kb hb Bw Br ck ch Dk (Dh.del (nl r)) C old XW XR nw nr lw lr ∧ w'.ownsRow base tF 3 (.slice o1 K1 p1) K1 (fc r.L1) ∧ w'.ownsRow base tF 3 (.slice o2 K2 p2) K2 (fc r.L2) ∧ Kx w w' ∧ Below base w w')) := fun x hx => by
    have hT := HT.out x hx
    obtain ⟨w', hr, ho2, ht⟩ := hT.held.drop lawN Try.underlying66 (nl_of ho) 0
    have hkx : Kx w w' := ((Kx.of HY.out).trans (Kx.of hx)).trans (kx_of_map ht)
    have hzz := kept hx HZ.out
    refine ⟨hT.cells.2.2.2.2.2.2.2, w', hr, (turned_block ht (Array.getElem?_eq_some_iff.1 hzz).1 (map_blk hT.held hzz)).trans hzz, ?_, hT.hel ho2 ht, hkx.row hr1, hkx.row hr2, hkx, ?_⟩
    · exact (hkx.block _ _ _ _ hg (by decide) (by decide) (by decide) (by decide)).trans hg
    · exact ((keepB HY.out hx).mono h.base_).trans (turned_below ht hT.low.2.2 hT.base_)
  obtain ⟨d0, d1, d2, d3, d4, d5, d6, d7, d8, d9, d10, d11⟩ := hcells (HG.out y (Below.refl _ _))
  have d77 := (HDEL.out y (Below.refl _ _)).1
  unfold pv at HN ⊢
  obtain ⟨lk, cl, nu, st, tr, fr, to_, no, m1, L1, m2, L2⟩ := r
  simp only [pcs, nv, nameV] at HN HDEL ⊢
  dsimp only at d0 d1 d2 d3 d4 d5 d6 d7 d8 d10
  clear h ho hg hr1 hr2 HG HT
  go_enter Try.func28, Try.ntmps28
  go_wp2_with fail
  try rw [hy]
  go_region_with ((go_at_call 24; refine (HN.out _).mono ?_; rintro e x ⟨rfl, hbx⟩; obtain ⟨a7, w3, hrun, HEND⟩ := HDEL.out x (keepB HDR.out hbx); clear hbx))
  all_goals
    obtain ⟨c0, c1, c2, c3, c4, c5, c6, c7, c8, c9, c10, c11⟩ := hcells HEND.out.2.1
    dsimp only at c0 c1 c2 c3 c4 c5 c6 c7 c8 c10
    clear hrun
    go_wp2_with (first | (refine wpList_store_row rfl tP _ _ rfl w.heap.size _ rfl rfl _ _ HEND.out.1 infoP rfl (by simp [Value.oneCell']) ?_) | fail)
    refine bodyPost_ret (v := .agg #[.int .i64 lk, .int .i64 cl, .string nu, .string st, .string tr, .int .i64 fr, .int .i64 to_, .int .i64 no, .string m1, .slice o1 K1 p1, .string m2, .slice o2 K2 p2]) (results_cell_row (fn := Try.f28) rfl _ _ w.heap.size tP _ _ _ rfl (setRow_at HEND.out.1 #[.int .i64 lk, .int .i64 cl, .string nu, .string st, .string tr, .int .i64 fr, .int .i64 to_, .int .i64 no, .string m1, .slice o1 K1 p1, .string m2, .slice o2 K2 p2]) Try.underlying48 rfl infoP) rfl ⟨.slice o1 K1 p1, .slice o2 K2 p2, rfl, Tm.setP HEND.out.2.2.1 HEND.out.1 _, row_setP HEND.out.1 HEND.out.2.2.2.1 _, row_setP HEND.out.1 HEND.out.2.2.2.2.1 _, Kx.fresh HEND.out.2.2.2.2.2.1 (Nat.le_refl _) _, below_setRow HEND.out.2.2.2.2.2.2 HBS.out _⟩
end
end Go.Proofs.Ytgchdjjafgkcbaa.Pj
/- stopOldest. -/
namespace Go.Proofs.Ytgchdjjafgkcbaa.Pk
set_option linter.unusedVariables false
set_option linter.unusedSimpArgs false
open Go.RowKit Go.Maps Lib0 Kb Xp Za Ze Ih Fh Hh Pa Pb Pc Pe Pf Pg
attribute [local go_sem] Oper.semAt_some
def numC (w : World) (b o : Nat) : Int := match w.cell? ⟨b, o, none⟩ with | some (.int _ n) => n | _ => 0
theorem numC_of {w : World} {b o : Nat} {n : Int} (h : w.cell? ⟨b, o, none⟩ = some (.int .i64 n)) : numC w b o = n := by simp [numC, h]
theorem drop_head {x : XT} {L : LT} (hi : Inc (x :: L)) : (x :: L).filter (fun y => !(y.1 == x.1)) = L := by
  rw [Inc, List.pairwise_cons] at hi
  rw [List.filter_cons, if_neg (by simp), List.filter_eq_self]
  intro y hy
  have := hi.1 y hy
  have e : ¬ y.1 = x.1 := by omega
  simp [e]
section
variable {w : World} {base b wb rb kb hb : Nat} {Bw Br : Nat → Prop} {ck ch : Nat} {Dk Dh : DataW Value} {C : Cf} {old : Int} {XW XR : LT} {nw nr lw lr : Int}
theorem kx_old (h : Tm w base b wb rb kb hb Bw Br ck ch Dk Dh C old XW XR nw nr lw lr) (v : Value) : Kx w (w.setCell ⟨b, 4, none⟩ v) ∧ Below base w (w.setCell ⟨b, 4, none⟩ v) :=
  ⟨⟨rfl, rfl, rfl, by rw [setCell_size]; exact Nat.le_refl _, fun k c2 t fr hk a b2 d e => setCell_ne (p := ⟨b, 4, none⟩) (fun e2 : b = k => a (by subst e2; rw [h.blk] at hk; injection hk with hk; injection hk with _ hk; exact hk.symm)) v⟩, (Below.refl _ w).setCell h.low.1 _⟩
set_option maxRecDepth 100000 in
set_option maxHeartbeats 3200000 in
theorem stopOldest_any {x0 : XT} (h : Tm w base b wb rb kb hb Bw Br ck ch Dk Dh C old XW (x0 :: XR) nw nr lw lr) (ok : Ok 256 (x0 :: XR) nr lr) (h0 : 0 ≤ old) (h1 : old < x0.1) (hl : lr ≤ 5864062014805) :
    Calls Try.prog 33 #[.pointer (some ⟨b, 0, none⟩)] w fun e w' => e = .returned x0.2.2 ∧ (∃ Br', Tm w' base b wb rb kb hb Bw Br' ck ch Dk Dh C x0.1 XW XR nw nr lw lr) ∧ Kx w w' ∧ Below base w w' := by
  obtain ⟨T, tk, th⟩ := x0
  have hT := ok.num (T, tk, th) (by simp)
  dsimp only at h1 hT
  have HLO : Hid (∀ o : Int, o < T → lkG ((T, tk, th) :: XR) o = none) := fun o ho => lkG_none.2 fun y hy => by
    rcases List.mem_cons.1 hy with rfl | hy
    · dsimp only; omega
    · have := (List.pairwise_cons.1 ok.inc).1 y hy
      dsimp only at this; omega
  have HLT : Hid (lkG ((T, tk, th) :: XR) T = some (T, tk, th)) := lkG_of_mem ok.inc (x := (T, tk, th)) (by simp)
  have HOK : Hid (Ok 256 ((T, tk, th) :: XR) nr lr) := ok
  have HFD : Hid (((T, tk, th) :: XR).filter (fun y => !(y.1 == T)) = XR) := drop_head ok.inc
  have HB0 : Hid (Tm w base b wb rb kb hb Bw Br ck ch Dk Dh C old XW ((T, tk, th) :: XR) nw nr lw lr) := h
  have HTB : Hid (T ≤ 5864062014805) := by show T ≤ _; omega
  clear h ok
  go_enter Try.func33, Try.ntmps33
  go_wp2_with fail
  go_loopw [] (fun wr => ∃ o : Int, 0 ≤ o ∧ o < T ∧ Hid (Tm wr base b wb rb kb hb Bw Br ck ch Dk Dh C o XW ((T, tk, th) :: XR) nw nr lw lr ∧ Kx w wr ∧ Below base w wr)) (fun wr => (T - numC wr b 4).toNat)
  case atStart => exact ⟨old, h0, h1, HB0.out, Kx.refl w, Below.refl _ _⟩
  case round =>
    obtain ⟨o, q0, q1, HJ⟩ := hrel
    obtain ⟨-, -, -, -, c4, -⟩ := HJ.out.1.cells
    have f4 : wr.frozen? ⟨b, 4, none⟩ = false := by simp [World.frozen?, HJ.out.1.blk]
    have HM0 : Hid (numC wr b 4 = o) := numC_of c4
    obtain ⟨y, hy⟩ : ∃ y, wr.setCell ⟨b, 4, none⟩ (.int .i64 (o + 1)) = y := ⟨_, rfl⟩
    have HY : Hid (Tm y base b wb rb kb hb Bw Br ck ch Dk Dh C (o + 1) XW ((T, tk, th) :: XR) nw nr lw lr ∧ Kx w y ∧ Below base w y) := hy ▸ ⟨HJ.out.1.setOld (o + 1), HJ.out.2.1.trans (kx_old HJ.out.1 _).1, HJ.out.2.2.trans (kx_old HJ.out.1 _).2⟩
    obtain ⟨-, d1, -, -, d4, -⟩ := HY.out.1.cells
    have HDR : Hid (Tm y.drew base b wb rb kb hb Bw Br ck ch Dk Dh C (o + 1) XW ((T, tk, th) :: XR) nw nr lw lr ∧ Kx w y.drew ∧ Below base w y.drew) := ⟨HY.out.1.below ((Below.refl _ _).drew), HY.out.2.1.trans (Kx.of ((Below.refl _ _).drew)), HY.out.2.2.trans (((Below.refl _ _).drew).mono HY.out.1.base_)⟩
    obtain ⟨-, e1, -, -, e4, -⟩ := HDR.out.1.cells
    have q2 : o + 1 ≤ 9223372036854775807 := by have := HTB.out; omega
    have q3 : -9223372036854775808 ≤ o + 1 := by omega
    have HWF : Hid ((Lit.int .i64 (o + 1)).wf = true) := Hh.wf64 (by omega) q2
    by_cases hc : o + 1 < T
    · have HCN : Hid (Calls Try.prog 38 #[.pointer (some ⟨rb, 0, none⟩), .int .i64 (o + 1)] y.drew fun e w' => e = .returned (.tuple #[.pointer none, .int .i64 170]) ∧ Below y.drew.heap.size y.drew w') := Ch.cancel_no y.drew rb Br 256 _ nr lr (o + 1) HDR.out.1.wr HWF.out (HLO.out (o + 1) hc)
      have HE : Hid (∀ x, Below y.drew.heap.size y.drew x → (Tm x base b wb rb kb hb Bw Br ck ch Dk Dh C (o + 1) XW ((T, tk, th) :: XR) nw nr lw lr ∧ Kx w x ∧ Below base w x)) := fun x hx => ⟨HDR.out.1.below hx, HDR.out.2.1.trans (Kx.of hx), HDR.out.2.2.trans (hx.mono HDR.out.1.base_)⟩
      have HC : Hid (o + 1 < T) := hc
      have HQ : Hid (0 ≤ o) := q0
      clear hc HJ q1
      go_wp2_with fail
      try rw [hy]
      go_region_with ((go_at_call 38; refine HCN.out.mono ?_; rintro e x ⟨rfl, hbx⟩; have HX := HE.out x hbx; have HX2 : Hid (Tm x base b wb rb kb hb Bw Br ck ch Dk Dh C (o + 1) XW ((T, tk, th) :: XR) nw nr lw lr ∧ Kx w x ∧ Below base w x) := HX; clear HX hbx))
      all_goals
        go_wp2_with fail
        go_round
        case rel => exact ⟨o + 1, by have := HQ.out; omega, HC.out, HX2.out⟩
        case measure => rw [HM0.out, numC_of HX2.out.1.cells.2.2.2.2.1]; have := HC.out; omega
    · obtain rfl : T = o + 1 := by omega
      have HCN : Hid (Calls Try.prog 38 #[.pointer (some ⟨rb, 0, none⟩), .int .i64 (o + 1)] y.drew fun e w' => e = .returned (.tuple #[th, .int .i64 0]) ∧ Trn y.drew rb Br 256 (((o + 1, tk, th) :: XR).filter fun y => !(y.1 == o + 1)) nr lr w') := Ch.cancel_yes y.drew rb Br 256 _ nr lr (o + 1) (o + 1, tk, th) HDR.out.1.wr HOK.out hl HWF.out HLT.out
      have HE : Hid (∀ x, Trn y.drew rb Br 256 (((o + 1, tk, th) :: XR).filter fun y => !(y.1 == o + 1)) nr lr x → ((∃ Br', Tm x base b wb rb kb hb Bw Br' ck ch Dk Dh C (o + 1) XW XR nw nr lw lr) ∧ Kx w x ∧ Below base w x)) := fun x hx => by
        rw [HFD.out] at hx
        obtain ⟨a1, a2, a3⟩ := HDR.out.1.rem hx
        exact ⟨a1, HDR.out.2.1.trans a2, HDR.out.2.2.trans a3⟩
      clear hc HJ q1 h1 hT
      go_wp2_with fail
      try rw [hy]
      go_region_with ((go_at_call 38; refine HCN.out.mono ?_; rintro e x ⟨rfl, hbx⟩; have HX := HE.out x hbx; have HX2 : Hid ((∃ Br', Tm x base b wb rb kb hb Bw Br' ck ch Dk Dh C (o + 1) XW XR nw nr lw lr) ∧ Kx w x ∧ Below base w x) := HX; clear HX hbx))
      all_goals
        go_wp2_with fail
        go_ret
        exact ⟨rfl, HX2.out⟩
end
end Go.Proofs.Ytgchdjjafgkcbaa.Pk
