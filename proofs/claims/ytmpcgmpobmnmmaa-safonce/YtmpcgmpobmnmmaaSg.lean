/- giveUp. -/
import Derived.Test.YtmpcgmpobmnmmaaSf
namespace Go.Proofs.Ytmpcgmpobmnmmaa.Sg
set_option linter.unusedVariables false
set_option linter.unusedSimpArgs false
open Go.RowKit Go.Maps Lib0 Kb Xp Za Ze Sa Sb Sc Sd Se Sf
attribute [local go_sem] Oper.semAt_some
attribute [-go_sem] Builtin.append_
abbrev tIs : TypeId := 46
theorem infoI : ∃ i, Try.prog.info? tI = some i ∧ i.zero = some (.int .i64 0) ∧ i.size = 1 ∧ i.bytes = 8 := by
  have h : (Try.prog.info? tI).map (fun i => (i.zero, i.size, i.bytes)) = some (some (.int .i64 0), 1, 8) := by kernel_rfl
  cases e : Try.prog.info? tI with
  | none => rw [e] at h; cases h
  | some i => rw [e] at h; simp at h; exact ⟨i, rfl, h.1, h.2.1, h.2.2⟩
def addG (S : St) (n : Int) : St := { S with gone := S.gone ++ [n] }
def deadS (S : St) : St := { S with dead := if S.dead < 10000 then S.dead + 1 else S.dead }
/-- one more in the list of those that were given up -/
theorem gone_end {w x y : World} {base g g4 cap : Nat} {S : St} {vw vg : Value} {zs : List ZA} {n : Int} (h : Qm x base g S vw vg zs) (hk : Kq w x) (hb : Below base w x) (hr : y.ownsRow base tI 1 (.slice (some ⟨g4, 0, none⟩) (S.gone.length + 1) cap) (S.gone.length + 1) ((S.gone.map iv) ++ [iv n])) (hg : x.grownBy y vg.ownBlock) :
    (y.cell? ⟨g, 7, none⟩ = some vg ∧ y.frozen? ⟨g, 7, none⟩ = false) ∧ PQ w base g (addG S n) (y.setCell ⟨g, 7, none⟩ (.slice (some ⟨g4, 0, none⟩) (S.gone.length + 1) cap)) := by
  have K1 : Kq x y := Kq.grown (Kq.refl x) h.gon (.inr rfl) hg
  have hbg : y.heap[g]? = some (.cells (qcs S vw vg) tQ (0, 0)) := (hg.block g (Array.getElem?_eq_some_iff.1 h.blk).1 (fun e => by
    obtain ⟨c, hc⟩ := own_ty h.gon e.symm
    exact ty_ne h.blk hc (by decide) rfl)).trans h.blk
  have hgn : y.ownsRow base tP 1 vw zs.length (zs.map fun z => ptr z.1) := own_keep h.row fun b hb2 => hg.block b (h.row.lt b hb2).2 (fun e => by
    obtain ⟨c, hc⟩ := own_ty h.gon e.symm
    obtain ⟨c2, hc2⟩ := own_ty h.row hb2
    exact ty_ne hc2 hc (by decide) rfl)
  have B1 : Below base x y := ⟨hg.os, hg.tape, hg.output, hg.size, fun b hb2 => hg.block b (Nat.lt_of_lt_of_le hb2 h.bas) (fun e => by
    have := Lib0.own_ge h.gon b e.symm
    omega)⟩
  have K2 : Kq y (y.setCell ⟨g, 7, none⟩ (.slice (some ⟨g4, 0, none⟩) (S.gone.length + 1) cap)) := Kq.set (Kq.refl y) hbg _
  have hne : ∀ (t : TypeId) (sz : Nat) (v : Value) (n : Nat) (xs : List Value), t ≠ tQ → y.ownsRow base t sz v n xs → (y.setCell ⟨g, 7, none⟩ (.slice (some ⟨g4, 0, none⟩) (S.gone.length + 1) cap)).ownsRow base t sz v n xs := fun t sz v n xs ht ho => own_keep ho fun b hb2 => setCell_ne (p := ⟨g, 7, none⟩) (fun e => by
    obtain ⟨c, hc⟩ := own_ty ho hb2
    exact ty_ne hbg hc (fun e2 => ht e2.symm) e) _
  refine ⟨⟨by unfold qcs at hbg; simp [World.cell?, hbg], by simp [World.frozen?, hbg]⟩, ⟨vw, .slice (some ⟨g4, 0, none⟩) (S.gone.length + 1) cap, zs, ?_, hne _ _ _ _ _ (by decide) hgn, h.eq, fun z hz => ((h.ads z hz).keep K1).keep K2, ?_, h.low, ?_⟩, hk.trans (K1.trans K2), (hb.trans B1).setCell h.low _⟩
  · rw [setCell_heap hbg]; rfl
  · have := hne _ _ _ _ _ (by decide) hr
    show World.ownsRow _ _ _ _ _ (S.gone ++ [n]).length ((S.gone ++ [n]).map iv)
    rw [List.length_append, List.length_singleton, List.map_append]
    exact this
  · rw [setCell_size]; exact Nat.le_trans h.bas hg.size
theorem ok_dead {S : St} (h : Ok S) (hg : S.gone.length < 1000000) (n : Int) : Ok (deadS (addG S n)) := by
  obtain ⟨a1, a2, a3, a4, a5, a6, a7, a8, a9, a10, a11, a12, a13, a14, a15, a16⟩ := h
  refine ⟨a1, a2, a3, a4, a5, a6, a7, a8, a9, a10, ?_, ?_, a13, a14, a15, ?_⟩
  · show 0 ≤ (if S.dead < 10000 then S.dead + 1 else S.dead)
    split <;> omega
  · show (if S.dead < 10000 then S.dead + 1 else S.dead) ≤ 10000
    split <;> omega
  · simp only [deadS, addG, List.length_append, List.length_singleton]; omega
theorem ok_out {S : St} (h : Ok S) : Ok (outS S) := by
  obtain ⟨a1, a2, a3, a4, a5, a6, a7, a8, a9, a10, a11, a12, a13, a14, a15, a16⟩ := h
  refine ⟨a1, a2, a3, a4, a5, a6, Int.le_refl _, by show (0 : Int) ≤ S.tries; omega, Int.le_refl _, by show (0 : Int) ≤ S.retry; omega, a11, a12, ?_, (fun e => by cases e), fun a ha => a15 a (List.mem_of_mem_tail ha), a16⟩
  show ((S.L.tail.length : Nat) : Int) ≤ S.most
  rw [List.length_tail]
  omega
set_option maxRecDepth 100000 in
set_option maxHeartbeats 3200000 in
theorem giveUp_any {w : World} {base g : Nat} {S : St} (h : Sq w base g S) (ok : Ok S) (hgn : S.gone.length < 1000000) (a : Av) (L : List Av) (hL : S.L = a :: L) : Calls Try.prog 46 #[.pointer (some ⟨g, 0, none⟩)] w fun e w' => e = .returned (.tuple #[]) ∧ PQ w base g (outS (deadS (addG S a.no))) w' := by
  have HO : Hid (Ok S) := ok
  have HL : Hid (S.L = a :: L) := hL
  have HLT : Hid (S.gone.length < 1000000) := hgn
  have HDR : Hid (Below w.heap.size w w.drew) := (Below.refl _ w).drew
  obtain ⟨vw, vg, zs, h⟩ := h
  have hbase := h.bas
  have hd := h.below HDR.out
  obtain ⟨-, -, -, c3, -, -, -, c7, -⟩ := hd.cells
  obtain ⟨rb, cap, k, rfl, d0, d1, -⟩ := first_cells hd hL
  obtain ⟨no, hno⟩ : ∃ no, a.no = no := ⟨_, rfl⟩
  rw [hno] at d1 ⊢
  obtain ⟨x, hx⟩ : ∃ x, w.drew.alloc (.cells #[.int .i64 no] tI) = x := ⟨_, rfl⟩
  have hxb : Below w.drew.heap.size w.drew x := hx ▸ below_one _ _
  have hq := hd.below hxb
  obtain ⟨-, -, -, e3, -, -, -, e7, -⟩ := hq.cells
  obtain ⟨og, cg, rfl, -⟩ := own_form h.gon
  obtain ⟨i, hi, hz, hsz, hby⟩ := infoI
  have hs : w.drew.heap.size = w.heap.size := rfl
  obtain ⟨g4, cap4, y, hrun, hown4, hgr4, -, -⟩ := run_append_lies (P := Try.prog) x tIs 46 base tI i _ 1 8 Try.underlying46 hi hz hsz hby rfl (by omega) _ S.gone.length _ hq.gon ⟨w.heap.size, 0, none⟩ 1 1 [iv no] rfl (fun j u hj => by
    have hj0 : j = 0 := by have := (List.getElem?_eq_some_iff.1 hj).1; simpa using this
    subst hj0
    injection hj with hj
    rw [← hj, add_zero, ← hx]
    exact (cell_of_row _ _ _ _ _ _ (h1_0 w.drew _)).trans rfl) (by simp [iv, Value.oneCell']) (by omega) (by unfold maxLen; omega) (by omega) hq.bas _ rfl
  have bwx : Below w.heap.size w x := keepB HDR.out hxb
  obtain ⟨⟨y1, y2⟩, hpq⟩ := gone_end hq (Kq.of bwx) (bwx.mono hbase) hown4 hgr4
  have HPQ : Hid _ := hpq
  have HNEXT : Hid (∀ z, PQ w base g (addG S no) z → (z.cell? ⟨g, 8, none⟩ = some (.int .i64 S.dead) ∧ z.frozen? ⟨g, 8, none⟩ = false) ∧ Hid (Calls Try.prog 48 #[.pointer (some ⟨g, 0, none⟩)] (z.setCell ⟨g, 8, none⟩ (.int .i64 (deadS S).dead)) fun e w' => e = .returned (.tuple #[]) ∧ PQ w base g (outS (deadS (addG S no))) w')) := by
    rintro z ⟨⟨uw, ug, us, hu⟩, hk, hb⟩
    obtain ⟨-, -, -, -, -, -, -, -, e8⟩ := hu.cells
    obtain ⟨h1, h2, h3⟩ := hu.set (o := 8) (S' := deadS (addG S no)) (.int .i64 (deadS S).dead) rfl rfl rfl
    refine ⟨⟨e8, hu.frz 8⟩, (takeOut_any ⟨uw, ug, us, h1⟩ (ok_dead ok hgn no) (by show S.L ≠ []; rw [hL]; simp)).mono ?_⟩
    rintro e y ⟨rfl, p1, p2, p3⟩
    exact ⟨rfl, p1, hk.trans (h2.trans p2), hb.trans (h3.trans p3)⟩
  generalize S.gone.length = G at *
  generalize L.length = N at *
  have HC : Hid (∀ z, Calls Try.prog 47 #[.int .i64 S.dead, .int .i64 1, .int .i64 10000] z fun e w' => e = .returned (.int .i64 (deadS S).dead) ∧ w' = z) := fun z => up_any S.dead 10000 z ok.d0 ok.d1 (by omega)
  clear h hd hq ok hL hpq hown4 hgr4 hi hz hsz hby bwx hxb hs hgn hno
  go_enter Try.func46, Try.ntmps46
  go_wp2_with fail
  go_region_with (fail)
  all_goals (obtain ⟨⟨e8, f8⟩, HT⟩ := HNEXT.out _ HPQ.out)
  all_goals (go_wp2_with fail)
  all_goals (refine (HC.out _).mono ?_; rintro e z2 ⟨rfl, rfl⟩)
  all_goals (go_wp2_with fail)
  all_goals (refine HT.out.mono ?_; rintro e z2 ⟨rfl, hz2⟩)
  all_goals (go_wp2_with fail)
  all_goals go_end0
  all_goals exact ⟨rfl, hz2⟩
end Go.Proofs.Ytmpcgmpobmnmmaa.Sg
