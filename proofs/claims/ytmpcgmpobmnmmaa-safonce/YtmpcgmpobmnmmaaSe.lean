/- Put. -/
import Derived.Test.YtmpcgmpobmnmmaaSc
namespace Go.Proofs.Ytmpcgmpobmnmmaa.Se
set_option linter.unusedVariables false
set_option linter.unusedSimpArgs false
open Go.RowKit Go.Maps Lib0 Kb Xp Za Ze Sa Sb Sc
attribute [local go_sem] Oper.semAt_some
abbrev tW : TypeId := 67
def putS (S : St) (a : Av) : St := { S with L := S.L ++ [a] }
theorem infoPP : ∃ i, Try.prog.info? tP = some i ∧ i.zero = some (.pointer none) ∧ i.size = 1 ∧ i.bytes = 8 := by
  have h : (Try.prog.info? tP).map (fun i => (i.zero, i.size, i.bytes)) = some (some (.pointer none), 1, 8) := by kernel_rfl
  cases e : Try.prog.info? tP with
  | none => rw [e] at h; cases h
  | some i => rw [e] at h; simp at h; exact ⟨i, rfl, h.1, h.2.1, h.2.2⟩
theorem PQ.next {w x y : World} {base g : Nat} {S : St} (hb : base ≤ w.heap.size) (k : Below w.heap.size w x) (h : PQ x base g S y) : PQ w base g S y := ⟨h.1, (Kq.of k).trans h.2.1, (k.mono hb).trans h.2.2⟩
theorem PQ.of {w x : World} {base g : Nat} {S : St} (h : Sq w base g S) (k : Below w.heap.size w x) : PQ w base g S x := by
  obtain ⟨vw, vg, zs, hq⟩ := h
  exact ⟨⟨vw, vg, zs, hq.below k⟩, Kq.of k, k.mono hq.bas⟩
set_option maxRecDepth 100000 in
set_option maxHeartbeats 1600000 in
theorem put_full {w : World} {base g : Nat} {S : St} (h : Sq w base g S) (hf : (S.L.length : Int) = S.most) (a : Av) (v1 v2 : Value) (h1 : ∃ o n c, v1 = .slice o n c) (h2 : ∃ o n c, v2 = .slice o n c) : Calls Try.prog 20 #[.pointer (some ⟨g, 0, none⟩), av a v1 v2] w fun e w' => e = .returned (.int .i64 200) ∧ PQ w base g S w' := by
  obtain ⟨o1, n1, p1, rfl⟩ := h1
  obtain ⟨o2, n2, p2, rfl⟩ := h2
  obtain ⟨y, hy⟩ : ∃ y, w.alloc (.cells (acs a (.slice o1 n1 p1) (.slice o2 n2 p2)) tA) = y := ⟨_, rfl⟩
  have HY : Hid (Below w.heap.size w y) := hy ▸ below_one _ _
  have HS : Hid (Sq w base g S) := h
  have HD : Hid (∀ n, Below w.heap.size w (y.drewN n)) := fun n => below_drewN HY.out n
  obtain ⟨vw, vg, zs, hq⟩ := h.below HY.out
  obtain ⟨c0, -, -, c3, -⟩ := hq.cells
  obtain ⟨o, cp, rfl, -⟩ := own_form hq.row
  have hl : zs.length = S.L.length := by rw [← hq.eq, List.length_map]
  rw [hl] at c3
  have HF : Hid ((((S.L.length : Nat) : Int) == S.most) = true) := by simp [Hid, hf]
  obtain ⟨N, HN⟩ : ∃ N, Hid (S.L.length = N) := ⟨_, rfl⟩
  rw [HN.out] at c3 HF
  unfold av acs at *
  clear h hq hl hf
  go_enter Try.func20, Try.ntmps20
  go_wp2_with fail
  try rw [hy]
  have hf := HF.out
  go_quiet (fail)
  go_wp2_with fail
  go_ret
  exact ⟨rfl, PQ.of HS.out (HD.out _)⟩
/-- one more in the row -/
theorem put_end {w x y : World} {base g k g4 cap : Nat} {S : St} {vw vg : Value} {zs : List ZA} {a : Av} (h : Qm x base g S vw vg zs) (hk : Kq w x) (hb : Below base w x) (ha : Ad x base k a) (hr : y.ownsRow base tP 1 (.slice (some ⟨g4, 0, none⟩) (zs.length + 1) cap) (zs.length + 1) ((zs.map fun z => ptr z.1) ++ [ptr k])) (hg : x.grownBy y vw.ownBlock) :
    (y.cell? ⟨g, 3, none⟩ = some vw ∧ y.frozen? ⟨g, 3, none⟩ = false) ∧ PQ w base g (putS S a) (y.setCell ⟨g, 3, none⟩ (.slice (some ⟨g4, 0, none⟩) (zs.length + 1) cap)) := by
  have K1 : Kq x y := Kq.grown (Kq.refl x) h.row (.inl rfl) hg
  have hbg : y.heap[g]? = some (.cells (qcs S vw vg) tQ (0, 0)) := (hg.block g (Array.getElem?_eq_some_iff.1 h.blk).1 (fun e => by
    obtain ⟨c, hc⟩ := own_ty h.row e.symm
    exact ty_ne h.blk hc (by decide) rfl)).trans h.blk
  have hgn : y.ownsRow base tI 1 vg S.gone.length (S.gone.map iv) := own_keep h.gon fun b hb2 => hg.block b (h.gon.lt b hb2).2 (fun e => by
    obtain ⟨c, hc⟩ := own_ty h.row e.symm
    obtain ⟨c2, hc2⟩ := own_ty h.gon hb2
    exact ty_ne hc2 hc (by decide) rfl)
  have B1 : Below base x y := ⟨hg.os, hg.tape, hg.output, hg.size, fun b hb2 => hg.block b (Nat.lt_of_lt_of_le hb2 h.bas) (fun e => by
    have := Lib0.own_ge h.row b e.symm
    omega)⟩
  have K2 : Kq y (y.setCell ⟨g, 3, none⟩ (.slice (some ⟨g4, 0, none⟩) (zs.length + 1) cap)) := Kq.set (Kq.refl y) hbg _
  have hne : ∀ (t : TypeId) (sz : Nat) (v : Value) (n : Nat) (xs : List Value), t ≠ tQ → y.ownsRow base t sz v n xs → (y.setCell ⟨g, 3, none⟩ (.slice (some ⟨g4, 0, none⟩) (zs.length + 1) cap)).ownsRow base t sz v n xs := fun t sz v n xs ht ho => own_keep ho fun b hb2 => setCell_ne (p := ⟨g, 3, none⟩) (fun e => by
    obtain ⟨c, hc⟩ := own_ty ho hb2
    exact ty_ne hbg hc (fun e2 => ht e2.symm) e) _
  refine ⟨⟨by unfold qcs at hbg; simp [World.cell?, hbg], by simp [World.frozen?, hbg]⟩, ⟨.slice (some ⟨g4, 0, none⟩) (zs.length + 1) cap, vg, zs ++ [(k, a)], ?_, ?_, ?_, ?_, ?_, h.low, ?_⟩, hk.trans (K1.trans K2), (hb.trans B1).setCell h.low _⟩
  · rw [setCell_heap hbg]; rfl
  · have := hne _ _ _ _ _ (by decide) hr
    rw [List.length_append, List.length_singleton, List.map_append]
    exact this
  · rw [List.map_append, h.eq]; rfl
  · intro z hz
    rcases List.mem_append.1 hz with hz | hz
    · exact ((h.ads z hz).keep K1).keep K2
    · rw [List.mem_singleton.1 hz]; exact (ha.keep K1).keep K2
  · exact hne _ _ _ _ _ (by decide) hgn
  · rw [setCell_size]; exact Nat.le_trans h.bas hg.size
set_option maxRecDepth 100000 in
set_option maxHeartbeats 1600000 in
theorem put_ok {w : World} {base g : Nat} {S : St} (h : Sq w base g S) (ok : Ok S) (hf : ¬ (S.L.length : Int) = S.most) (a : Av) (v1 v2 : Value) (hm : Rm w a v1 v2) (hh : hasB S.L a.no = false) : Calls Try.prog 20 #[.pointer (some ⟨g, 0, none⟩), av a v1 v2] w fun e w' => e = .returned (.int .i64 0) ∧ PQ w base g (putS S a) w' := by
  obtain ⟨o1, n1, p1, rfl⟩ := hm.one.slice
  obtain ⟨o2, n2, p2, rfl⟩ := hm.two.slice
  obtain ⟨y, hy⟩ : ∃ y, w.alloc (.cells (acs a (.slice o1 n1 p1) (.slice o2 n2 p2)) tA) = y := ⟨_, rfl⟩
  have HY : Hid (Below w.heap.size w y) := hy ▸ below_one _ _
  have HBX : Hid (y.heap[w.heap.size]? = some (.cells (acs a (.slice o1 n1 p1) (.slice o2 n2 p2)) tA (0, 0))) := hy ▸ h1_0 _ _
  have HS : Hid (Sq w base g S) := h
  have HD : Hid (∀ n, Below y.heap.size y (y.drewN n)) := fun n => below_drewN (Below.refl _ y) n
  have HH : Hid (∀ x, Below w.heap.size w x → Calls Try.prog 44 #[.pointer (some ⟨g, 0, none⟩), .int .i64 a.no] x fun e w' => e = .returned (.bool false) ∧ Below x.heap.size x w') := fun x hx => hh ▸ has_any (h.below hx) ok a.no
  have HC : Hid (∀ x, Below w.heap.size w x → Calls Try.prog 42 #[.agg (acs a (.slice o1 n1 p1) (.slice o2 n2 p2))] x (PostA x a)) := fun x hx => copied_any a _ _ x (hm.below hx)
  have HL : Hid (∀ x, Below y.heap.size y x → x.heap[w.heap.size]? = some (.cells (acs a (.slice o1 n1 p1) (.slice o2 n2 p2)) tA (0, 0))) := fun x hx => kept hx HBX.out
  have HN1 : Hid (∀ x, Below y.heap.size y x → x.cell? ⟨w.heap.size, 1, none⟩ = some (.int .i64 a.no)) := fun x hx => by
    have := HL.out x hx
    unfold acs at this
    simp [World.cell?, this]
  have hlen : (S.L.length : Int) < S.most := by have := ok.len; omega
  have hmost : S.most ≤ 10000 := ok.m1
  obtain ⟨vw, vg, zs, hq⟩ := h.below HY.out
  obtain ⟨c0, -, -, c3, -⟩ := hq.cells
  obtain ⟨o, cp, rfl, -⟩ := own_form hq.row
  have hl : zs.length = S.L.length := by rw [← hq.eq, List.length_map]
  rw [hl] at c3
  have HF : Hid ((((S.L.length : Nat) : Int) == S.most) = false) := by simp [Hid, hf]
  obtain ⟨N, HN⟩ : ∃ N, Hid (S.L.length = N) := ⟨_, rfl⟩
  rw [HN.out] at c3 HF
  obtain ⟨lk, no, m1, L1, m2, L2⟩ := a
  unfold av acs at *
  dsimp only at *
  clear h hq hl hf hm hh ok
  go_enter Try.func20, Try.ntmps20
  go_wp2_with fail
  try rw [hy]
  have hf := HF.out
  go_quiet (fail)
  have n1x := fun n => HN1.out (y.drewN n) (HD.out n)
  go_wp2_with fail
  refine (HH.out _ (keepB HY.out (HD.out _))).mono ?_
  rintro e x ⟨rfl, hx⟩
  have HX : Hid (Below y.heap.size y x) := keepB (HD.out _) hx
  have HW : Hid (Below w.heap.size w x) := keepB HY.out HX.out
  have HBX2 := HL.out x HX.out
  have HBX3 : Hid _ := HBX2
  clear hx n1x HBX2 HD HL HN1 HH hf HF
  go_wp2_with (first | (refine wpList_load_row rfl tA _ rfl w.heap.size rfl _ _ _ _ HBX3.out Try.underlying54 rfl infoA ?_) | fail)
  refine (HC.out _ HW.out).mono ?_
  rintro e x2 ⟨u1, u2, rfl, r1, r2, hb⟩
  have HS2 : Hid (Sq x2 base g S) := HS.out.below (keepB HW.out hb)
  have HW2 : Hid (Below w.heap.size w x2) := keepB HW.out hb
  have HR1 : Hid (x2.ownsRow w.heap.size tF 3 u1 L1.length (fc L1)) := own_low r1 HW.out.size
  have HR2 : Hid (x2.ownsRow w.heap.size tF 3 u2 L2.length (fc L2)) := own_low r2 HW.out.size
  obtain ⟨s1, b1, rfl, -⟩ := own_form r1
  obtain ⟨s2, b2, rfl, -⟩ := own_form r2
  obtain ⟨M1, HM1⟩ : ∃ M1, Hid (L1.length = M1) := ⟨_, rfl⟩
  obtain ⟨M2, HM2⟩ : ∃ M2, Hid (L2.length = M2) := ⟨_, rfl⟩
  clear r1 r2 hb HBX3 HC c0 c3 HX
  dsimp only at *
  rw [HM1.out] at HR1
  rw [HM2.out] at HR2
  rw [HM1.out, HM2.out]
  have hbase : base ≤ w.heap.size := by obtain ⟨_, _, _, q⟩ := HS.out; exact q.bas
  obtain ⟨A, hA⟩ : ∃ A, Obj.cells #[.int .i64 lk, .int .i64 no, .string m1, .slice s1 M1 b1, .string m2, .slice s2 M2 b2] tA (0, 0) = A := ⟨_, rfl⟩
  obtain ⟨vw3, vg3, zs3, hq3⟩ := HS2.out.below (below_one x2 A)
  have hl3 : zs3.length = N := by rw [← HN.out, ← hq3.eq, List.length_map]
  obtain ⟨-, -, -, d3, -⟩ := hq3.cells
  have hform := own_form hq3.row
  rw [hl3] at hform
  obtain ⟨o3, cp3, rfl, -⟩ := hform
  have HAD : Hid (Ad (x2.alloc A) base x2.heap.size ⟨lk, no, m1, L1, m2, L2⟩) := by
    have bb := below_one x2 A
    refine ⟨Nat.le_trans hbase HW2.out.size, .slice s1 M1 b1, .slice s2 M2 b2, ?_, ?_, ?_⟩
    · rw [h1_0, ← hA]; rfl
    · dsimp only; rw [HM1.out]; exact own_low (own_keep HR1.out fun b hb => bb.block b (HR1.out.lt b hb).2) hbase
    · dsimp only; rw [HM2.out]; exact own_low (own_keep HR2.out fun b hb => bb.block b (HR2.out.lt b hb).2) hbase
  have HB4 := below_one (x2.alloc A) (.cells #[.pointer (some ⟨x2.heap.size, 0, none⟩)] tP)
  have hq4 := hq3.below HB4
  have HQ4 : Hid _ := hq4
  have hown : ((x2.alloc A).alloc (.cells #[.pointer (some ⟨x2.heap.size, 0, none⟩)] tP)).ownsRow base tP 1 (.slice o3 N cp3) N (zs3.map fun z => ptr z.1) := by have := hq4.row; rwa [hl3] at this
  have HOWN : Hid _ := hown
  have HEND : Hid (∀ g4 cap y, y.ownsRow base tP 1 (.slice (some ⟨g4, 0, none⟩) (N + 1) cap) (N + 1) ((zs3.map fun z => ptr z.1) ++ [ptr x2.heap.size]) → ((x2.alloc A).alloc (.cells #[.pointer (some ⟨x2.heap.size, 0, none⟩)] tP)).grownBy y (Value.slice o3 N cp3).ownBlock → (y.cell? ⟨g, 3, none⟩ = some (.slice o3 N cp3) ∧ y.frozen? ⟨g, 3, none⟩ = false) ∧ Hid (PQ w base g (putS S ⟨lk, no, m1, L1, m2, L2⟩) (y.setCell ⟨g, 3, none⟩ (.slice (some ⟨g4, 0, none⟩) (N + 1) cap)))) := by
    have bb : Below w.heap.size w ((x2.alloc A).alloc (.cells #[.pointer (some ⟨x2.heap.size, 0, none⟩)] tP)) := keepB HW2.out (below_two x2 _ _)
    rw [← hl3] at hq4 ⊢
    exact fun g4 cap y hr hg => put_end hq4 (Kq.of bb) (bb.mono hbase) (HAD.out.keep (Kq.of HB4)) hr hg
  have hcell : ∀ j u, [ptr x2.heap.size][j]? = some u → ((x2.alloc A).alloc (.cells #[.pointer (some ⟨x2.heap.size, 0, none⟩)] tP)).cell? ((⟨x2.heap.size + 1, 0, none⟩ : Addr).add j) = some u := fun j u hj => by
    have hj0 : j = 0 := by have := (List.getElem?_eq_some_iff.1 hj).1; simpa using this
    subst hj0
    injection hj with hj
    rw [← hj, add_zero]
    exact (cell_of_row _ _ _ _ _ _ (h2_1 x2 A _)).trans rfl
  have HCELL : Hid _ := hcell
  have hszN : N + 1 ≤ 10000 := by rw [HN.out] at hlen; omega
  obtain ⟨i, hi, hz, hsz, hby⟩ := infoPP
  have HI : Hid (Try.prog.info? tP = some i ∧ i.zero = some (.pointer none) ∧ i.size = 1 ∧ i.bytes = 8) := ⟨hi, hz, hsz, hby⟩
  clear hq3 hq4 hown HB4 hcell hi hz hsz hby hl3 HR1 HR2 HAD HQ4
  subst hA
  unfold av acs
  go_wp2_with (at_builtin; refine wpList_append_lies _ rfl _ _ _ rfl base tP i _ 1 8 Try.underlying67 HI.out.1 HI.out.2.1 HI.out.2.2.1 HI.out.2.2.2 rfl (by omega) _ N _ rfl HOWN.out ⟨x2.heap.size + 1, 0, none⟩ 1 1 _ rfl (by rfl) HCELL.out (by simp [ptr, Value.oneCell']) (by omega) (by unfold maxLen; omega) (by omega) (by first | (have := HW2.out.size; simp; omega)) (x2.heap.size + 1 + 1) (by simp) ?_; intro g4 cap4 y4 hown4 hgr4 _ _; obtain ⟨⟨e1, e2⟩, HE⟩ := HEND.out g4 cap4 y4 hown4 hgr4; clear hown4 hgr4)
  go_ret
  exact ⟨rfl, HE.out⟩
end Go.Proofs.Ytmpcgmpobmnmmaa.Se
