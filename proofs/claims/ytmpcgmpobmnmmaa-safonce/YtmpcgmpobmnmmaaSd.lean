/- takeOut: the first one waits no more. -/
import Derived.Test.YtmpcgmpobmnmmaaSc
import Derived.Test.YtmpcgmpobmnmmaaQt
import Derived.Laws.CopyOwn
namespace Go.Proofs.Ytmpcgmpobmnmmaa.Sd
set_option linter.unusedVariables false
set_option linter.unusedSimpArgs false
open Go.RowKit Go.Maps Lib0 Kb Xp Za Ze Sa Sb
attribute [local go_sem] Oper.semAt_some
abbrev tW : TypeId := 67
theorem info1 : (Try.prog.info? tP).map (·.size) = some 1 := by kernel_rfl
theorem zeroP (w : World) : (zeroValue tP).run Try.prog w = .ok (.pointer none) w := by kernel_rfl
def outS (S : St) : St := { S with L := S.L.tail, sent := 0, way := false, ticks := 0 }
theorem clear1 (w : World) (ty : TypeId) (g i c : Nat) (cur : Array Value) (h : w.heap[g]? = some (.cells cur tP (0, 0))) (hi : i < cur.size) :
    (Builtin.clear_ #[tW] ty #[.slice (some ⟨g, i, none⟩) 1 c]).run Try.prog w = .ok (.tuple #[]) (w.setRow g (cur.setIfInBounds i (.pointer none))) := by
  have hst := run_storeCells_at Try.prog g i tP [.pointer none] 0 cur w h (by simp; omega) (by simp [Value.oneCell'])
  have e : (cur.toList.take (i + 0) ++ [Value.pointer none] ++ cur.toList.drop (i + 0 + [Value.pointer none].length)).toArray = cur.setIfInBounds i (.pointer none) := by
    apply Array.ext'
    rw [Array.toList_setIfInBounds]
    simp only [Nat.add_zero, List.length_singleton]
    rw [List.set_eq_take_append_cons_drop, if_pos (by simpa using hi)]
    simp
  rw [e] at hst
  have hv := zeroP w
  simp [Builtin.clear_, run_underlying Try.underlying67, hv, show (Value.pointer none).cells = #[.pointer none] from rfl, Builtin.zeroCells, hst]
/-- the row but for the first, the queue's cells anew -/
theorem take_end {w x : World} {base g rb cap n : Nat} {S : St} {vg : Value} {z : ZA} {zs : List ZA} {c1 : Array Value} (h : Qm w base g S (.slice (some ⟨rb, 0, none⟩) (n + 1) cap) vg (z :: zs)) (hn : zs.length = n) (hbase : base ≤ rb) (hml : cap ≤ maxLen) (hcap : n + 1 ≤ cap) (hrb : ∃ c, w.heap[rb]? = some (.cells c tP (0, 0)))
    (ho : x.os = w.os) (ht : x.tape = w.tape) (hp : x.output = w.output) (hs : x.heap.size = w.heap.size) (hb : ∀ b, b ≠ rb → x.heap[b]? = w.heap[b]?) (hr : x.heap[rb]? = some (.cells c1 tP (0, 0))) (hc : c1.size = cap) (hk : c1.toList.take n = zs.map fun z => ptr z.1) :
    PQ w base g (outS S) (((((x.setRow rb (c1.setIfInBounds n (.pointer none))).setCell ⟨g, 3, none⟩ (.slice (some ⟨rb, 0, none⟩) n cap)).setCell ⟨g, 4, none⟩ (.int .i64 0)).setCell ⟨g, 5, none⟩ (.bool false)).setCell ⟨g, 6, none⟩ (.int .i64 0)) := by
  obtain ⟨c, hrb⟩ := hrb
  have hne : g ≠ rb := ty_ne h.blk hrb (by decide)
  generalize hy : ((((x.setRow rb (c1.setIfInBounds n (.pointer none))).setCell ⟨g, 3, none⟩ (.slice (some ⟨rb, 0, none⟩) n cap)).setCell ⟨g, 4, none⟩ (.int .i64 0)).setCell ⟨g, 5, none⟩ (.bool false)).setCell ⟨g, 6, none⟩ (.int .i64 0) = y
  have y1 : y.heap[g]? = some (.cells (qcs (outS S) (.slice (some ⟨rb, 0, none⟩) n cap) vg) tQ (0, 0)) := by
    have e0 : (x.setRow rb (c1.setIfInBounds n (.pointer none))).heap[g]? = some (.cells (qcs S (.slice (some ⟨rb, 0, none⟩) (n + 1) cap) vg) tQ (0, 0)) := (setRow_ne (fun e => hne e.symm) _).trans ((hb g hne).trans h.blk)
    rw [← hy, setCell_heap (setCell_heap (setCell_heap (setCell_heap e0 3 _) 4 _) 5 _) 6 _]
    rfl
  have y2 : y.heap[rb]? = some (.cells (c1.setIfInBounds n (.pointer none)) tP (0, 0)) := by
    rw [← hy, setCell_ne (p := ⟨g, 6, none⟩) hne, setCell_ne (p := ⟨g, 5, none⟩) hne, setCell_ne (p := ⟨g, 4, none⟩) hne, setCell_ne (p := ⟨g, 3, none⟩) hne]
    exact setRow_at hr _
  have y3 : ∀ b, b ≠ g → b ≠ rb → y.heap[b]? = w.heap[b]? := fun b h1 h2 => by
    have hn : g ≠ b := fun e => h1 e.symm
    rw [← hy, setCell_ne (p := ⟨g, 6, none⟩) hn, setCell_ne (p := ⟨g, 5, none⟩) hn, setCell_ne (p := ⟨g, 4, none⟩) hn, setCell_ne (p := ⟨g, 3, none⟩) hn, setRow_ne (fun e => h2 e.symm)]
    exact hb b h2
  have y4 : y.heap.size = w.heap.size := by rw [← hy]; simp only [setCell_size]; rw [← hs]; simp [World.setRow]
  have F0 : FrP (fun k => k = g ∨ k = rb) x (x.setRow rb (c1.setIfInBounds n (.pointer none))) := ⟨rfl, rfl, rfl, by simp [World.setRow], fun b _ h => setRow_ne (fun e => h (.inr e.symm)) _⟩
  have F : FrP (fun k => k = g ∨ k = rb) x y := hy ▸ (((F0.set (p := ⟨g, 3, none⟩) (.inl (.inl rfl)) _).set (p := ⟨g, 4, none⟩) (.inl (.inl rfl)) _).set (p := ⟨g, 5, none⟩) (.inl (.inl rfl)) _).set (p := ⟨g, 6, none⟩) (.inl (.inl rfl)) _
  have ko : y.os = w.os := F.os.trans ho
  have kt : y.tape = w.tape := F.tape.trans ht
  have kp : y.output = w.output := F.output.trans hp
  have K : Kq w y := ⟨ko, kt, kp, by omega, fun b c2 t fr hk a1 a2 a3 => y3 b (fun e => a1 (by subst e; rw [h.blk] at hk; injection hk with hk; injection hk with _ hk; exact hk.symm)) (fun e => a2 (by subst e; rw [hrb] at hk; injection hk with hk; injection hk with _ hk; exact hk.symm))⟩
  refine ⟨⟨.slice (some ⟨rb, 0, none⟩) n cap, vg, zs, y1, ?_, ?_, fun z hz => (h.ads z (List.mem_cons_of_mem _ hz)).keep K, ?_, h.low, by rw [y4]; exact h.bas⟩, K, ⟨ko, kt, kp, by omega, fun b hb => y3 b (fun e => ?_) (fun e => ?_)⟩⟩
  · refine ⟨by simp, .inr ⟨rb, cap, _, by rw [hn], hbase, y2, by omega, hml, by rw [Array.size_setIfInBounds]; omega, ?_⟩⟩
    rw [Array.toList_setIfInBounds, hn, Nat.mul_one, List.take_set_of_le (Nat.le_refl _)]
    exact hk
  · show _ = S.L.tail
    rw [← h.eq]; rfl
  · refine own_keep h.gon fun b hg => y3 b (fun e => ?_) (fun e => ?_)
    · obtain ⟨c, hc⟩ := own_ty h.gon hg
      exact ty_ne hc h.blk (by decide) e
    · obtain ⟨c, hc⟩ := own_ty h.gon hg
      exact ty_ne hc hrb (by decide) e
  · have := h.low; omega
  · omega
set_option maxRecDepth 100000 in
set_option maxHeartbeats 1600000 in
theorem takeOut_any {w : World} {base g : Nat} {S : St} (h : Sq w base g S) (ok : Ok S) (ne : S.L ≠ []) : Calls Try.prog 48 #[.pointer (some ⟨g, 0, none⟩)] w fun e w' => e = .returned (.tuple #[]) ∧ PQ w base g (outS S) w' := by
  obtain ⟨vw, vg, zs, h⟩ := h
  cases zs with
  | nil => exact absurd h.eq.symm ne
  | cons z zs =>
  rcases h.row.2 with ⟨-, h0⟩ | ⟨rb, cap, cur, rfl, hbase, hg, hcap, hml, hcs, htk⟩
  · simp at h0
  obtain ⟨n, HN⟩ : ∃ n, Hid (zs.length = n) := ⟨_, rfl⟩
  rw [List.length_cons, HN.out] at hcap htk h
  obtain ⟨-, -, -, c3, c4, c5, c6, -, -⟩ := h.cells
  have HQ : Hid (Qm w base g S (.slice (some ⟨rb, 0, none⟩) (n + 1) cap) vg (z :: zs)) := h
  have hlen : n + 1 ≤ 10000 := by
    have e : (z :: zs).length = S.L.length := by rw [← h.eq, List.length_map]
    simp only [List.length_cons, HN.out] at e
    have := ok.len
    have := ok.m1
    omega
  have hcz : cur.size = cap := by omega
  obtain ⟨D, hD⟩ : ∃ D, cur.toList = ptr z.1 :: (zs.map fun z => ptr z.1) ++ D := ⟨cur.toList.drop (n + 1), by
    have := List.take_append_drop (n + 1) cur.toList
    rw [show n + 1 = (n + 1) * 1 by omega, htk] at this
    simpa using this.symm⟩
  have HG : Hid (w.heap[rb]? = some (.cells cur tP (0, 0))) := hg
  have HNE : Hid (g ≠ rb) := ty_ne h.blk hg (by decide)
  have HEND : Hid (∀ (x : World) (c1 : Array Value), x.os = w.os → x.tape = w.tape → x.output = w.output → x.heap.size = w.heap.size → (∀ b, b ≠ rb → x.heap[b]? = w.heap[b]?) → x.heap[rb]? = some (.cells c1 tP (0, 0)) → c1.size = cap → c1.toList.take n = (zs.map fun z => ptr z.1) → PQ w base g (outS S) (((((x.setRow rb (c1.setIfInBounds n (.pointer none))).setCell ⟨g, 3, none⟩ (.slice (some ⟨rb, 0, none⟩) n cap)).setCell ⟨g, 4, none⟩ (.int .i64 0)).setCell ⟨g, 5, none⟩ (.bool false)).setCell ⟨g, 6, none⟩ (.int .i64 0))) := fun x c1 a1 a2 a3 a4 a5 a6 a7 a8 => take_end h HN.out hbase hml hcap ⟨_, hg⟩ a1 a2 a3 a4 a5 a6 a7 a8
  /- what copy leaves -/
  have HCP : Hid (∀ m, ∃ W1 c1, (∀ ty cp, (1 < cap → (Builtin.copy_ #[tW, tW] ty #[.slice (some ⟨rb, 0, none⟩) (n + 1) cap, .slice (some ⟨rb, 1, none⟩) n cp]).run Try.prog (w.drewN m) = .ok (.int .i64 (n : Nat)) W1) ∧ (cap = 1 → (Builtin.copy_ #[tW, tW] ty #[.slice (some ⟨rb, 0, none⟩) (n + 1) cap, .slice (some ⟨rb, 0, none⟩) n cp]).run Try.prog (w.drewN m) = .ok (.int .i64 (n : Nat)) W1)) ∧ W1.os = w.os ∧ W1.tape = w.tape ∧ W1.output = w.output ∧ W1.heap.size = w.heap.size ∧ (∀ b, b ≠ rb → W1.heap[b]? = w.heap[b]?) ∧ W1.heap[rb]? = some (.cells c1 tP (0, 0)) ∧ c1.size = cap ∧ c1.toList.take n = (zs.map fun z => ptr z.1)) := fun m => by
    have bd : Below w.heap.size w (w.drewN m) := below_drewN (Below.refl _ w) m
    have hk := kept bd hg
    have hh : (w.drewN m).heap = w.heap := by induction m with | zero => rfl | succ m ih => exact ih (below_drewN (Below.refl _ w) m) (kept (below_drewN (Below.refl _ w) m) hg)
    have hpl : (zs.map fun z => ptr z.1).length = n := by rw [List.length_map, HN.out]
    have hcl : cur.toList.length = cap := by rw [Array.length_toList]; exact hcz
    refine ⟨(w.drewN m).setRow rb ((zs.map fun z => ptr z.1) ++ cur.toList.drop n).toArray, ((zs.map fun z => ptr z.1) ++ cur.toList.drop n).toArray, fun ty cp => ⟨fun _ => ?_, fun e1 => ?_⟩, bd.os, bd.tape, bd.output, ?_, fun b hb => ?_, setRow_at hk _, ?_, ?_⟩
    · have := run_copy_row (P := Try.prog) (w.drewN m) tW tW ty tP rb 0 (n + 1) cap ⟨rb, 1, none⟩ n cp cur tP (zs.map fun z => ptr z.1) Try.underlying67 info1 hk (by rw [hpl]; exact (Nat.min_eq_left (by omega)).symm) (fun j v hj => by
        have e : cur[1 + j]? = some v := by
          rw [← Array.getElem?_toList, hD, Nat.add_comm 1 j]
          simp only [List.cons_append, List.getElem?_cons_succ]
          rw [List.getElem?_append_left]
          · exact hj
          · exact (List.getElem?_eq_some_iff.1 hj).1
        rw [show (⟨rb, 1, none⟩ : Addr).add j = ⟨rb, 1 + j, none⟩ by unfold Addr.add; split <;> simp_all]
        exact (cell_of_row _ rb _ _ _ _ hk).trans e) (by rw [hpl]; omega) (fun v hv => by obtain ⟨z, -, rfl⟩ := List.mem_map.1 hv; simp [ptr, Value.oneCell'])
      rw [hpl] at this
      simpa [goInt] using this
    · obtain rfl : n = 0 := by omega
      have e0 : zs = [] := List.eq_nil_of_length_eq_zero HN.out
      subst e0
      have := run_copy_none (P := Try.prog) (w.drewN m) tW tW ty tP (some ⟨rb, 0, none⟩) (some ⟨rb, 0, none⟩) 1 cap 0 cp Try.underlying67 info1 (by simp)
      rw [this]
      simp only [List.map_nil, List.nil_append, List.drop_zero, Array.toArray_toList]
      rw [setRow_self _ _ _ _ _ hk]
      rfl
    · rw [show ((w.drewN m).setRow rb ((zs.map fun z => ptr z.1) ++ cur.toList.drop n).toArray).heap.size = (w.drewN m).heap.size by simp [World.setRow], hh]
    · rw [setRow_ne (fun e => hb e.symm), hh]
    · simp only [List.size_toArray, List.length_append, hpl, List.length_drop, hcl]; omega
    · simp only []
      rw [List.take_append_of_le_length (by rw [hpl]; exact Nat.le_refl _), List.take_of_length_le (by rw [hpl]; exact Nat.le_refl _)]
  have q1 : (1 : Int) ≤ ((n + 1 : Nat) : Int) := by omega
  have HR : Hid (Calls Try.prog 48 #[.pointer (some ⟨g, 0, none⟩)] w fun e w' => e = .returned (.tuple #[]) ∧ PQ w base g (outS S) w') := by
    clear h hg hD htk hcs ok ne
    rcases Nat.lt_or_ge 1 cap with hc1 | hc1
    · go_enter Try.func48, Try.ntmps48
      go_wp2_with fail
      refine Qt.region_tail 9 1 (C := fun w' => ∃ n, w' = w.drewN n) (by kernel_rfl) rfl (by kernel_rfl) (by kernel_rfl) (by kernel_rfl) ⟨1, rfl⟩ ?_
      dsimp only [List.take, List.drop]
      repeat (go_big_quiet_step (fail))
      refine wpQuiet_nil ?_
      intro _ hw'
      obtain ⟨nq3, hw''⟩ := hw'
      subst hw''
      obtain ⟨W1, c1, hcp, a1, a2, a3, a4, a5, a6, a7, a8⟩ := HCP.out nq3
      replace hcp := fun ty cp => (hcp ty cp).1 hc1
      have HE : Hid _ := HEND.out W1 c1 a1 a2 a3 a4 a5 a6 a7 a8
      have hb : W1.heap[g]? = some (.cells (qcs S (.slice (some ⟨rb, 0, none⟩) (n + 1) cap) vg) tQ (0, 0)) := (a5 g HNE.out).trans HQ.out.blk
      have hcl := fun ty cp => clear1 W1 ty rb n cp c1 a6 (by omega)
      have e3 : W1.cell? ⟨g, 3, none⟩ = some (.slice (some ⟨rb, 0, none⟩) (n + 1) cap) := by unfold qcs at hb; simp [World.cell?, hb]
      obtain ⟨W2, hW2⟩ : ∃ W2, W1.setRow rb (c1.setIfInBounds n (.pointer none)) = W2 := ⟨_, rfl⟩
      rw [hW2] at HE hcl
      have hb2 : W2.heap[g]? = some (.cells (qcs S (.slice (some ⟨rb, 0, none⟩) (n + 1) cap) vg) tQ (0, 0)) := hW2 ▸ (setRow_ne (fun e => HNE.out e.symm) _).trans hb
      have k3 : W2.cell? ⟨g, 3, none⟩ = some (.slice (some ⟨rb, 0, none⟩) (n + 1) cap) := by unfold qcs at hb2; simp [World.cell?, hb2]
      have k4 : W2.cell? ⟨g, 4, none⟩ = some (.int .i64 S.sent) := by unfold qcs at hb2; simp [World.cell?, hb2]
      have k5 : W2.cell? ⟨g, 5, none⟩ = some (.bool S.way) := by unfold qcs at hb2; simp [World.cell?, hb2]
      have k6 : W2.cell? ⟨g, 6, none⟩ = some (.int .i64 S.ticks) := by unfold qcs at hb2; simp [World.cell?, hb2]
      have f3 : W2.frozen? ⟨g, 3, none⟩ = false := by simp [World.frozen?, hb2]
      have f4 : W2.frozen? ⟨g, 4, none⟩ = false := by simp [World.frozen?, hb2]
      have f5 : W2.frozen? ⟨g, 5, none⟩ = false := by simp [World.frozen?, hb2]
      have f6 : W2.frozen? ⟨g, 6, none⟩ = false := by simp [World.frozen?, hb2]
      clear hW2 a1 a2 a3 a4 a5 a6 a7 a8 hb hb2 HEND HCP HQ HG
      go_wp2_with fail
      go_end0
      exact ⟨rfl, HE.out⟩
    · obtain rfl : cap = 1 := by omega
      obtain rfl : n = 0 := by omega
      go_enter Try.func48, Try.ntmps48
      go_wp2_with fail
      refine Qt.region_tail 9 1 (C := fun w' => ∃ n, w' = w.drewN n) (by kernel_rfl) rfl (by kernel_rfl) (by kernel_rfl) (by kernel_rfl) ⟨1, rfl⟩ ?_
      dsimp only [List.take, List.drop]
      repeat (go_big_quiet_step (fail))
      refine wpQuiet_nil ?_
      intro _ hw'
      obtain ⟨nq3, hw''⟩ := hw'
      subst hw''
      obtain ⟨W1, c1, hcp, a1, a2, a3, a4, a5, a6, a7, a8⟩ := HCP.out nq3
      replace hcp := fun ty cp => (hcp ty cp).2 trivial
      have HE : Hid _ := HEND.out W1 c1 a1 a2 a3 a4 a5 a6 a7 a8
      have hb : W1.heap[g]? = some (.cells (qcs S (.slice (some ⟨rb, 0, none⟩) (0 + 1) 1) vg) tQ (0, 0)) := (a5 g HNE.out).trans HQ.out.blk
      have hcl := fun ty cp => clear1 W1 ty rb 0 cp c1 a6 (by omega)
      have e3 : W1.cell? ⟨g, 3, none⟩ = some (.slice (some ⟨rb, 0, none⟩) (0 + 1) 1) := by unfold qcs at hb; simp [World.cell?, hb]
      obtain ⟨W2, hW2⟩ : ∃ W2, W1.setRow rb (c1.setIfInBounds 0 (.pointer none)) = W2 := ⟨_, rfl⟩
      rw [hW2] at HE hcl
      have hb2 : W2.heap[g]? = some (.cells (qcs S (.slice (some ⟨rb, 0, none⟩) (0 + 1) 1) vg) tQ (0, 0)) := hW2 ▸ (setRow_ne (fun e => HNE.out e.symm) _).trans hb
      have k3 : W2.cell? ⟨g, 3, none⟩ = some (.slice (some ⟨rb, 0, none⟩) (0 + 1) 1) := by unfold qcs at hb2; simp [World.cell?, hb2]
      have k4 : W2.cell? ⟨g, 4, none⟩ = some (.int .i64 S.sent) := by unfold qcs at hb2; simp [World.cell?, hb2]
      have k5 : W2.cell? ⟨g, 5, none⟩ = some (.bool S.way) := by unfold qcs at hb2; simp [World.cell?, hb2]
      have k6 : W2.cell? ⟨g, 6, none⟩ = some (.int .i64 S.ticks) := by unfold qcs at hb2; simp [World.cell?, hb2]
      have f3 : W2.frozen? ⟨g, 3, none⟩ = false := by simp [World.frozen?, hb2]
      have f4 : W2.frozen? ⟨g, 4, none⟩ = false := by simp [World.frozen?, hb2]
      have f5 : W2.frozen? ⟨g, 5, none⟩ = false := by simp [World.frozen?, hb2]
      have f6 : W2.frozen? ⟨g, 6, none⟩ = false := by simp [World.frozen?, hb2]
      clear hW2 a1 a2 a3 a4 a5 a6 a7 a8 hb hb2 HEND HCP HQ HG
      go_wp2_with fail
      go_end0
      exact ⟨rfl, HE.out⟩
  exact HR.out
end Go.Proofs.Ytmpcgmpobmnmmaa.Sd
