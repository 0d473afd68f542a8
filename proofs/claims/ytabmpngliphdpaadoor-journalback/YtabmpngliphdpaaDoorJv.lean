/- journal's cutter: cut, at the end. -/
import Derived.Test.YtabmpngliphdpaaDoorJu
namespace Go.Proofs.YtabmpngliphdpaaDoor.Jv
set_option linter.unusedVariables false
set_option linter.unusedSimpArgs false
open Go.RowKit Go.Conc Lib0 Kb Ja Jb Jl Jm Jn Jo Jp Jq Jr Ju
attribute [local go_sem] Oper.semAt_some
/-- why there is no record lies in its channel -/
structure Ends (w w' : World) (g : Nat) (b : ByteArray) (at' n rc ec : Nat) (ev : Value) : Prop where
  row : w'.heap[g]? = some (.cells #[.string b, .int .i64 (at' : Int), .int .i64 (n : Int), .chan (some rc), .chan (some ec)] 139 (0, 0))
  rch : ∃ s, w'.heap[rc]? = some (.chan 1 #[] false s s false)
  ech : ∃ s, w'.heap[ec]? = some (.chan 1 #[ev] false (s + 1) s false)
  oc : Oc g rc ec w w'
set_option maxRecDepth 100000 in
set_option maxHeartbeats 1600000 in
theorem cut_end {w : World} {g : Nat} {b : ByteArray} {at' n rc ec : Nat} (h : Cu w g b at' n rc ec) (hH : Hal w) (hb : b.size ≤ 140737488355328) (ha : at' ≤ b.size) (hn : n ≤ at') (hz : rcd (b.data.toList.drop at') ((n : Int) + 1) = none) (hend : at' = b.size) {ev : Value} (hev : w.cell? ⟨1, 0, none⟩ = some ev) :
    Calls Tryd.prog 65 #[.pointer (some ⟨g, 0, none⟩)] w fun e w' => e = .returned (.tuple #[]) ∧ Ends w w' g b at' n rc ec ev := by
  have hr := h.row
  have c0 : w.cell? ⟨g, 0, none⟩ = some (.string b) := by simp [World.cell?, hr]
  have c1 : w.cell? ⟨g, 1, none⟩ = some (.int .i64 (at' : Int)) := by simp [World.cell?, hr]
  have gl : g < w.heap.size := (Array.getElem?_eq_some_iff.1 hr).1
  have q1 : (at' : Int) ≤ (b.size : Int) := by omega
  have hne : (b.extract at' b.size).toList.isEmpty = true := by rw [ByteArray.toList_eq, ext_drop, List.drop_of_length_le (by rw [← size_list]; omega)]; rfl
  have HEV : Hid (w.cell? ⟨1, 0, none⟩ = some ev ∧ 1 < w.heap.size) := ⟨hev, World.block_lt_of_cell? _ _ hev⟩
  clear hev hend
  clear hr
  have HC : Hid (Cu w g b at' n rc ec) := h
  go_enter Tryd.func65, Tryd.ntmps65
  go_wp2_with fail
  refine Ql.region_cl (by kernel_rfl) (by kernel_rfl) ?_
  try dsimp only [Act.put]
  repeat (first | go_big_quiet_skip | (go_big_quiet_want; go_big_quiet_op; first | go_big_quiet_on | (refine ⟨_, fun _ _ => rfl, ?_⟩; go_big_quiet_on) | (refine ⟨_, fun _ _ => ⟨rfl, rfl⟩, ?_⟩; go_big_quiet_on)) | (refine wpQuiet_step (fun K hK => ?_); first
    | (refine Ql.q_cell (by rfl) 9 _ rfl g 0 rfl _ c0 gl (fun y => Tryd.isAgg9 y) (hK _ ?_); clear hK K; simp only [Act.put, List.setIfInBounds_toArray, List.set_cons_succ, List.set_cons_zero])
    | (refine Ql.q_cell (by rfl) 3 _ rfl g 1 rfl _ c1 gl (fun y => Tryd.isAgg3 y) (hK _ ?_); clear hK K; simp only [Act.put, List.setIfInBounds_toArray, List.set_cons_succ, List.set_cons_zero])
    | fail))
  refine wpQuiet_nil ?_
  intro y hy
  have hr1 : y.heap[g]? = some (.cells #[.string b, .int .i64 (at' : Int), .int .i64 (n : Int), .chan (some rc), .chan (some ec)] 139 (0, 0)) := kept hy HC.out.row
  have d2 : y.cell? ⟨g, 2, none⟩ = some (.int .i64 (n : Int)) := by simp [World.cell?, hr1]
  have dl : g < y.heap.size := (Array.getElem?_eq_some_iff.1 hr1).1
  have q2 : (n : Int) ≤ 140737488355328 := by omega
  have HFO := firstOf_any (b.extract at' b.size) (by rw [drop_size]; omega) ((n : Int) + 1) y (hal_next hH hy)
  have HF : Hid (Calls Tryd.prog 72 #[.string (b.extract at' b.size), .int .i64 ((n : Int) + 1)] y (Po y (b.extract at' b.size) ((n : Int) + 1))) := HFO
  have HY : Hid (Below w.heap.size w y) := hy
  have HZ : Hid (rcd (b.data.toList.drop at') ((n : Int) + 1) = none ∧ b.size ≤ 140737488355328 ∧ at' ≤ b.size ∧ n ≤ at') := ⟨hz, hb, ha, hn⟩
  clear hr1 HFO hy hz hb ha hn hH h c0 c1 gl
  go_wp2_with fail
  refine HF.out.mono ?_
  rintro e y2 ⟨⟨c, rfl, hgood, hbad⟩, hy2⟩
  rw [ext_drop, HZ.out.1] at hbad
  obtain rfl := hbad rfl
  rw [ext_drop, HZ.out.1]
  have HY2 : Hid (Below y.heap.size y y2) := hy2
  clear hgood hbad hy2 d2 dl
  unfold rcZ
  simp only [Option.isSome_none]
  go_wp2_with fail
  obtain ⟨W1, HW1⟩ : ∃ W, Hid (y2.alloc (.cells #[.int .i64 0, .int .i64 0, .int .i64 0, .int .i64 0, .string ⟨#[]⟩, .slice none 0 0, .string ⟨#[]⟩] 107) = W) := ⟨_, rfl⟩
  rw [HW1.out]
  have hb1 : Below y2.heap.size y2 W1 := HW1.out ▸ below_one _ _
  have hb2 : Below w.heap.size w W1 := (HY.out.trans (HY2.out.mono HY.out.size)).trans (hb1.mono (Nat.le_trans HY.out.size HY2.out.size))
  have hr1 : W1.heap[g]? = some (.cells #[.string b, .int .i64 (at' : Int), .int .i64 (n : Int), .chan (some rc), .chan (some ec)] 139 (0, 0)) := kept hb2 HC.out.row
  have k4 : W1.cell? ⟨g, 4, none⟩ = some (.chan (some ec)) := by simp [World.cell?, hr1]
  have kl : g < W1.heap.size := (Array.getElem?_eq_some_iff.1 hr1).1
  have ke : W1.cell? ⟨1, 0, none⟩ = some ev := (hb2.cell HEV.out.2).trans HEV.out.1
  have kv : 1 < W1.heap.size := Nat.lt_of_lt_of_le HEV.out.2 hb2.size
  have HHX : Hid (Below w.heap.size w W1) := hb2
  have HR1 : Hid (W1.heap[g]? = some (.cells #[.string b, .int .i64 (at' : Int), .int .i64 (n : Int), .chan (some rc), .chan (some ec)] 139 (0, 0))) := hr1
  clear hb1 hb2 hr1 hne
  refine Jt.region_sendQ (C := Ql.Cl W1) (by kernel_rfl) rfl rfl rfl (by kernel_rfl) (by kernel_rfl) (by kernel_rfl) (by kernel_rfl) ((Below.refl _ _).drew) ?_
  dsimp only [List.dropLast, Jt.harm, List.cons_append, List.nil_append]
  repeat (first | go_big_quiet_skip | (go_big_quiet_want; go_big_quiet_op; first | go_big_quiet_on | (refine ⟨_, fun _ _ => rfl, ?_⟩; go_big_quiet_on) | (refine ⟨_, fun _ _ => ⟨rfl, rfl⟩, ?_⟩; go_big_quiet_on)) | (refine wpQuiet_step (fun K hK => ?_); first
    | (refine Ql.q_cell (by rfl) 137 _ rfl g 4 rfl _ k4 kl (fun y => Tryd.isAgg137 y) (hK _ ?_); clear hK K; simp only [Act.put, List.setIfInBounds_toArray, List.set_cons_succ, List.set_cons_zero])
    | (refine Ql.q_cell (by rfl) 47 _ rfl 1 0 rfl _ ke kv (fun y => Tryd.isAgg47 y) (hK _ ?_); clear hK K; simp only [Act.put, List.setIfInBounds_toArray, List.set_cons_succ, List.set_cons_zero])
    | fail))
  refine wpQuiet_nil ?_
  intro y7 hy7
  obtain ⟨sr, hsr⟩ := HC.out.rch
  obtain ⟨se, hse⟩ := HC.out.ech
  have hg7 : Below w.heap.size w y7 := HHX.out.trans (hy7.mono HHX.out.size)
  have hel := (Array.getElem?_eq_some_iff.1 hse).1
  have heg : ec ≠ g := fun e => by subst e; rw [HC.out.row] at hse; cases hse
  have he7 : y7.heap[ec]? = some (.chan 1 #[] false se se false) := kept hg7 hse
  have HFIN : Hid (Ends w (y7.setChan ec 1 #[ev] false (se + 1) se false) g b at' n rc ec ev) := by
    refine ⟨?_, ⟨sr, ?_⟩, ⟨se, ?_⟩, ?_⟩
    · rw [setChan_ne _ _ _ _ _ _ _ _ _ heg]
      exact kept hy7 HR1.out
    · rw [setChan_ne _ _ _ _ _ _ _ _ _ (fun e => HC.out.ne e.symm)]; exact kept hg7 hsr
    · exact heap_setChan _ _ _ _ _ _ _ _ (Nat.lt_of_lt_of_le hel hg7.size)
    · exact (Oc.of_below hg7).trans (Oc.of_chan _ _ _ _ _ _ _ _ (.inr rfl))
  refine ⟨ec, 1, se, se, #[], ev, .tuple #[], false, y7, by simp [execOp, scase, Act.eval], he7, by decide, ?_⟩
  go_end0
  exact ⟨rfl, HFIN.out⟩
end Go.Proofs.YtabmpngliphdpaaDoor.Jv
