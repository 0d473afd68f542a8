/- journal's cutter: cut, where no record comes and bytes are left. -/
import Derived.Test.YtabmpngliphdpaaDoorJv
namespace Go.Proofs.YtabmpngliphdpaaDoor.Jw
set_option linter.unusedVariables false
set_option linter.unusedSimpArgs false
open Go.RowKit Go.Conc Lib0 Kb Ja Jb Jl Jm Jn Jo Jp Jq Jr Ju Jv
attribute [local go_sem] Oper.semAt_some
section
variable {P : Program} {a : Act} {w : World}
theorem region_sendL {id : Nat} {L : List Oper} {o : Oper} {Q : Exit → Act → World → Prop} (hm : P.follows .mixedOrders = true) (hlast : L = L.dropLast ++ [o]) (hg : o.guard = none) (hd : o.dst = none)
    (hord : Jt.lastOrd .any L.toArray L.dropLast.length (L.dropLast.length + 1) (Array.replicate (L.dropLast.length + 1) false) = true)
    (h : wpAny P .any (L.dropLast ++ [Jt.harm o]).toArray (fun e a w => e = .normal ∧ Jt.SendTo P o Q a w) (L.dropLast.length + 1) (Array.replicate (L.dropLast.length + 1) false) a w.drew) : (Code.region id L.toArray true).wp P Q a w := by
  generalize L.dropLast = l at *
  subst hlast
  exact Jt.region_send hm hg hd hord h
end
set_option maxRecDepth 100000 in
set_option maxHeartbeats 1600000 in
theorem cut_bad {w : World} {g : Nat} {b : ByteArray} {at' n rc ec : Nat} (h : Cu w g b at' n rc ec) (hH : Hal w) (hb : b.size ≤ 140737488355328) (ha : at' ≤ b.size) (hn : n ≤ at') (hz : rcd (b.data.toList.drop at') ((n : Int) + 1) = none) (hend : at' < b.size) :
    Calls Tryd.prog 65 #[.pointer (some ⟨g, 0, none⟩)] w fun e w' => e = .returned (.tuple #[]) ∧ ∃ q, w.heap.size ≤ q ∧ Jg.Ft w' q (at' : Int) 230 ∧ Jv.Ends w w' g b at' n rc ec (.iface 86 (.pointer (some ⟨q, 0, none⟩))) := by
  have hr := h.row
  have c0 : w.cell? ⟨g, 0, none⟩ = some (.string b) := by simp [World.cell?, hr]
  have c1 : w.cell? ⟨g, 1, none⟩ = some (.int .i64 (at' : Int)) := by simp [World.cell?, hr]
  have gl : g < w.heap.size := (Array.getElem?_eq_some_iff.1 hr).1
  have q1 : (at' : Int) ≤ (b.size : Int) := by omega
  have hne : (b.extract at' b.size).toList.isEmpty = false := by
    rw [ByteArray.toList_eq, ext_drop]
    cases h9 : b.data.toList.drop at' with
    | nil => have := congrArg List.length h9; rw [List.length_drop, ← size_list] at this; simp at this; omega
    | cons _ _ => rfl
  clear hend
  clear hr
  have HC : Hid (Cu w g b at' n rc ec) := h
  go_enter Tryd.func65, Tryd.ntmps65
  go_wp2_with fail
  refine Ql.region_cl (by kernel_rfl) (by kernel_rfl) ?_
  try dsimp only [Act.put]
  repeat (first | go_big_quiet_skip | (go_big_quiet_want; go_big_quiet_op; first | go_big_quiet_on | (refine ⟨_, fun _ _ => rfl, ?_⟩; go_big_quiet_on) | (refine ⟨_, fun _ _ => ⟨rfl, rfl⟩, ?_⟩; go_big_quiet_on)) | (refine wpQuiet_step (fun K hK => ?_); first
    | (refine Ql.q_cell (by rfl) 9 _ rfl g 0 rfl _ c0 gl (fun y => Tryd.isAgg9 y) (hK _ ?_); clear hK K; simp only [Act.put, List.setIfInBounds_toArray, List.set_cons_succ, List.set_cons_zero])
    | (refine Ql.q_cell (by rfl) 3 _ rfl g 1 rfl _ c1 gl (fun y => Tryd.isAgg3 y) (hK _ ?_); clear hK K; simp only [Act.put, List.setIfInBounds_toArray, List.set_cons_succ, List.set_cons_zero])
    | fail))
  refine wpQuiet_nil ?_
  intro y hy
  have hr1 : y.heap[g]? = some (.cells #[.string b, .int .i64 (at' : Int), .int .i64 (n : Int), .chan (some rc), .chan (some ec)] 139 (0, 0)) := kept hy HC.out.row
  have d2 : y.cell? ⟨g, 2, none⟩ = some (.int .i64 (n : Int)) := by simp [World.cell?, hr1]
  have dl : g < y.heap.size := (Array.getElem?_eq_some_iff.1 hr1).1
  have q2 : (n : Int) ≤ 140737488355328 := by omega
  have HFO := firstOf_any (b.extract at' b.size) (by rw [drop_size]; omega) ((n : Int) + 1) y (hal_next hH hy)
  have HF : Hid (Calls Tryd.prog 72 #[.string (b.extract at' b.size), .int .i64 ((n : Int) + 1)] y (Po y (b.extract at' b.size) ((n : Int) + 1))) := HFO
  have HY : Hid (Below w.heap.size w y) := hy
  have HZ : Hid (rcd (b.data.toList.drop at') ((n : Int) + 1) = none ∧ b.size ≤ 140737488355328 ∧ at' ≤ b.size ∧ n ≤ at') := ⟨hz, hb, ha, hn⟩
  clear hr1 HFO hy hz hb ha hn hH h c0 c1 gl
  go_wp2_with fail
  refine HF.out.mono ?_
  rintro e y2 ⟨⟨c, rfl, hgood, hbad⟩, hy2⟩
  rw [ext_drop, HZ.out.1] at hbad
  obtain rfl := hbad rfl
  rw [ext_drop, HZ.out.1]
  have HY2 : Hid (Below y.heap.size y y2) := hy2
  clear hgood hbad hy2 d2 dl
  unfold rcZ
  simp only [Option.isSome_none]
  go_wp2_with fail
  obtain ⟨W1, HW1⟩ : ∃ W, Hid (y2.alloc (.cells #[.int .i64 0, .int .i64 0, .int .i64 0, .int .i64 0, .string ⟨#[]⟩, .slice none 0 0, .string ⟨#[]⟩] 107) = W) := ⟨_, rfl⟩
  rw [HW1.out]
  have hb1 : Below y2.heap.size y2 W1 := HW1.out ▸ below_one _ _
  have hb2 : Below w.heap.size w W1 := (HY.out.trans (HY2.out.mono HY.out.size)).trans (hb1.mono (Nat.le_trans HY.out.size HY2.out.size))
  have hr1 : W1.heap[g]? = some (.cells #[.string b, .int .i64 (at' : Int), .int .i64 (n : Int), .chan (some rc), .chan (some ec)] 139 (0, 0)) := kept hb2 HC.out.row
  have k4 : W1.cell? ⟨g, 4, none⟩ = some (.chan (some ec)) := by simp [World.cell?, hr1]
  have k1 : W1.cell? ⟨g, 1, none⟩ = some (.int .i64 (at' : Int)) := by simp [World.cell?, hr1]
  have kl : g < W1.heap.size := (Array.getElem?_eq_some_iff.1 hr1).1
  have HHX : Hid (Below w.heap.size w W1) := hb2
  have HR1 : Hid (W1.heap[g]? = some (.cells #[.string b, .int .i64 (at' : Int), .int .i64 (n : Int), .chan (some rc), .chan (some ec)] 139 (0, 0))) := hr1
  clear hb1 hb2 hr1 hne
  obtain ⟨sr, hsr⟩ := HC.out.rch
  obtain ⟨se, hse⟩ := HC.out.ech
  obtain ⟨W2, HW2⟩ : ∃ W, Hid (W1.drew.alloc (.cells #[.int .i64 (at' : Int), .int .i64 230] 91) = W) := ⟨_, rfl⟩
  have hb2 : Below W1.heap.size W1 W2 := HW2.out ▸ (Below.refl W1.heap.size W1).drew.trans ((below_one W1.drew _).mono (Nat.le_refl _))
  have hg7 : Below w.heap.size w W2 := HHX.out.trans (hb2.mono HHX.out.size)
  have hr7 : W2.heap[g]? = some (.cells #[.string b, .int .i64 (at' : Int), .int .i64 (n : Int), .chan (some rc), .chan (some ec)] 139 (0, 0)) := kept hb2 HR1.out
  have k4b : (W1.drew.alloc (.cells #[.int .i64 (at' : Int), .int .i64 230] 91)).cell? ⟨g, 4, none⟩ = some (.chan (some ec)) := by rw [HW2.out]; simp [World.cell?, hr7]
  have k4c : (W1.alloc (.cells #[.int .i64 (at' : Int), .int .i64 230] 91)).drew.cell? ⟨g, 4, none⟩ = some (.chan (some ec)) := k4b
  have hft : Jg.Ft W2 W1.heap.size (at' : Int) 230 := HW2.out ▸ h1_0 W1.drew _
  have hel := (Array.getElem?_eq_some_iff.1 hse).1
  have heg : ec ≠ g := fun e => by subst e; rw [HC.out.row] at hse; cases hse
  have he7 : W2.heap[ec]? = some (.chan 1 #[] false se se false) := kept hg7 hse
  have HFIN : Hid (∃ q, w.heap.size ≤ q ∧ Jg.Ft (W2.setChan ec 1 #[.iface 86 (.pointer (some ⟨W1.heap.size, 0, none⟩))] false (se + 1) se false) q (at' : Int) 230 ∧ Jv.Ends w (W2.setChan ec 1 #[.iface 86 (.pointer (some ⟨W1.heap.size, 0, none⟩))] false (se + 1) se false) g b at' n rc ec (.iface 86 (.pointer (some ⟨q, 0, none⟩)))) := by
    refine ⟨W1.heap.size, HHX.out.size, ?_, ?_, ⟨sr, ?_⟩, ⟨se, ?_⟩, ?_⟩
    · exact (setChan_ne _ _ _ _ _ _ _ _ _ (fun e => by have := HHX.out.size; omega)).trans hft
    · rw [setChan_ne _ _ _ _ _ _ _ _ _ heg]; exact hr7
    · rw [setChan_ne _ _ _ _ _ _ _ _ _ (fun e => HC.out.ne e.symm)]; exact kept hg7 hsr
    · exact heap_setChan _ _ _ _ _ _ _ _ (Nat.lt_of_lt_of_le hel hg7.size)
    · exact (Oc.of_below hg7).trans (Oc.of_chan _ _ _ _ _ _ _ _ (.inr rfl))
  have HE7 : Hid (W2.heap[ec]? = some (.chan 1 #[] false se se false)) := he7
  have HWD : Hid (W1.drew.alloc (.cells #[.int .i64 (at' : Int), .int .i64 230] 91) = W2) := HW2
  clear hft he7 heg hel hr7 hg7 hb2 hsr hse HW2
  refine region_sendL (by kernel_rfl) rfl rfl rfl (by kernel_rfl) ?_
  dsimp only [List.dropLast, Jt.harm, List.cons_append, List.nil_append]
  refine wpAny_take (i := 0) (v := ?_) rfl (by kernel_rfl) (by kernel_rfl) (by kernel_rfl) (fun _ _ _ h => absurd h.1 (by simp)) (Or.inl ⟨by rfl, ?_⟩) ?_
  rotate_left 1
  · (intro w9; go_simp; try with_reducible rfl)
  refine wpAny_take (i := 1) (v := ?_) rfl (by kernel_rfl) (by kernel_rfl) (by kernel_rfl) (fun _ _ _ h => absurd h.1 (by simp)) (Or.inl ⟨by rfl, ?_⟩) ?_
  rotate_left 1
  · (intro w9; go_simp; try with_reducible rfl)
  refine wpAny_take (i := 2) (v := ?_) rfl (by kernel_rfl) (by kernel_rfl) (by kernel_rfl) (fun _ _ _ h => absurd h.1 (by simp)) (Or.inl ⟨by rfl, ?_⟩) ?_
  rotate_left 1
  · (intro w9; go_simp; try with_reducible rfl)
  refine wpAny_take (i := 4) (v := ?_) rfl (by kernel_rfl) (by kernel_rfl) (by kernel_rfl) (fun _ _ _ h => absurd h.1 (by simp)) (Or.inl ⟨by rfl, ?_⟩) ?_
  rotate_left 1
  · (intro w9; go_simp; try with_reducible rfl)
  refine wpAny_take (i := 5) (v := ?_) rfl (by kernel_rfl) (by kernel_rfl) (by kernel_rfl) (fun _ _ _ h => absurd h.1 (by simp)) (Or.inl ⟨by rfl, ?_⟩) ?_
  rotate_left 1
  · (intro w9; go_simp; try with_reducible rfl)
  refine wpAny_take (i := 6) (v := ?_) rfl (by kernel_rfl) (by kernel_rfl) (by kernel_rfl) (fun _ _ _ h => absurd h.1 (by simp)) (Or.inl ⟨by rfl, ?_⟩) ?_
  rotate_left 1
  · (intro w9; go_simp; try with_reducible rfl)
  refine wpAny_ready (rs := [3, 7]) (by kernel_rfl) (by simp) ?_
  refine (AllReady.cons rfl (fun K hK => ?_) (AllReady.cons rfl (fun K hK => ?_) AllReady.nil))
  · go_simp
    refine hK _ _ ?_
    clear hK K
    refine wpAny_ready (rs := [7]) (by kernel_rfl) (by simp) ?_
    refine (AllReady.cons rfl (fun K hK => ?_) AllReady.nil)
    · go_simp
      refine hK _ _ ?_
      clear hK K
      refine wpAny_take (i := 8) (v := ?_) rfl (by kernel_rfl) (by kernel_rfl) (by kernel_rfl) (fun _ _ _ h => absurd h.1 (by simp)) (Or.inl ⟨by rfl, ?_⟩) ?_
      rotate_left 1
      · (intro w9; go_simp; try with_reducible rfl)
      refine wpAny_ready (rs := [9]) (by kernel_rfl) (by simp) ?_
      refine (AllReady.cons rfl (fun K hK => ?_) AllReady.nil)
      · go_simp
        refine hK _ _ ?_
        clear hK K
        refine wpAny_ready (rs := [10]) (by kernel_rfl) (by simp) ?_
        refine (AllReady.cons rfl (fun K hK => ?_) AllReady.nil)
        · go_simp
          refine hK _ _ ?_
          clear hK K
          refine wpAny_ready (rs := [11]) (by kernel_rfl) (by simp) ?_
          refine (AllReady.cons rfl (fun K hK => ?_) AllReady.nil)
          · go_simp
            refine hK _ _ ?_
            clear hK K
            refine wpAny_done (by kernel_rfl) ?_ _
            refine ⟨rfl, ec, 1, se, se, #[], .iface 86 (.pointer (some ⟨W1.heap.size, 0, none⟩)), .tuple #[], false, W2, by (first | rw [HWD.out] | rw [show (W1.alloc (.cells #[.int .i64 (at' : Int), .int .i64 230] 91)).drew = W2 from HWD.out]); simp [execOp, scase, Act.eval], HE7.out, by decide, ?_⟩; go_end0; exact ⟨rfl, HFIN.out⟩
  · go_simp
    refine hK _ _ ?_
    clear hK K
    refine wpAny_take (i := 8) (v := ?_) rfl (by kernel_rfl) (by kernel_rfl) (by kernel_rfl) (fun _ _ _ h => absurd h.1 (by simp)) (Or.inl ⟨by rfl, ?_⟩) ?_
    rotate_left 1
    · (intro w9; go_simp; try with_reducible rfl)
    refine wpAny_ready (rs := [3, 9]) (by kernel_rfl) (by simp) ?_
    refine (AllReady.cons rfl (fun K hK => ?_) (AllReady.cons rfl (fun K hK => ?_) AllReady.nil))
    · go_simp
      refine hK _ _ ?_
      clear hK K
      refine wpAny_ready (rs := [9]) (by kernel_rfl) (by simp) ?_
      refine (AllReady.cons rfl (fun K hK => ?_) AllReady.nil)
      · go_simp
        refine hK _ _ ?_
        clear hK K
        refine wpAny_ready (rs := [10]) (by kernel_rfl) (by simp) ?_
        refine (AllReady.cons rfl (fun K hK => ?_) AllReady.nil)
        · go_simp
          refine hK _ _ ?_
          clear hK K
          refine wpAny_ready (rs := [11]) (by kernel_rfl) (by simp) ?_
          refine (AllReady.cons rfl (fun K hK => ?_) AllReady.nil)
          · go_simp
            refine hK _ _ ?_
            clear hK K
            refine wpAny_done (by kernel_rfl) ?_ _
            refine ⟨rfl, ec, 1, se, se, #[], .iface 86 (.pointer (some ⟨W1.heap.size, 0, none⟩)), .tuple #[], false, W2, by (first | rw [HWD.out] | rw [show (W1.alloc (.cells #[.int .i64 (at' : Int), .int .i64 230] 91)).drew = W2 from HWD.out]); simp [execOp, scase, Act.eval], HE7.out, by decide, ?_⟩; go_end0; exact ⟨rfl, HFIN.out⟩
    · go_simp
      refine hK _ _ ?_
      clear hK K
      refine wpAny_ready (rs := [3, 10]) (by kernel_rfl) (by simp) ?_
      refine (AllReady.cons rfl (fun K hK => ?_) (AllReady.cons rfl (fun K hK => ?_) AllReady.nil))
      · go_simp
        refine hK _ _ ?_
        clear hK K
        refine wpAny_ready (rs := [10]) (by kernel_rfl) (by simp) ?_
        refine (AllReady.cons rfl (fun K hK => ?_) AllReady.nil)
        · go_simp
          refine hK _ _ ?_
          clear hK K
          refine wpAny_ready (rs := [11]) (by kernel_rfl) (by simp) ?_
          refine (AllReady.cons rfl (fun K hK => ?_) AllReady.nil)
          · go_simp
            refine hK _ _ ?_
            clear hK K
            refine wpAny_done (by kernel_rfl) ?_ _
            refine ⟨rfl, ec, 1, se, se, #[], .iface 86 (.pointer (some ⟨W1.heap.size, 0, none⟩)), .tuple #[], false, W2, by (first | rw [HWD.out] | rw [show (W1.alloc (.cells #[.int .i64 (at' : Int), .int .i64 230] 91)).drew = W2 from HWD.out]); simp [execOp, scase, Act.eval], HE7.out, by decide, ?_⟩; go_end0; exact ⟨rfl, HFIN.out⟩
      · go_simp
        refine hK _ _ ?_
        clear hK K
        refine wpAny_ready (rs := [3]) (by kernel_rfl) (by simp) ?_
        refine (AllReady.cons rfl (fun K hK => ?_) AllReady.nil)
        · go_simp
          refine hK _ _ ?_
          clear hK K
          refine wpAny_ready (rs := [11]) (by kernel_rfl) (by simp) ?_
          refine (AllReady.cons rfl (fun K hK => ?_) AllReady.nil)
          · go_simp
            refine hK _ _ ?_
            clear hK K
            refine wpAny_done (by kernel_rfl) ?_ _
            refine ⟨rfl, ec, 1, se, se, #[], .iface 86 (.pointer (some ⟨W1.heap.size, 0, none⟩)), .tuple #[], false, W2, by (first | rw [HWD.out] | rw [show (W1.alloc (.cells #[.int .i64 (at' : Int), .int .i64 230] 91)).drew = W2 from HWD.out]); simp [execOp, scase, Act.eval], HE7.out, by decide, ?_⟩; go_end0; exact ⟨rfl, HFIN.out⟩
end Go.Proofs.YtabmpngliphdpaaDoor.Jw
