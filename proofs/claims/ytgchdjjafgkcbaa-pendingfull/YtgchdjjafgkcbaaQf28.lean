import Derived.Test.YtgchdjjafgkcbaaQf27
/- What is laid down, in order: the comparison. -/
namespace Go.Proofs.Ytgchdjjafgkcbaa.Vb
set_option linter.unusedVariables false
set_option linter.unusedSimpArgs false
open Go.RowKit Go.Maps Go.Sort Lib0 Kb Xp Ih Dh Eh Fh Gh Hh Kh Jh Mh Th Ch Va
attribute [local go_sem] Oper.semAt_some
abbrev T3 := Int × Int × Nat
def emb (x : T3) : XT := (x.1, x.2.1, .pointer (some ⟨x.2.2, 0, none⟩))
def enc3 (x : T3) : List Value := [.int .i64 x.1, .int .i64 x.2.1, .pointer (some ⟨x.2.2, 0, none⟩)]
/-- by their ticks, then by their numbers -/
def cf3 (x y : T3) : Int := if Lib.compareInt x.2.1 y.2.1 = 0 then Lib.compareInt x.1 y.1 else Lib.compareInt x.2.1 y.2.1
def Dr (x : World) : World → Prop := fun y => ∃ m, y = x.drewN m
theorem qd_cell {P : Program} {ops : Array Oper} {o : Oper} {a : Act} {x : World} {K : Act → Prop} (hw : Region.wanted o (yielded ops a.tmps) = true) (ty : TypeId) (xo : Operand) (ho : o.op = .load ty xo)
    (b k : Nat) (hx : a.eval xo = .pointer (some ⟨b, k, none⟩)) (v : Value) (hc : x.cell? ⟨b, k, none⟩ = some v) (hb : b < x.heap.size) (hag : ∀ y, (isAgg ty).run P y = .ok false y)
    (h : K (a.put o.dst v)) : if Region.wanted o (yielded ops a.tmps) then o.quiet P a (Dr x) K else K (a.put o.dst undef) := by
  rw [if_pos hw]
  refine ⟨v, fun y hy => ?_, h⟩
  unfold Oper.quietAt execOp
  have hy' : y.cell? ⟨b, k, none⟩ = some v := by
    obtain ⟨m, rfl⟩ := hy
    exact keepC (Kb.below_drewN (Below.refl _ x) m) hc hb
  simp [ho, hx, Instr.loadAt, Instr.sureAddr, loadVar, hag, hy', Oper.quietUpon]
theorem dr_same {P : Program} {f : FuncId} {args : Array Value} {x y : World} {v : Value} (hy : Dr x y) (h : Calls P f args y fun e y' => e = .returned v ∧ y' = y) :
    Calls P f args y fun e y' => e = .returned v ∧ Dr x y' := h.mono fun e y' hh => ⟨hh.1, hh.2 ▸ hy⟩
set_option maxRecDepth 100000 in
theorem or_any (w : World) (g : Nat) (c d : Int) (h : w.heap[g]? = some (.cells #[.int .i64 c, .int .i64 d] tI)) : Calls Try.prog 52 #[.slice (some ⟨g, 0, none⟩) 2 2] w fun e w' => e = .returned (.int .i64 (if c = 0 then d else c)) ∧ w' = w := by
  have c0 : w.cell? ⟨g, 0, none⟩ = some (.int .i64 c) := by simp [World.cell?, h]
  have c1 : w.cell? ⟨g, 1, none⟩ = some (.int .i64 d) := by simp [World.cell?, h]
  clear h
  go_enter Try.func52, Try.ntmps52
  go_wp2_with fail
  refine wp_loop_rounds 3 ?_
  rw [rounds_succ]
  by_cases hc : c = 0
  · subst hc
    go_wp2_with fail
    rw [rounds_succ]
    by_cases hd : d = 0
    · subst hd
      go_wp2_with fail
      rw [rounds_succ]
      go_wp2_with fail
      go_ret
      exact ⟨rfl, rfl⟩
    · have hd2 : (d == 0) = false := by simpa using hd
      go_wp2_with fail
      go_ret
      exact ⟨rfl, rfl⟩
  · have hc2 : (c == 0) = false := by simpa using hc
    have HC : Hid (¬ c = 0) := hc
    clear hc
    go_wp2_with fail
    go_ret
    first
      | exact ⟨rfl, rfl⟩
      | (refine ⟨?_, rfl⟩; rw [if_neg HC.out]; rfl)
theorem grow_one (w : World) (o : Obj) : w.alloc o = grow w #[o] := alloc_eq_grow w o
set_option maxRecDepth 100000 in
set_option maxHeartbeats 1600000 in
theorem cmp_any (x y : T3) (W : World) : Calls Try.prog 51 #[.agg (enc3 x).toArray, .agg (enc3 y).toArray] W fun e w' => e = .returned (.int .i64 (cf3 x y)) ∧ ∃ q os', w' = grow (W.drewN q) os' := by
  obtain ⟨a0, a1, a2⟩ := x
  obtain ⟨b0, b1, b2⟩ := y
  have hc1 := fun W' => AnyG.cmp_Compare_int Try.cmpInt a1 b1 W'
  change ∀ W', Calls Try.prog 53 _ _ _ at hc1
  have hc0 := fun W' => AnyG.cmp_Compare_int Try.cmpInt a0 b0 W'
  change ∀ W', Calls Try.prog 53 _ _ _ at hc0
  have HR : Hid (cf3 (a0, a1, a2) (b0, b1, b2) = if Lib.compareInt a1 b1 = 0 then Lib.compareInt a0 b0 else Lib.compareInt a1 b1) := rfl
  generalize Lib.compareInt a1 b1 = k1 at *
  generalize Lib.compareInt a0 b0 = k0 at *
  obtain ⟨r, HRR⟩ : ∃ r, Hid ((if k1 = 0 then k0 else k1) = r) := ⟨_, rfl⟩
  rw [HR.out, HRR.out]
  clear HR
  unfold enc3
  dsimp only
  obtain ⟨V, hV⟩ : ∃ V, (W.alloc (.cells #[.int .i64 a0, .int .i64 a1, .pointer (some ⟨a2, 0, none⟩)] tL)).alloc (.cells #[.int .i64 b0, .int .i64 b1, .pointer (some ⟨b2, 0, none⟩)] tL) = V := ⟨_, rfl⟩
  obtain ⟨X, HX⟩ : ∃ X, Hid (W.heap.size = X) := ⟨_, rfl⟩
  obtain ⟨Y, HYY⟩ : ∃ Y, Hid (W.heap.size + 1 = Y) := ⟨_, rfl⟩
  have hX : V.heap[X]? = some (.cells #[.int .i64 a0, .int .i64 a1, .pointer (some ⟨a2, 0, none⟩)] tL) := by rw [← hV, ← HX.out]; exact h2_0 _ _ _
  have hY : V.heap[Y]? = some (.cells #[.int .i64 b0, .int .i64 b1, .pointer (some ⟨b2, 0, none⟩)] tL) := by rw [← hV, ← HYY.out]; exact h2_1 _ _ _
  have r0 : V.cell? ⟨X, 0, none⟩ = some (.int .i64 a0) := by simp [World.cell?, hX]
  have r1 : V.cell? ⟨X, 1, none⟩ = some (.int .i64 a1) := by simp [World.cell?, hX]
  have s0 : V.cell? ⟨Y, 0, none⟩ = some (.int .i64 b0) := by simp [World.cell?, hY]
  have s1 : V.cell? ⟨Y, 1, none⟩ = some (.int .i64 b1) := by simp [World.cell?, hY]
  have lx : X < V.heap.size := (Array.getElem?_eq_some_iff.1 hX).1
  have ly : Y < V.heap.size := (Array.getElem?_eq_some_iff.1 hY).1
  have HV : Hid (V = grow W #[.cells #[.int .i64 a0, .int .i64 a1, .pointer (some ⟨a2, 0, none⟩)] tL, .cells #[.int .i64 b0, .int .i64 b1, .pointer (some ⟨b2, 0, none⟩)] tL]) := by
    show V = _
    rw [← hV, grow_one, grow_one, grow_grow]; rfl
  clear hX hY
  go_enter Try.func51, Try.ntmps51
  go_wp2_with fail
  try rw [hV]
  try rw [HYY.out]
  try rw [HX.out]
  clear hV
  refine Qt.region_tail 10 2 (C := Dr V) (by kernel_rfl) rfl (by kernel_rfl) (by kernel_rfl) (by kernel_rfl) ⟨1, rfl⟩ ?_
  simp only [List.take_succ_cons, List.take_zero, List.drop_succ_cons, List.drop_zero]
  repeat (first | go_big_quiet_skip | (go_big_quiet_want; go_big_quiet_op; first | go_big_quiet_on | (refine ⟨_, fun _ _ => rfl, ?_⟩; go_big_quiet_on) | (refine ⟨_, fun _ _ => ⟨rfl, rfl⟩, ?_⟩; go_big_quiet_on)) | (refine wpQuiet_step (fun K hK => ?_); first
    | (refine qd_cell (by rfl) 3 _ rfl X 1 rfl _ r1 lx (fun y => Try.isAgg3 y) (hK _ ?_); clear hK K; simp only [Act.put, List.setIfInBounds_toArray, List.set_cons_succ, List.set_cons_zero])
    | (refine qd_cell (by rfl) 3 _ rfl X 0 rfl _ r0 lx (fun y => Try.isAgg3 y) (hK _ ?_); clear hK K; simp only [Act.put, List.setIfInBounds_toArray, List.set_cons_succ, List.set_cons_zero])
    | (refine qd_cell (by rfl) 3 _ rfl Y 1 rfl _ s1 ly (fun y => Try.isAgg3 y) (hK _ ?_); clear hK K; simp only [Act.put, List.setIfInBounds_toArray, List.set_cons_succ, List.set_cons_zero])
    | (refine qd_cell (by rfl) 3 _ rfl Y 0 rfl _ s0 ly (fun y => Try.isAgg3 y) (hK _ ?_); clear hK K; simp only [Act.put, List.setIfInBounds_toArray, List.set_cons_succ, List.set_cons_zero])
    | (go_simp; apply Exists.intro; refine ⟨fun y hy => ?_, hK _ ?_⟩; (first | (go_at_call_of 53 (Value.int .i64 a1); exact dr_same hy (hc1 _)) | (go_at_call_of 53 (Value.int .i64 a0); exact dr_same hy (hc0 _))); clear hK K)
    | fail))
  refine wpQuiet_nil ?_
  rintro y ⟨q, rfl⟩
  obtain ⟨u, hu⟩ : ∃ u, V.drewN q = u := ⟨_, rfl⟩
  rw [hu]
  have hor := or_any (u.alloc (.cells #[.int .i64 k1, .int .i64 k0] tI)) u.heap.size k1 k0 (h1_0 _ _)
  rw [HRR.out] at hor
  have HU : Hid (V.drewN q = u) := hu
  clear hu r0 r1 s0 s1
  go_wp2_with fail
  refine hor.mono ?_
  rintro e z ⟨rfl, hz⟩
  rw [hz]
  clear hz z hor
  go_wp2_with fail
  go_ret
  refine ⟨rfl, q, #[.cells #[.int .i64 a0, .int .i64 a1, .pointer (some ⟨a2, 0, none⟩)] tL, .cells #[.int .i64 b0, .int .i64 b1, .pointer (some ⟨b2, 0, none⟩)] tL, .cells #[.int .i64 k1, .int .i64 k0] tI], ?_⟩
  rw [← HU.out, HV.out, grow_one]
  show grow (grow (W.drewN q) _) _ = _
  rw [grow_grow]; rfl
end Go.Proofs.Ytgchdjjafgkcbaa.Vb
/- What is laid down, in order: the sort. -/
namespace Go.Proofs.Ytgchdjjafgkcbaa.Vc
set_option linter.unusedVariables false
set_option linter.unusedSimpArgs false
open Go.RowKit Go.Maps Lib0 Kb Xp Ih Dh Eh Fh Gh Hh Kh Jh Mh Th Ch Va Vb
attribute [local go_sem] Oper.semAt_some
def Lt3 (x y : T3) : Prop := x.2.1 < y.2.1 ∨ (x.2.1 = y.2.1 ∧ x.1 < y.1)
theorem cf3_lt (x y : T3) : cf3 x y < 0 ↔ Lt3 x y := by
  unfold cf3 Lib.compareInt Lt3
  by_cases h1 : x.2.1 < y.2.1
  · simp [h1]
  · by_cases h2 : y.2.1 < x.2.1
    · simp [h1, h2]; omega
    · by_cases h3 : x.1 < y.1
      · simp [h1, h2, h3]; omega
      · by_cases h4 : y.1 < x.1 <;> simp [h1, h2, h3, h4]
theorem lt_of (x y : T3) : Go.Proofs.ltOf cf3 x y = true ↔ Lt3 x y := by
  rw [Go.Proofs.ltOf, decide_eq_true_iff, cf3_lt]
theorem lt_not (x y : T3) : Go.Proofs.ltOf cf3 x y = false ↔ ¬ Lt3 x y := by
  rw [← lt_of, Bool.not_eq_true]
theorem swo3 : Go.Sort.SWO (Go.Proofs.ltOf cf3) where
  irrefl x := by rw [lt_not]; unfold Lt3; omega
  trans x y z h1 h2 := by rw [lt_of] at *; unfold Lt3 at *; omega
  ntrans x y z h1 h2 := by rw [lt_not] at *; unfold Lt3 at *; omega
theorem gc_emb (T : List T3) (j : Nat) (h : j < T.length * 3) : (gc (T.map emb))[j]? = some ((enc3 (T.toArray[j / 3]!))[j % 3]!) := by
  have hi : j / 3 < T.length := by omega
  have hi2 : j / 3 < (T.map emb).length := by rw [List.length_map]; exact hi
  obtain ⟨d0, d1, d2⟩ := gc_at (T.map emb) _ hi2
  rw [List.getElem_map] at d0 d1 d2
  have e : T.toArray[j / 3]! = T[j / 3] := by rw [getElem!_pos _ _ (by simpa using hi)]; simp
  rw [e]
  have hm : j % 3 = 0 ∨ j % 3 = 1 ∨ j % 3 = 2 := by omega
  rcases hm with hm | hm | hm
  · rw [show j / 3 * 3 = j by omega] at d0; rw [hm, d0]; rfl
  · rw [show j / 3 * 3 + 1 = j by omega] at d1; rw [hm, d1]; rfl
  · rw [show j / 3 * 3 + 2 = j by omega] at d2; rw [hm, d2]; rfl
theorem flat_emb (T : List T3) : (Go.Sort.flatK enc3 3 T.toArray).toList = gc (T.map emb) := by
  apply List.ext_getElem?
  intro j
  by_cases h : j < T.length * 3
  · rw [gc_emb T j h]
    simp [Go.Sort.flatK, h]
  · rw [List.getElem?_eq_none (by rw [Array.length_toList, Go.Sort.size_flatK]; simp; omega), List.getElem?_eq_none (by rw [gc_len, List.length_map]; omega)]
theorem holds_row {w : World} {g : Nat} {cur : Array Value} {T : List T3} (hg : w.heap[g]? = some (.cells cur tL (0, 0))) (ht : cur.toList.take (T.length * 3) = gc (T.map emb)) : Go.Sort.HoldsK enc3 3 w g 0 T.toArray := by
  intro j hj
  rw [Go.Sort.size_flatK] at hj
  have hj2 : j < T.length * 3 := by simpa using hj
  refine ⟨?_, ?_⟩
  · rw [Nat.zero_add, cell_of_row w g j _ _ _ hg, Go.Sort.get_flatK _ _ _ _ hj]
    have h1 := gc_emb T j hj2
    rw [← ht, List.getElem?_take, if_pos hj2, Array.getElem?_toList] at h1
    exact h1
  · rw [Nat.zero_add]; exact frozen_of_row w g j _ _ hg
theorem sortW_heap {w : World} {g n : Nat} {cur : Array Value} {T T' : List T3} {os : Array Obj} (hg : w.heap[g]? = some (.cells cur tL (0, 0))) (hl : T'.length = T.length) (hc : T.length * 3 ≤ cur.size) : ∃ cur', (Go.Proofs.sortWorldK enc3 3 w g 0 n T'.toArray os).heap[g]? = some (.cells cur' tL (0, 0)) ∧ cur'.size = cur.size ∧ cur'.toList.take (T.length * 3) = gc (T'.map emb) := by
  have hlt := (Array.getElem?_eq_some_iff.1 hg).1
  refine ⟨Go.Sort.putCells id 0 (Go.Sort.flatK enc3 3 T'.toArray) cur, ?_, by simp [Go.Sort.putCells], ?_⟩
  · show ((w.heap.modify g _) ++ os)[g]? = _
    rw [Array.getElem?_append_left (by simpa using hlt), Array.getElem?_modify, if_pos rfl, hg]
    rfl
  · rw [← flat_emb]
    apply List.ext_getElem?
    intro j
    by_cases h : j < T.length * 3
    · rw [List.getElem?_take, if_pos h, Array.getElem?_toList, Array.getElem?_toList]
      simp only [Go.Sort.putCells, Array.getElem?_mapIdx]
      have h2 : j < (Go.Sort.flatK enc3 3 T'.toArray).size := by rw [Go.Sort.size_flatK]; simp; omega
      have h3 : j < cur.size := by omega
      rw [Array.getElem?_eq_getElem h3, Option.map_some, if_pos ⟨Nat.zero_le _, by omega⟩, Nat.sub_zero, getElem!_pos _ j h2, Array.getElem?_eq_getElem h2]
      rfl
    · rw [List.getElem?_eq_none (by rw [List.length_take]; omega), List.getElem?_eq_none (by rw [Array.length_toList, Go.Sort.size_flatK]; simp; omega)]
theorem sortW_fr {w : World} {g n : Nat} {d : Array T3} {os : Array Obj} : FrP (fun k => k = g) w (Go.Proofs.sortWorldK enc3 3 w g 0 n d os) := by
  refine ⟨rfl, rfl, rfl, ?_, fun b hb hn => ?_⟩
  · show w.heap.size ≤ ((w.heap.modify g _) ++ os).size
    simp
  · show ((w.heap.modify g _) ++ os)[b]? = _
    rw [Array.getElem?_append_left (by simpa using hb), Array.getElem?_modify, if_neg (fun e => hn e.symm)]
theorem isAggL (w : World) : (isAgg tL).run Try.prog w = .ok true w := by kernel_rfl
theorem sizeL (w : World) : (Go.sizeOf tL).run Try.prog w = .ok 3 w := by kernel_rfl
/-- slices.SortFunc as inOrder calls it -/
theorem sort_any (w : World) (base : Nat) (v : Value) (T : List T3) (h : w.ownsRow base tL 3 v T.length (gc (T.map emb))) (hl : T.length ≤ 5864062014805) :
    Calls Try.prog 50 #[v, .func (.func 51) #[] #[]] w fun e w' => e = .returned (.tuple #[]) ∧ ∃ T' : List T3, T'.Perm T ∧ (T'.Pairwise fun x y => ¬ Lt3 y x) ∧ w'.ownsRow base tL 3 v T'.length (gc (T'.map emb)) ∧ FrP (fun k => v.ownBlock = some k) w w' := by
  rcases h.2 with ⟨rfl, h0⟩ | ⟨g, cap, cur, rfl, hbase, hg, hcap, hml, hcs, htk⟩
  · have e : T = [] := List.eq_nil_of_length_eq_zero h0
    subst e
    have hcon := Go.Proofs.AnyF.slices_SortFunc_none (P := Try.prog) (ρ := Try.sortL_ren) Try.sortL none 0 (.func (.func 51) #[] #[]) w
    change Calls Try.prog 50 _ _ _ at hcon
    refine hcon.mono ?_
    rintro e w' ⟨rfl, rfl⟩
    exact ⟨rfl, [], List.Perm.refl _, List.Pairwise.nil, World.ownsRow_nil _ _ _ _, FrP.refl _ _⟩
  · have hcon := Go.Proofs.AnyQ.slices_SortFunc (P := Try.prog) (ρ := Try.sortL_ren) Try.sortL 3 isAggL sizeL enc3 (fun _ => rfl) (fun x v hv => by simp [enc3] at hv; rcases hv with rfl | rfl | rfl <;> rfl) cf3 swo3 51 #[] g 0 cap T.toArray w (enters_of Try.func51 (by kernel_rfl) rfl) (fun m os dk _ x y => cmp_any x y _) (holds_row hg htk) (Array.getElem?_eq_some_iff.1 hg).1 (by simp; omega)
    change Calls Try.prog 50 _ _ _ at hcon
    rw [List.size_toArray] at hcon
    refine hcon.mono ?_
    rintro e w' ⟨rfl, d', n, os, hp, hs, rfl⟩
    obtain ⟨hp1, -, hp3⟩ := hp
    have hl2 : d'.toList.length = T.length := by rw [Array.length_toList, hp1]; simp
    have hd : d' = d'.toList.toArray := by simp
    obtain ⟨cur', a1, a2, a3⟩ := sortW_heap (n := n) (os := os) (T' := d'.toList) hg hl2 (by rw [hcs]; omega)
    rw [← hd] at a1
    refine ⟨rfl, d'.toList, ?_, ?_, ⟨by rw [gc_len, List.length_map], .inr ⟨g, cap, cur', by rw [hl2], hbase, a1, by omega, hml, by rw [a2, hcs], by rw [hl2]; exact a3⟩⟩, sortW_fr.mono (fun k e => by rw [e]; rfl)⟩
    · rw [show T.length = d'.size by rw [hp1]; simp] at hp3
      rw [Array.extract_size] at hp3
      rw [hp1, Array.extract_size] at hp3
      simpa using hp3
    · rw [List.pairwise_iff_getElem]
      intro i j hi hj hij
      have hi' : i < d'.size := by simpa using hi
      have hj' : j < d'.size := by simpa using hj
      have := hs i j (Nat.zero_le _) hij (by rw [hp1] at hj'; simpa using hj')
      rw [getElem!_pos d' j hj', getElem!_pos d' i hi', lt_not] at this
      simpa using this
end Go.Proofs.Ytgchdjjafgkcbaa.Vc
