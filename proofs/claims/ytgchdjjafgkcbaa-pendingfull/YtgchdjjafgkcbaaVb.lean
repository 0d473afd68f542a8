/- What is laid down, in order: the comparison. -/
import Derived.Test.YtgchdjjafgkcbaaVa
import Derived.Test.YtgchdjjafgkcbaaSrt
namespace Go.Proofs.Ytgchdjjafgkcbaa.Vb
set_option linter.unusedVariables false
set_option linter.unusedSimpArgs false
open Go.RowKit Go.Maps Go.Sort Lib0 Kb Xp Ih Dh Eh Fh Gh Hh Kh Jh Mh Th Ch Va
attribute [local go_sem] Oper.semAt_some
abbrev T3 := Int × Int × Nat
def emb (x : T3) : XT := (x.1, x.2.1, .pointer (some ⟨x.2.2, 0, none⟩))
def enc3 (x : T3) : List Value := [.int .i64 x.1, .int .i64 x.2.1, .pointer (some ⟨x.2.2, 0, none⟩)]
/-- by their ticks, then by their numbers -/
def cf3 (x y : T3) : Int := if Lib.compareInt x.2.1 y.2.1 = 0 then Lib.compareInt x.1 y.1 else Lib.compareInt x.2.1 y.2.1
def Dr (x : World) : World → Prop := fun y => ∃ m, y = x.drewN m
theorem qd_cell {P : Program} {ops : Array Oper} {o : Oper} {a : Act} {x : World} {K : Act → Prop} (hw : Region.wanted o (yielded ops a.tmps) = true) (ty : TypeId) (xo : Operand) (ho : o.op = .load ty xo)
    (b k : Nat) (hx : a.eval xo = .pointer (some ⟨b, k, none⟩)) (v : Value) (hc : x.cell? ⟨b, k, none⟩ = some v) (hb : b < x.heap.size) (hag : ∀ y, (isAgg ty).run P y = .ok false y)
    (h : K (a.put o.dst v)) : if Region.wanted o (yielded ops a.tmps) then o.quiet P a (Dr x) K else K (a.put o.dst undef) := by
  rw [if_pos hw]
  refine ⟨v, fun y hy => ?_, h⟩
  unfold Oper.quietAt execOp
  have hy' : y.cell? ⟨b, k, none⟩ = some v := by
    obtain ⟨m, rfl⟩ := hy
    exact keepC (Kb.below_drewN (Below.refl _ x) m) hc hb
  simp [ho, hx, Instr.loadAt, Instr.sureAddr, loadVar, hag, hy', Oper.quietUpon]
theorem dr_same {P : Program} {f : FuncId} {args : Array Value} {x y : World} {v : Value} (hy : Dr x y) (h : Calls P f args y fun e y' => e = .returned v ∧ y' = y) :
    Calls P f args y fun e y' => e = .returned v ∧ Dr x y' := h.mono fun e y' hh => ⟨hh.1, hh.2 ▸ hy⟩
set_option maxRecDepth 100000 in
theorem or_any (w : World) (g : Nat) (c d : Int) (h : w.heap[g]? = some (.cells #[.int .i64 c, .int .i64 d] tI)) : Calls Try.prog 52 #[.slice (some ⟨g, 0, none⟩) 2 2] w fun e w' => e = .returned (.int .i64 (if c = 0 then d else c)) ∧ w' = w := by
  have c0 : w.cell? ⟨g, 0, none⟩ = some (.int .i64 c) := by simp [World.cell?, h]
  have c1 : w.cell? ⟨g, 1, none⟩ = some (.int .i64 d) := by simp [World.cell?, h]
  clear h
  go_enter Try.func52, Try.ntmps52
  go_wp2_with fail
  refine wp_loop_rounds 3 ?_
  rw [rounds_succ]
  by_cases hc : c = 0
  · subst hc
    go_wp2_with fail
    rw [rounds_succ]
    by_cases hd : d = 0
    · subst hd
      go_wp2_with fail
      rw [rounds_succ]
      go_wp2_with fail
      go_ret
      exact ⟨rfl, rfl⟩
    · have hd2 : (d == 0) = false := by simpa using hd
      go_wp2_with fail
      go_ret
      exact ⟨rfl, rfl⟩
  · have hc2 : (c == 0) = false := by simpa using hc
    have HC : Hid (¬ c = 0) := hc
    clear hc
    go_wp2_with fail
    go_ret
    first
      | exact ⟨rfl, rfl⟩
      | (refine ⟨?_, rfl⟩; rw [if_neg HC.out]; rfl)
theorem grow_one (w : World) (o : Obj) : w.alloc o = grow w #[o] := alloc_eq_grow w o
set_option maxRecDepth 100000 in
set_option maxHeartbeats 1600000 in
theorem cmp_any (x y : T3) (W : World) : Calls Try.prog 51 #[.agg (enc3 x).toArray, .agg (enc3 y).toArray] W fun e w' => e = .returned (.int .i64 (cf3 x y)) ∧ ∃ q os', w' = grow (W.drewN q) os' := by
  obtain ⟨a0, a1, a2⟩ := x
  obtain ⟨b0, b1, b2⟩ := y
  have hc1 := fun W' => AnyG.cmp_Compare_int Try.cmpInt a1 b1 W'
  change ∀ W', Calls Try.prog 53 _ _ _ at hc1
  have hc0 := fun W' => AnyG.cmp_Compare_int Try.cmpInt a0 b0 W'
  change ∀ W', Calls Try.prog 53 _ _ _ at hc0
  have HR : Hid (cf3 (a0, a1, a2) (b0, b1, b2) = if Lib.compareInt a1 b1 = 0 then Lib.compareInt a0 b0 else Lib.compareInt a1 b1) := rfl
  generalize Lib.compareInt a1 b1 = k1 at *
  generalize Lib.compareInt a0 b0 = k0 at *
  obtain ⟨r, HRR⟩ : ∃ r, Hid ((if k1 = 0 then k0 else k1) = r) := ⟨_, rfl⟩
  rw [HR.out, HRR.out]
  clear HR
  unfold enc3
  dsimp only
  obtain ⟨V, hV⟩ : ∃ V, (W.alloc (.cells #[.int .i64 a0, .int .i64 a1, .pointer (some ⟨a2, 0, none⟩)] tL)).alloc (.cells #[.int .i64 b0, .int .i64 b1, .pointer (some ⟨b2, 0, none⟩)] tL) = V := ⟨_, rfl⟩
  obtain ⟨X, HX⟩ : ∃ X, Hid (W.heap.size = X) := ⟨_, rfl⟩
  obtain ⟨Y, HYY⟩ : ∃ Y, Hid (W.heap.size + 1 = Y) := ⟨_, rfl⟩
  have hX : V.heap[X]? = some (.cells #[.int .i64 a0, .int .i64 a1, .pointer (some ⟨a2, 0, none⟩)] tL) := by rw [← hV, ← HX.out]; exact h2_0 _ _ _
  have hY : V.heap[Y]? = some (.cells #[.int .i64 b0, .int .i64 b1, .pointer (some ⟨b2, 0, none⟩)] tL) := by rw [← hV, ← HYY.out]; exact h2_1 _ _ _
  have r0 : V.cell? ⟨X, 0, none⟩ = some (.int .i64 a0) := by simp [World.cell?, hX]
  have r1 : V.cell? ⟨X, 1, none⟩ = some (.int .i64 a1) := by simp [World.cell?, hX]
  have s0 : V.cell? ⟨Y, 0, none⟩ = some (.int .i64 b0) := by simp [World.cell?, hY]
  have s1 : V.cell? ⟨Y, 1, none⟩ = some (.int .i64 b1) := by simp [World.cell?, hY]
  have lx : X < V.heap.size := (Array.getElem?_eq_some_iff.1 hX).1
  have ly : Y < V.heap.size := (Array.getElem?_eq_some_iff.1 hY).1
  have HV : Hid (V = grow W #[.cells #[.int .i64 a0, .int .i64 a1, .pointer (some ⟨a2, 0, none⟩)] tL, .cells #[.int .i64 b0, .int .i64 b1, .pointer (some ⟨b2, 0, none⟩)] tL]) := by
    show V = _
    rw [← hV, grow_one, grow_one, grow_grow]; rfl
  clear hX hY
  go_enter Try.func51, Try.ntmps51
  go_wp2_with fail
  try rw [hV]
  try rw [HYY.out]
  try rw [HX.out]
  clear hV
  refine Qt.region_tail 10 2 (C := Dr V) (by kernel_rfl) rfl (by kernel_rfl) (by kernel_rfl) (by kernel_rfl) ⟨1, rfl⟩ ?_
  simp only [List.take_succ_cons, List.take_zero, List.drop_succ_cons, List.drop_zero]
  repeat (first | go_big_quiet_skip | (go_big_quiet_want; go_big_quiet_op; first | go_big_quiet_on | (refine ⟨_, fun _ _ => rfl, ?_⟩; go_big_quiet_on) | (refine ⟨_, fun _ _ => ⟨rfl, rfl⟩, ?_⟩; go_big_quiet_on)) | (refine wpQuiet_step (fun K hK => ?_); first
    | (refine qd_cell (by rfl) 3 _ rfl X 1 rfl _ r1 lx (fun y => Try.isAgg3 y) (hK _ ?_); clear hK K; simp only [Act.put, List.setIfInBounds_toArray, List.set_cons_succ, List.set_cons_zero])
    | (refine qd_cell (by rfl) 3 _ rfl X 0 rfl _ r0 lx (fun y => Try.isAgg3 y) (hK _ ?_); clear hK K; simp only [Act.put, List.setIfInBounds_toArray, List.set_cons_succ, List.set_cons_zero])
    | (refine qd_cell (by rfl) 3 _ rfl Y 1 rfl _ s1 ly (fun y => Try.isAgg3 y) (hK _ ?_); clear hK K; simp only [Act.put, List.setIfInBounds_toArray, List.set_cons_succ, List.set_cons_zero])
    | (refine qd_cell (by rfl) 3 _ rfl Y 0 rfl _ s0 ly (fun y => Try.isAgg3 y) (hK _ ?_); clear hK K; simp only [Act.put, List.setIfInBounds_toArray, List.set_cons_succ, List.set_cons_zero])
    | (go_simp; apply Exists.intro; refine ⟨fun y hy => ?_, hK _ ?_⟩; (first | (go_at_call_of 53 (Value.int .i64 a1); exact dr_same hy (hc1 _)) | (go_at_call_of 53 (Value.int .i64 a0); exact dr_same hy (hc0 _))); clear hK K)
    | fail))
  refine wpQuiet_nil ?_
  rintro y ⟨q, rfl⟩
  obtain ⟨u, hu⟩ : ∃ u, V.drewN q = u := ⟨_, rfl⟩
  rw [hu]
  have hor := or_any (u.alloc (.cells #[.int .i64 k1, .int .i64 k0] tI)) u.heap.size k1 k0 (h1_0 _ _)
  rw [HRR.out] at hor
  have HU : Hid (V.drewN q = u) := hu
  clear hu r0 r1 s0 s1
  go_wp2_with fail
  refine hor.mono ?_
  rintro e z ⟨rfl, hz⟩
  rw [hz]
  clear hz z hor
  go_wp2_with fail
  go_ret
  refine ⟨rfl, q, #[.cells #[.int .i64 a0, .int .i64 a1, .pointer (some ⟨a2, 0, none⟩)] tL, .cells #[.int .i64 b0, .int .i64 b1, .pointer (some ⟨b2, 0, none⟩)] tL, .cells #[.int .i64 k1, .int .i64 k0] tI], ?_⟩
  rw [← HU.out, HV.out, grow_one]
  show grow (grow (W.drewN q) _) _ = _
  rw [grow_grow]; rfl
end Go.Proofs.Ytgchdjjafgkcbaa.Vb
