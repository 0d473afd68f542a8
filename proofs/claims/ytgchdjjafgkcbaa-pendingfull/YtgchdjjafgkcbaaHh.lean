/- A wheel of *turnstile/pending.held: Add. -/
import Derived.Test.YtgchdjjafgkcbaaGh
import Derived.Great.BuildSlice
namespace Go.Proofs.Ytgchdjjafgkcbaa.Hh
set_option linter.unusedVariables false
set_option linter.unusedSimpArgs false
open Go.RowKit Go.Maps Lib0 Kb Xp Ih Dh Eh Fh Gh
attribute [local go_sem] Oper.semAt_some
/-- what has become of a wheel; what it has come to lie in is its own, or new -/
def Trn (w : World) (b : Nat) (B : Nat → Prop) (n : Nat) (L' : LT) (now' last' : Int) (w' : World) : Prop := ∃ B', Wl w' b B' n L' now' last' ∧ FrP B w w' ∧ ∀ g, B' g → B g ∨ w.heap.size ≤ g
theorem Wm.set {w : World} {b sb mb n : Nat} {S : Nat → Value} {c : Nat} {D : DataW Unit} {L : LT} {now last now' last' : Int} (h : Wm w b sb mb n S c D L now last) (k : Nat) (v : Value) (hk : #[Value.slice (some ⟨sb, 0, none⟩) n n, .map (some mb), .int .i64 now, .int .i64 last].setIfInBounds k v = #[Value.slice (some ⟨sb, 0, none⟩) n n, .map (some mb), .int .i64 now', .int .i64 last']) (hl : last ≤ last') : Wm (w.setCell ⟨b, k, none⟩ v) b sb mb n S c D L now' last' := by
  have hne : ∀ g, b ≠ g → (w.setCell ⟨b, k, none⟩ v).heap[g]? = w.heap[g]? := fun g hg => setCell_ne (p := ⟨b, k, none⟩) hg v
  refine ⟨?_, (hne sb (ty_ne h.blk h.slots (by decide))).trans h.slots, fun j hj => own_keep (h.row j hj) fun g hg => hne g (fun e => (h.row_lt hj hg).2.1 e.symm), h.apart, ?_, h.mp, ?_⟩
  · rw [setCell_heap h.blk, hk]
  · exact h.map.setCell (fun e => map_ne h.blk h.map e.symm) v
  · have := h.cnt; omega
theorem Wm.len {w : World} {b sb mb n : Nat} {S : Nat → Value} {c : Nat} {D : DataW Unit} {L : LT} {now last : Int} (h : Wm w b sb mb n S c D L now last) : L.length ≤ last.toNat := by
  have := h.mp.size
  have := h.map.size_le
  have := h.cnt
  omega
theorem Ok.up {n : Nat} {L : LT} {now last last' : Int} (h : Ok n L now last) (h1 : last ≤ last') (h2 : last' ≤ 5864062014805) : Ok n L now last' := ⟨h.pos, h.top, h.one, h.inc, fun x hx => by have := h.num x hx; omega, h.tik, h.now0, h.now1, by have := h.last0; omega, h2⟩
theorem Ok.none_new {n : Nat} {L : LT} {now last : Int} (h : Ok n L now last) : lkG L (last + 1) = none := lkG_none.2 fun x hx => by have := h.num x hx; omega
theorem Ok.add {n : Nat} {L : LT} {now last t : Int} {v : Value} (h : Ok n L now last) (hv : v.oneCell' = true) (h1 : 1 ≤ t) (h2 : t ≤ 100000) (h3 : last + 1 ≤ 5864062014805) : Ok n (L ++ [(last + 1, now + t, v)]) now (last + 1) := by
  refine ⟨h.pos, h.top, h.one.append (fun x hx => by simp at hx; rw [hx]; exact hv), ?_, fun x hx => ?_, fun x hx => ?_, h.now0, h.now1, by have := h.last0; omega, h3⟩
  · rw [Inc, List.pairwise_append]
    exact ⟨h.inc, by simp, fun x hx y hy => by simp at hy; rw [hy]; have := h.num x hx; show x.1 < last + 1; omega⟩
  · rcases List.mem_append.1 hx with hx | hx
    · have := h.num x hx; omega
    · simp at hx; rw [hx]; have := h.last0; constructor <;> dsimp only <;> omega
  · rcases List.mem_append.1 hx with hx | hx
    · exact h.tik x hx
    · simp at hx; rw [hx]; constructor <;> dsimp only <;> omega
theorem add_no (w : World) (b : Nat) (ticks : Int) (v : Value) (h : ticks < 1 ∨ 100000 < ticks) : Calls Try.prog 37 #[.pointer (some ⟨b, 0, none⟩), .int .i64 ticks, v] w fun e w' => e = .returned (.tuple #[.int .i64 0, .int .i64 1]) ∧ w' = w := by
  by_cases h1 : ticks < 1
  · clear h
    go_enter Try.func37, Try.ntmps37
    go_wp2
    go_ret2
    exact ⟨rfl, rfl⟩
  · have h2 : 100000 < ticks := by omega
    clear h
    go_enter Try.func37, Try.ntmps37
    go_wp2
    go_ret2
    exact ⟨rfl, rfl⟩
theorem wf64 {t : Int} (h0 : 0 ≤ t) (h1 : t ≤ 9223372036854775807) : (Lit.int .i64 t).wf = true := WalkArith.wf_i64 (by omega)
theorem build_any (a b : Int) (v : Value) (hv : v.oneCell' = true) : Try.prog.built tL [(0, .int .i64 a), (1, .int .i64 b), (2, v)] = some #[.int .i64 a, .int .i64 b, v] := by
  cases v <;> first | (simp [Value.oneCell'] at hv; done) | kernel_rfl
set_option maxRecDepth 100000 in
set_option maxHeartbeats 1600000 in
theorem add_yes (w : World) (b : Nat) (B : Nat → Prop) (n : Nat) (L : LT) (now last ticks : Int) (v : Value) (h : Wl w b B n L now last) (ok : Ok n L now last) (hv : v.oneCell' = true) (h1 : ¬ ticks < 1) (h2 : ¬ 100000 < ticks) (hl : last + 1 ≤ 5864062014805) :
    Calls Try.prog 37 #[.pointer (some ⟨b, 0, none⟩), .int .i64 ticks, v] w fun e w' => e = .returned (.tuple #[.int .i64 (last + 1), .int .i64 0]) ∧ Trn w b B n (L ++ [(last + 1, now + ticks, v)]) now (last + 1) w' := by
  obtain ⟨sb, mb, S, c, D, hm, hB⟩ := h
  have HB : Hid (∀ g, B g ↔ Bk b sb mb n S g) := hB
  have hb := hm.blk
  have c2 : w.cell? ⟨b, 2, none⟩ = some (.int .i64 now) := by simp [World.cell?, hb]
  have c3 : w.cell? ⟨b, 3, none⟩ = some (.int .i64 last) := by simp [World.cell?, hb]
  have f3 : w.frozen? ⟨b, 3, none⟩ = false := by simp [World.frozen?, hb]
  have n0 := ok.now0
  have n1 := ok.now1
  have l0 := ok.last0
  obtain ⟨y, hy⟩ : ∃ y, w.setCell ⟨b, 3, none⟩ (.int .i64 (last + 1)) = y := ⟨_, rfl⟩
  have hmy : Wm y b sb mb n S c D L now (last + 1) := hy ▸ Wm.set hm 3 _ rfl (by omega)
  have HF : Hid (FrP B w y) := hy ▸ (FrP.refl B w).set (p := ⟨b, 3, none⟩) (.inl ((hB b).2 (.inl rfl))) _
  have hln := Wm.len hm
  have d2 : y.cell? ⟨b, 2, none⟩ = some (.int .i64 now) := by simp [World.cell?, hmy.blk]
  have d3 : y.cell? ⟨b, 3, none⟩ = some (.int .i64 (last + 1)) := by simp [World.cell?, hmy.blk]
  have lb : b < y.heap.size := (Array.getElem?_eq_some_iff.1 hmy.blk).1
  have HPUT : Hid (∀ y3, Below y.heap.size y y3 → Calls Try.prog 46 #[.pointer (some ⟨b, 0, none⟩), agv (last + 1, now + ticks, v)] y3 fun e w' => e = .returned (.tuple #[]) ∧ PutPost y3 b sb mb n S c L now (last + 1) (last + 1, now + ticks, v) w') := fun y3 h3 =>
    put_m y3 b sb mb n S c D L now (last + 1) (last + 1, now + ticks, v) (hmy.keep fun g hg => h3.block g (hmy.lt g hg)) (Ok.up ok (by omega) (by omega)) hv (by show 0 ≤ now + ticks; omega) (Ok.none_new ok) (wf64 (by show 0 ≤ last + 1; omega) (by show last + 1 ≤ _; omega)) (wf64 (by show 0 ≤ now + ticks; omega) (by show now + ticks ≤ _; omega)) (by have := hm.cnt; omega) (by omega)
  have hcl : v.cells = #[v] := by cases v <;> first | (simp [Value.oneCell'] at hv; done) | rfl
  simp only [Value.cells] at hcl
  have s0 : last + 1 ≤ 9223372036854775807 := by omega
  have s1 : -9223372036854775808 ≤ last + 1 := by omega
  have s2 : now + ticks ≤ 9223372036854775807 := by omega
  have s3 : -9223372036854775808 ≤ now + ticks := by omega
  have wr1 : IntKind.i64.wrap (now + ticks) = now + ticks := by rw [IntKind.wrap_i64]; omega
  clear hm hb ok hB n0 n1 l0 hln hmy
  go_enter Try.func37, Try.ntmps37
  go_wp2_with fail
  try rw [hy]
  clear hy c2 c3 f3
  refine Qt.region_tail 13 0 (C := Ql.Cl y) (by kernel_rfl) rfl (by kernel_rfl) (by kernel_rfl) (by kernel_rfl) ((Below.refl _ _).drew) ?_
  simp only [List.take_succ_cons, List.take_zero, List.drop_succ_cons, List.drop_zero]
  repeat (first | go_big_quiet_skip | (go_big_quiet_want; go_big_quiet_op; first | go_big_quiet_on | (refine ⟨_, fun _ _ => rfl, ?_⟩; go_big_quiet_on) | (refine ⟨_, fun _ _ => ⟨rfl, rfl⟩, ?_⟩; go_big_quiet_on)) | (refine wpQuiet_step (fun K hK => ?_); first
    | (refine Ql.q_cell (by rfl) 3 _ rfl b 3 rfl _ d3 lb (fun y => Try.isAgg3 y) (hK _ ?_); clear hK K; simp only [Act.put, List.setIfInBounds_toArray, List.set_cons_succ, List.set_cons_zero])
    | (refine Ql.q_cell (by rfl) 3 _ rfl b 2 rfl _ d2 lb (fun y => Try.isAgg3 y) (hK _ ?_); clear hK K; simp only [Act.put, List.setIfInBounds_toArray, List.set_cons_succ, List.set_cons_zero])
    | fail))
  refine wpQuiet_nil ?_
  intro y3 hy3
  have HY3 : Hid (Below y.heap.size y y3) := hy3
  clear hy3
  go_wp2_with fail
  refine (HPUT.out y3 HY3.out).mono ?_
  rintro e z ⟨rfl, S', D', hz, hf, hg⟩
  have e3 : z.cell? ⟨b, 3, none⟩ = some (.int .i64 (last + 1)) := by simp [World.cell?, hz.blk]
  have HZ : Hid (Trn w b B n (L ++ [(last + 1, now + ticks, v)]) now (last + 1) z) := by
    refine ⟨Bk b sb mb n S', ⟨sb, mb, S', c + 1, D', hz, fun g => Iff.rfl⟩, ?_, ?_⟩
    · exact (HF.out.behind HY3.out).trans hf (fun g h => .inl ((HB.out g).2 h))
    · intro g hgg
      rcases hg g hgg with h | h
      · exact .inl ((HB.out g).2 h)
      · have := HF.out.size
        have := HY3.out.size
        exact .inr (by omega)
  clear hz hf hg d2 d3
  go_wp2_with fail
  go_ret2
  exact ⟨rfl, HZ.out⟩
end Go.Proofs.Ytgchdjjafgkcbaa.Hh
