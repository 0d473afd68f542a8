/- the law's alike: has a journal just these entries? -/
import Derived.Test.YtabmpngliphdpaaDoorKo
import Derived.Test.YtabmpngliphdpaaDoorQl
import Derived.Test.YtabmpngliphdpaaDoorQv
import Derived.BigQuiet
import Derived.Sort.QuietIn
namespace Go.Proofs.YtabmpngliphdpaaDoor.La
set_option linter.unusedVariables false
set_option linter.unusedSimpArgs false
open Go.RowKit Go.Shelf Go.Conc Lib0 Kb Ja Jl Jn Jp Jq Jr Ju Jg Bj Ka Jx Jy Kc Ke Kf Kg Kk Kl Km Ko
attribute [local go_sem] Oper.semAt_some
abbrev tEn : TypeId := 40
abbrev EV := En × Value
def ecs (e : EV) : List Value := [.int .i64 e.1.k, .int .i64 e.1.l, .int .i64 e.1.n, .string e.1.t, e.2]
/-- a row of entries that can be read -/
def RowE (w : World) (v : Value) (Es : List EV) : Prop :=
  ∃ (o : Option Addr) (cap : Nat), v = .slice o Es.length cap ∧ ∀ i (h : i < Es.length), (∃ a : Addr, o = some a ∧ ∀ j u, (ecs Es[i])[j]? = some u → w.cell? ((a.add (i * 5)).add j) = some u) ∧ RowO w Es[i].2 Es[i].1.L
theorem rowe_below {w x : World} {v : Value} {Es : List EV} (h : RowE w v Es) (k : Below w.heap.size w x) : RowE x v Es := by
  obtain ⟨o, cap, e, hc⟩ := h
  refine ⟨o, cap, e, fun i hi => ?_⟩
  obtain ⟨⟨a, ea, c⟩, r⟩ := hc i hi
  exact ⟨⟨a, ea, fun j u hu => (k.cell (World.block_lt_of_cell? w _ (c j u hu))).trans (c j u hu)⟩, rowo_below r k⟩
theorem all_any (g : Nat) (w : World) : Calls Tryd.prog 40 #[.pointer (some ⟨g, 0, none⟩)] w fun e w' => e = .returned (.func (.func 60) #[] #[.pointer (some ⟨w.heap.size, 0, none⟩)]) ∧ w'.heap[w.heap.size]? = some (.cells #[.pointer (some ⟨g, 0, none⟩)] 28 (0, 0)) ∧ Below w.heap.size w w' := by
  obtain ⟨W0, HW0⟩ : ∃ W, Hid (w.alloc (.cells #[.pointer (some ⟨g, 0, none⟩)] 28) = W) := ⟨_, rfl⟩
  have HX : Hid (W0.heap[w.heap.size]? = some (.cells #[.pointer (some ⟨g, 0, none⟩)] 28 (0, 0)) ∧ Below w.heap.size w W0) := ⟨HW0.out ▸ h1_0 _ _, HW0.out ▸ below_one _ _⟩
  go_enter Tryd.func40, Tryd.ntmps40
  go_wp2_with (first | (rw [HW0.out]) | fail)
  go_ret
  exact ⟨rfl, HX.out⟩
/-- what a round keeps: cutters and records -/
def Kq (A A' : World) : Prop := ∀ (k : Nat) (c : Array Value) (t : TypeId), (t = tCu ∨ t = tRe) → A.heap[k]? = some (.cells c t (0, 0)) → A'.heap[k]? = some (.cells c t (0, 0))
theorem kq_c : KpC Kq := fun {A A' k c t} h ht hk => h k c t ht hk
theorem kq_t {A B C : World} (h : Kq A B) (k : Kq B C) : Kq A C := fun i c t ht hi => k i c t ht (h i c t ht hi)
theorem kq_b (W : World) (l : Nat) (o o' : Obj) (hl : W.heap[l]? = some o) (ho : o.isCells = false) : Kq W (W.putObj l o') := fun k c t ht hk => (World.putObj_heap_other (fun e => by subst e; rw [hl] at hk; cases hk; cases ho)).trans hk
theorem kq_below {A A' : World} (h : Below A.heap.size A A') : Kq A A' := fun k c t _ hk => kept h hk
/-- what holds along the range -/
structure Ia (C : Nat) (w0 w : World) (B jg : Nat) (pj vj : Value) (bl : List UInt8) (nn : Int) (b4 : Nat) (vl : Value) (b5 : Nat) (M : Nat) (b6 b7 : Nat) (i : Nat) (W : World) : Prop where
  sz : C ≤ W.heap.size
  bel : Below w0.heap.size w0 W
  fj : Fj jg vj w W
  jo : Jo W B jg pj vj bl nn
  c4 : W.heap[b4]? = some (.cells #[vl] 26 (0, 0))
  c5 : W.heap[b5]? = some (.cells #[.int .i64 (M : Int)] 3 (0, 0))
  c6 : W.heap[b6]? = some (.cells #[.bool false] 4 (0, 0))
  c7 : W.heap[b7]? = some (.cells #[.int .i64 (i : Int)] 3 (0, 0))
/-- the frame behind a round's assignments -/
def axT (jg b4 b5 b6 b7 bt : Nat) (o : Option Addr) (N cap M : Nat) (k : Int) (q : Nat) (e : Array Value) : Act := { tmps := #[.pointer (some ⟨jg, 0, none⟩), .slice o N cap, .int .i64 (M : Int), undef, .pointer (some ⟨b4, 0, none⟩), .pointer (some ⟨b5, 0, none⟩), .pointer (some ⟨b6, 0, none⟩), .pointer (some ⟨b7, 0, none⟩), .int .i64 k, .pointer (some ⟨q, 0, none⟩), undef, .pointer (some ⟨jg, 0, none⟩), .bool false, .bool false, .pointer (some ⟨jg, 0, none⟩), .int .i64 (M : Int), .int .i64 (M : Int), .bool false, .bool false, .pointer (some ⟨jg, 0, none⟩), .func (.func 60) #[] #[.pointer (some ⟨bt, 0, none⟩)], .int .i64 k, .agg e, undef, undef, undef, undef, undef, undef, undef, undef, undef, undef, undef, undef, undef, undef, undef, undef, undef, undef, undef, undef, undef, undef, undef, undef, undef, undef, undef, undef, undef, undef, undef, undef, undef, undef, undef, undef, undef, undef, undef, undef, undef, undef, undef, undef, undef, undef, undef, undef, undef, undef, undef, undef, undef, undef, undef, undef, undef], defers := [] }
/-- what stands behind them: the entry in a block, its outputs in new memory -/
structure Ax (C jg b4 b5 b6 b7 bt : Nat) (o : Option Addr) (N cap M : Nat) (pre : List (List UInt8)) (x : List UInt8) (a : Act) (W : World) : Prop where
  ex : ∃ q v M', a = axT jg b4 b5 b6 b7 bt o N cap M ((pre.length + 1 : Nat) : Int) q (Jo.evV (some x) ++ #[v]) ∧ W.heap[q]? = some (.cells (Jo.evV (some x) ++ #[v]) tEn (0, 0)) ∧ C ≤ q ∧ W.ownsRow C 85 5 v M' (osV (Jo.evR (some x)))
theorem tj_keep {C : Nat} {A A' : World} (h : Tj C A A') {k : Nat} {o : Obj} (hk : A.heap[k]? = some o) (hC : k < C) : A'.heap[k]? = A.heap[k]? := (h.keep k o hk (.inl hC)).trans hk.symm
theorem tj_block {C : Nat} {A A' : World} (h : Tj C A A') {k : Nat} (hk : k < A.heap.size) (hC : k < C) : A'.heap[k]? = A.heap[k]? := tj_keep h (Array.getElem?_eq_getElem hk) hC
theorem ax_ab (C jg b4 b5 b6 b7 bt : Nat) (o : Option Addr) (N cap M : Nat) (pre : List (List UInt8)) (x : List UInt8) (a : Act) : AbJ C (fun (_ : Unit) W => Ax C jg b4 b5 b6 b7 bt o N cap M pre x a W) := fun _ A A' h ht => by
  obtain ⟨q, v, M', h1, h2, h3, h4⟩ := h.ex
  refine ⟨q, v, M', h1, ht.keep _ _ h2 (.inr ⟨rfl, fun c fr => ⟨fun e => (by cases e), fun e => (by cases e)⟩⟩), h3, Bd.owns_keep h4 fun p hp => ?_⟩
  rcases h4.2 with ⟨rfl, _⟩ | ⟨g, cap, cur, rfl, _, hg, _⟩
  · cases hp
  · cases hp
    exact (ht.keep _ _ hg (.inr ⟨rfl, fun c fr => ⟨fun e => (by cases e), fun e => (by cases e)⟩⟩)).trans hg.symm
theorem ia_ab {w0 w : World} {B jg : Nat} {pj vj : Value} {bl : List UInt8} {nn : Int} {b4 : Nat} {vl : Value} {b5 M b6 b7 C : Nat} (h0 : w0.heap.size ≤ C) (hw : w.heap.size ≤ C) (hw0 : w0.heap.size ≤ w.heap.size) (hjo : Jo w B jg pj vj bl nn) (c4 : b4 < C) (c5 : b5 < C) (c6 : b6 < C) (c7 : b7 < C) :
    AbJ C (fun (pre : List (List UInt8)) W => Ia C w0 w B jg pj vj bl nn b4 vl b5 M b6 b7 pre.length W) := fun pre A A' h ht => by
  have hsz := h.fj.size
  have hjl := hjo.lt
  refine ⟨Nat.le_trans h.sz ht.size, ⟨ht.os.trans h.bel.os, ht.tape.trans h.bel.tape, ht.output.trans h.bel.output, Nat.le_trans h.bel.size ht.size, fun k hk => (tj_block ht (by omega) (by omega)).trans (h.bel.block k hk)⟩, ⟨ht.os.trans h.fj.os, ht.tape.trans h.fj.tape, ht.output.trans h.fj.output, Nat.le_trans h.fj.size ht.size, fun k hk h1 h2 => (tj_block ht (by omega) (by omega)).trans (h.fj.block k hk h1 h2)⟩, ?_, ht.keep _ _ h.c4 (.inl c4), ht.keep _ _ h.c5 (.inl c5), ht.keep _ _ h.c6 (.inl c6), ht.keep _ _ h.c7 (.inl c7)⟩
  refine ⟨ht.keep _ _ h.jo.row (.inl (by omega)), h.jo.addr, ownF_keep h.jo.own fun p hp => ?_, h.jo.base, h.jo.empty⟩
  have := (hjo.own.lt p hp).2
  exact tj_block ht (by omega) (by omega)
theorem ia_next {C : Nat} {w0 w : World} {B jg : Nat} {pj vj : Value} {bl : List UInt8} {nn : Int} {b4 : Nat} {vl : Value} {b5 M b6 b7 K : Nat} {W : World} (h : Ia C w0 w B jg pj vj bl nn b4 vl b5 M b6 b7 K W) (hw : w.heap.size ≤ b7) (hw0 : w0.heap.size ≤ w.heap.size) (hjo : Jo w B jg pj vj bl nn) (c4 : b4 < b7) (c5 : b5 < b7) (c6 : b6 < b7) {wr : World} (hb : Below W.heap.size W wr) :
    KeepsFrom C W (wr.setCell ⟨b7, 0, none⟩ (.int .i64 ((K : Int) + 1))) ∧ Kq W (wr.setCell ⟨b7, 0, none⟩ (.int .i64 ((K : Int) + 1))) ∧ Ia C w0 w B jg pj vj bl nn b4 vl b5 M b6 b7 (K + 1) (wr.setCell ⟨b7, 0, none⟩ (.int .i64 ((K : Int) + 1))) := by
  have h7 := kept hb h.c7
  have hsz : (wr.setCell ⟨b7, 0, none⟩ (.int .i64 ((K : Int) + 1))).heap.size = wr.heap.size := by simp [World.setCell]
  have hne : ∀ k, k ≠ b7 → (wr.setCell ⟨b7, 0, none⟩ (.int .i64 ((K : Int) + 1))).heap[k]? = wr.heap[k]? := fun k hk => Bd.scne hk.symm _ _
  have hbs := hb.size
  have hkk : ∀ k o, W.heap[k]? = some o → k ≠ b7 → (wr.setCell ⟨b7, 0, none⟩ (.int .i64 ((K : Int) + 1))).heap[k]? = some o := fun k o hk hn => (hne k hn).trans ((hb.block k (Array.getElem?_eq_some_iff.1 hk).1).trans hk)
  have hjl := hjo.lt
  have hfs := h.fj.size
  refine ⟨⟨by rw [hsz]; exact hbs, fun k o _ hk ho => hkk k o hk (fun e => by subst e; rw [h.c7] at hk; cases hk; cases ho)⟩, fun k c t ht hk => hkk k _ hk (fun e => by subst e; rw [h.c7] at hk; cases hk; rcases ht with ht | ht <;> cases ht), ⟨by rw [hsz]; exact Nat.le_trans h.sz hbs, ?_, ?_, ?_, hkk _ _ h.c4 (by omega), hkk _ _ h.c5 (by omega), hkk _ _ h.c6 (by omega), ?_⟩⟩
  · have hh := h.bel
    exact ⟨hb.os.trans hh.os, hb.tape.trans hh.tape, hb.output.trans hh.output, by rw [hsz]; exact Nat.le_trans hh.size hbs, fun k hk => (hne k (by omega)).trans ((hb.block k (by omega)).trans (hh.block k hk))⟩
  · have hh := h.fj
    exact ⟨hb.os.trans hh.os, hb.tape.trans hh.tape, hb.output.trans hh.output, by rw [hsz]; exact Nat.le_trans hh.size hbs, fun k hk h1 h2 => (hne k (by omega)).trans ((hb.block k (by omega)).trans (hh.block k hk h1 h2))⟩
  · refine ⟨hkk _ _ h.jo.row (by omega), h.jo.addr, ownF_keep h.jo.own fun p hp => ?_, h.jo.base, h.jo.empty⟩
    have := (hjo.own.lt p hp).2
    exact (hne p (by omega)).trans (hb.block p (by omega))
  · rw [Jg.setCell_heap h7]; rfl
theorem keeps_of {C : Nat} {A A' : World} (h : Below A.heap.size A A') : KeepsFrom C A A' := ⟨h.size, fun k o _ hk _ => (h.block k (Array.getElem?_eq_some_iff.1 hk).1).trans hk⟩
theorem addr_add (a : Addr) (m j : Nat) : (a.add m).add j = a.add (m + j) := by
  unfold Addr.add
  split <;> split <;> split <;> simp_all <;> omega
theorem flat_at : ∀ (L : List Ou) (k j : Nat) (h : k < L.length) {u : Value}, (L[k].cs)[j]? = some u → (L.flatMap Ou.cs)[k * 5 + j]? = some u
  | [], k, j, h, u, hu => by simp at h
  | x :: L, 0, j, h, u, hu => by
    have hj : j < x.cs.length := (List.getElem?_eq_some_iff.1 hu).1
    rw [List.flatMap_cons, Nat.zero_mul, Nat.zero_add, List.getElem?_append_left hj]
    exact hu
  | x :: L, k + 1, j, h, u, hu => by
    have h5 : x.cs.length = 5 := rfl
    rw [List.flatMap_cons, List.getElem?_append_right (by rw [h5]; omega), h5, show (k + 1) * 5 + j - 5 = k * 5 + j by omega]
    exact flat_at L k j (by simpa using h) hu
theorem infoEn : (Tryd.prog.info? tEn).map (·.size) = some 5 := by kernel_rfl
section
variable {F : Fence} {n : Nat} {P : Program} {ops : Array Oper} {rest : List Oper} {o : Oper} {a : Act} {W : World} {Q : Act → Prop}
theorem qi_at (hw : Region.wanted o (yielded ops a.tmps) = true) (ty : TypeId) (xo : Operand) (ho : o.op = .load ty xo)
    (p : Addr) (hx : a.eval xo = .pointer (some p)) (cs : List Value) (hc : ∀ j v, cs[j]? = some v → W.cell? (p.add j) = some v) (d : TypeDesc) (hu : P.underlying ty = some d) (hd : d.isRow = true) (hi : (P.info? ty).map (·.size) = some cs.length)
    (h : wpQuietIn F n P ops (fun w' => ∃ m, w' = W.drewN m) Q rest (a.put o.dst (.agg cs.toArray))) : wpQuietIn F n P ops (fun w' => ∃ m, w' = W.drewN m) Q (o :: rest) a := by
  refine ⟨fun w _ f hf => by simp [Oper.about, ho] at hf, ?_⟩
  rw [if_pos hw]
  refine ⟨.agg cs.toArray, fun y hy => ?_, h⟩
  obtain ⟨m, rfl⟩ := hy
  unfold Oper.quietAtIn execOp
  have hl := Ke.run_loadVar_at (P := P) (W.drewN m) p ty cs d (fun j v hv => hc j v hv) hu hd hi
  simp only [ho, hx, Instr.loadAt, Instr.sureAddr, Sem.run_bind, Sem.run_pure, Result.andThen_ok, hl]
  exact ⟨rfl, rfl⟩
end
set_option maxRecDepth 100000 in
set_option maxHeartbeats 1600000 in
theorem alike_any {w0 w : World} {B jg : Nat} {pj vj : Value} {bl : List UInt8} {M : Nat} (hj : Jo w B jg pj vj bl (M : Int)) (hL : Lv w0) (hb0 : Below w0.heap.size w0 w) (hB0 : w0.heap.size ≤ B) (hlen : bl.length ≤ 140737488355328) {vl : Value} {Es : List EV} (hE : ∀ y, Fj jg vj w y → RowE y vl Es) (hM : M ≤ Es.length) (hN : Es.length ≤ 140737488355328)
    (hB : bodies bl = (Es.take M).map fun e => e.1.body.data.toList) (hg : ∀ e ∈ Es, Ko.Good e.1) :
    Calls Tryd.prog 30 #[.pointer (some ⟨jg, 0, none⟩), vl, .int .i64 (M : Int)] w fun e w' => e = .returned (.bool true) ∧ Jo w' B jg pj vj bl (M : Int) ∧ Fj jg vj w w' := by
  obtain ⟨o, cap, rfl, -⟩ := hE w (Fj.refl _ _ _)
  obtain ⟨N, HNN⟩ : ∃ N, Hid (Es.length = N) := ⟨_, rfl⟩
  rw [HNN.out] at hE hM hN ⊢
  obtain ⟨W1, HW1⟩ : ∃ W, Hid (w.alloc (.cells #[.slice o N cap] 26) = W) := ⟨_, rfl⟩
  obtain ⟨W2, HW2⟩ : ∃ W, Hid (W1.alloc (.cells #[.int .i64 (M : Int)] 3) = W) := ⟨_, rfl⟩
  obtain ⟨W3, HW3⟩ : ∃ W, Hid (W2.alloc (.cells #[.bool false] 4) = W) := ⟨_, rfl⟩
  have hb1 : Below w.heap.size w W1 := HW1.out ▸ below_one _ _
  have hb2 : Below W1.heap.size W1 W2 := HW2.out ▸ below_one _ _
  have hb3 : Below W2.heap.size W2 W3 := HW3.out ▸ below_one _ _
  have hx1 : W1.heap[w.heap.size]? = some (.cells #[.slice o N cap] 26 (0, 0)) := HW1.out ▸ h1_0 _ _
  have hx2 : W2.heap[W1.heap.size]? = some (.cells #[.int .i64 (M : Int)] 3 (0, 0)) := HW2.out ▸ h1_0 _ _
  have hx3 : W3.heap[W2.heap.size]? = some (.cells #[.bool false] 4 (0, 0)) := HW3.out ▸ h1_0 _ _
  have HB3 : Hid (Below w.heap.size w W3) := keepB (keepB hb1 hb2) hb3
  have HX : Hid (W3.heap[w.heap.size]? = some (.cells #[.slice o N cap] 26 (0, 0)) ∧ W3.heap[W1.heap.size]? = some (.cells #[.int .i64 (M : Int)] 3 (0, 0)) ∧ W3.heap[W2.heap.size]? = some (.cells #[.bool false] 4 (0, 0))) := ⟨kept hb3 (kept hb2 hx1), kept hb3 hx2, hx3⟩
  have HA : Hid (bl.length ≤ 140737488355328 ∧ M ≤ N ∧ N ≤ 140737488355328 ∧ (bodies bl = (Es.take M).map fun e => e.1.body.data.toList) ∧ (∀ e ∈ Es, Ko.Good e.1) ∧ ∀ y, Fj jg vj w y → RowE y (.slice o N cap) Es) := ⟨hlen, hM, hN, hB, hg, hE⟩
  have HJ0 : Hid (Jo w B jg pj vj bl (M : Int)) := hj
  have HJ3 : Hid (Jo W3 B jg pj vj bl (M : Int)) := hj.below HB3.out
  have HL0 : Hid (Lv w0 ∧ Below w0.heap.size w0 w ∧ w0.heap.size ≤ B) := ⟨hL, hb0, hB0⟩
  have HS : Hid (W1.heap.size = w.heap.size + 1 ∧ W2.heap.size = w.heap.size + 2 ∧ W3.heap.size = w.heap.size + 3) := by
    have e1 : W1.heap.size = w.heap.size + 1 := by rw [← HW1.out]; simp
    have e2 : W2.heap.size = W1.heap.size + 1 := by rw [← HW2.out]; simp
    have e3 : W3.heap.size = W2.heap.size + 1 := by rw [← HW3.out]; simp
    exact ⟨e1, by omega, by omega⟩
  obtain ⟨b4, h4⟩ : ∃ b, w.heap.size = b := ⟨_, rfl⟩
  have HW4s : Hid (w.heap.size = b4) := h4
  obtain ⟨b5, h5⟩ : ∃ b, W1.heap.size = b := ⟨_, rfl⟩
  obtain ⟨b6, h6⟩ : ∃ b, W2.heap.size = b := ⟨_, rfl⟩
  clear hb1 hb2 hb3 hx1 hx2 hx3 hj hL hb0 hB0 hlen hE hM hN hB hg
  refine (callsIn_wide (n := 8)).1 ?_
  refine callsIn_of_wp_marks Tryd.func30 rfl trivial ?_ rfl
  simp only [Tryd.ntmps30, List.size_toArray, List.length_cons, List.length_nil, Nat.reduceAdd, Nat.reduceSub, Array.replicate_succ, Array.replicate_zero, List.push_toArray, List.append_toArray, List.nil_append, List.cons_append]
  refine wpIn_wide.2 ?_
  go_wp2_with (first | (rw [HW1.out]) | (rw [HW2.out]) | (rw [HW3.out]) | fail)
  rw [h4, h5, h6] at HX
  rw [h4, h5, h6] at HS
  have hx5 := HX.out.2.1
  have c5 : W3.cell? ⟨b5, 0, none⟩ = some (.int .i64 (M : Int)) := by simp [World.cell?, hx5]
  have l5 : b5 < W3.heap.size := (Array.getElem?_eq_some_iff.1 hx5).1
  have hlenC : ∀ y, Below W3.heap.size W3 y → Calls Tryd.prog 19 #[.pointer (some ⟨jg, 0, none⟩)] y fun e w' => e = .returned (.int .i64 (M : Int)) ∧ w' = y := fun y hy => len_any (HJ3.out.below hy)
  clear hx5
  refine Ql.region_cl (by kernel_rfl) (by kernel_rfl) ?_
  try dsimp only [Act.put]
  repeat (first | go_big_quiet_skip | (go_big_quiet_want; go_big_quiet_op; first | go_big_quiet_on | (refine ⟨_, fun _ _ => rfl, ?_⟩; go_big_quiet_on) | (refine ⟨_, fun _ _ => ⟨rfl, rfl⟩, ?_⟩; go_big_quiet_on)) | (refine wpQuiet_step (fun K hK => ?_); first
    | (refine Ql.q_cell (by rfl) 3 _ rfl b5 0 rfl _ c5 l5 (fun y => Tryd.isAgg3 y) (hK _ ?_); clear hK K; simp only [Act.put, List.setIfInBounds_toArray, List.set_cons_succ, List.set_cons_zero])
    | (go_simp; apply Exists.intro; refine ⟨fun y hy => ?_, hK _ ?_⟩; (first | (go_at_call 19; exact Ql.cl_same hy (hlenC _ hy))); clear hK K)
    | fail))
  refine wpQuiet_nil ?_
  intro y hy
  have HJy : Hid (Jo y B jg pj vj bl (M : Int)) := HJ3.out.below hy
  have HBy : Hid (Below w.heap.size w y) := HB3.out.trans (hy.mono HB3.out.size)
  have HXy : Hid (y.heap[b4]? = some (.cells #[.slice o N cap] 26 (0, 0)) ∧ y.heap[b5]? = some (.cells #[.int .i64 (M : Int)] 3 (0, 0)) ∧ y.heap[b6]? = some (.cells #[.bool false] 4 (0, 0))) := ⟨kept hy HX.out.1, kept hy HX.out.2.1, kept hy HX.out.2.2⟩
  have HSy : Hid (W3.heap.size ≤ y.heap.size) := hy.size
  clear c5 l5 hlenC hy
  obtain ⟨W4, HW4⟩ : ∃ W, Hid (y.alloc (.cells #[.int .i64 0] 3) = W) := ⟨_, rfl⟩
  have hb4 : Below y.heap.size y W4 := HW4.out ▸ below_one _ _
  have hx4 : W4.heap[y.heap.size]? = some (.cells #[.int .i64 0] 3 (0, 0)) := HW4.out ▸ h1_0 _ _
  have c7 : W4.cell? ⟨y.heap.size, 0, none⟩ = some (.int .i64 0) := by simp [World.cell?, hx4]
  have f7 : W4.frozen? ⟨y.heap.size, 0, none⟩ = false := by simp [World.frozen?, hx4]
  have l7 : y.heap.size < W4.heap.size := (Array.getElem?_eq_some_iff.1 hx4).1
  obtain ⟨W5, HW5⟩ : ∃ W, Hid (W4.setCell ⟨y.heap.size, 0, none⟩ (.int .i64 0) = W) := ⟨_, rfl⟩
  have HX5 : Hid (W5.heap[y.heap.size]? = some (.cells #[.int .i64 0] 3 (0, 0))) := by show _ = _; rw [← HW5.out, Jg.setCell_heap hx4]; rfl
  have HB5 : Hid (Below y.heap.size y W5) := HW5.out ▸ hb4.setCell (Nat.le_refl _) _
  clear hb4 hx4
  go_wp2_with (first | (rw [HW4.out]) | (rw [HW5.out]) | fail)
  clear c7 f7 l7
  refine (all_any jg W5).mono ?_
  rintro e y6 ⟨rfl, hx6, hb6⟩
  have HX6 : Hid (y6.heap[W5.heap.size]? = some (.cells #[.pointer (some ⟨jg, 0, none⟩)] 28 (0, 0))) := hx6
  have HB6 : Hid (Below y.heap.size y y6) := keepB HB5.out hb6
  have hb6s := hb6.size
  have HJ6 : Hid (Jo y6 B jg pj vj bl (M : Int)) := HJy.out.below HB6.out
  have HI6 : Hid (∀ z, Fj jg vj y6 z → Jo z B jg pj vj bl (M : Int) → Ia y6.heap.size w0 w B jg pj vj bl (M : Int) b4 (.slice o N cap) b5 M b6 y.heap.size 0 z) := by
    intro z hf hz
    have hjl := HJy.out.lt
    have hbw : Below w.heap.size w y6 := HBy.out.trans (HB6.out.mono HBy.out.size)
    have hs := HS.out
    have hsy := HSy.out
    have hj0 : jg < w.heap.size := HJ0.out.lt
    have hv0 : ∀ q, vj.ownBlock = some q → q < w.heap.size := fun q hq => (HJ0.out.own.lt q hq).2
    have hk : ∀ k o, w.heap.size ≤ k → y6.heap[k]? = some o → z.heap[k]? = some o := fun k o hk ho => (hf.block k (Array.getElem?_eq_some_iff.1 ho).1 (by omega) (fun e => by have := hv0 k e; omega)).trans ho
    refine ⟨hf.size, ?_, (Fj.of_below hbw).trans (Nw.refl _ _) hf, hz, hk _ _ (by omega) (kept HB6.out HXy.out.1), hk _ _ (by omega) (kept HB6.out HXy.out.2.1), hk _ _ (by omega) (kept HB6.out HXy.out.2.2), hk _ _ (by omega) (kept hb6 HX5.out)⟩
    have h1 := HL0.out.2
    exact (h1.1.trans (hbw.mono h1.1.size)).trans (hf.below (Nat.le_trans h1.2 HJ6.out.base) (fun q hq => Nat.le_trans h1.2 (HJ6.out.own.lt q hq).1) (by have := h1.1.size; have := hbw.size; omega))
  clear hx6 hb6
  go_wp2_with fail
  have hseq := all_goes (Kp := Kq) kq_c 7 y6 B jg pj vj bl (M : Int) W5.heap.size HJ6.out HX6.out HA.out.1
  have hsz6 := HB6.out.size
  have hsy := HSy.out
  have hss := HS.out
  have hw0 := HL0.out.2.1.size
  have hy7 : y.heap.size < y6.heap.size := by have h1 := (Array.getElem?_eq_some_iff.1 HX5.out).1; have h2 := hb6s; omega
  refine (wpIn_wide (n := 8)).1 ?_
  refine range_j2 (by omega) (gf := 60) (lb := #[.pointer (some ⟨W5.heap.size, 0, none⟩)]) rfl (enters_of Tryd.func60 (by kernel_rfl) rfl)
    hseq kq_t (fun W l o o' _ h hc _ => kq_b W l o o' h hc) (Below.refl _ _) HJ6.out
    (fun pre W => Ia y6.heap.size w0 w B jg pj vj bl (M : Int) b4 (.slice o N cap) b5 M b6 y.heap.size pre.length W) (fun c _ W => False)
    (ia_ab (by omega) (by omega) hw0 HJ0.out (by omega) (by omega) (by omega) hy7) (fun c s A A' hs _ => hs) (fun s A h => HL0.out.1.next h.bel) (fun z hf hz => HI6.out z hf hz)
    (Ax y6.heap.size jg b4 b5 b6 y.heap.size W5.heap.size o N cap M) (fun pre x a' => ax_ab _ _ _ _ _ _ _ _ _ _ _ pre x a') ?assign ?body ?done ?stop
  case stop =>
    rintro D c pre V hD hp hf hK
    exact hf.elim
  case assign =>
    intro l pre x v M' W K hl hI hown hK
    have HI : Hid (Ia y6.heap.size w0 w B jg pj vj bl (M : Int) b4 (.slice o N cap) b5 M b6 y.heap.size pre.length W) := hI
    obtain ⟨CE, hCE⟩ : ∃ CE, Jo.evV (some x) ++ #[v] = CE := ⟨_, rfl⟩
    have hs5 : CE.size = 5 := by rw [← hCE]; rfl
    have h1c : CE.all (·.oneCell') = true := by obtain ⟨o0, c0, rfl⟩ := Bd.owns_sl hown; rw [← hCE]; simp [Jo.evV, Value.oneCell']
    obtain ⟨V1, HV1⟩ : ∃ V, Hid (W.alloc (.cells #[.int .i64 0, .int .i64 0, .int .i64 0, .string ⟨#[]⟩, .slice none 0 0] tEn) = V) := ⟨_, rfl⟩
    have hx1 : V1.heap[W.heap.size]? = some (.cells #[.int .i64 0, .int .i64 0, .int .i64 0, .string ⟨#[]⟩, .slice none 0 0] tEn (0, 0)) := HV1.out ▸ h1_0 _ _
    obtain ⟨V2, HV2⟩ : ∃ V, Hid (V1.setRow W.heap.size CE = V) := ⟨_, rfl⟩
    have hb := below_made HV1.out HV2.out
    have hx2 : V2.heap[W.heap.size]? = some (.cells CE tEn (0, 0)) := HV2.out ▸ setRow_at hx1 _
    have hyW : y6.heap.size ≤ W.heap.size := hI.sz
    have HK2 : Hid (KeepsFrom y6.heap.size W V2 ∧ Kq W V2 ∧ Ia y6.heap.size w0 w B jg pj vj bl (M : Int) b4 (.slice o N cap) b5 M b6 y.heap.size pre.length V2) := ⟨keeps_of hb, kq_below hb, ia_ab (by omega) (by omega) hw0 HJ0.out (by omega) (by omega) (by omega) hy7 pre W V2 hI (.of_below hb)⟩
    have HAX : Hid (∀ a', a' = axT jg b4 b5 b6 y.heap.size W5.heap.size o N cap M ((pre.length + 1 : Nat) : Int) W.heap.size CE → Ax y6.heap.size jg b4 b5 b6 y.heap.size W5.heap.size o N cap M pre x a' V2) := fun a' ha => ⟨W.heap.size, v, M', hCE.symm ▸ ha, hCE.symm ▸ hx2, hyW, Bd.owns_keep hown fun p hp => hb.block p (hown.lt p hp).2⟩
    have zr : (Tryd.prog.info? tEn).map (·.size) = some CE.size := by rw [hs5]; exact infoEn
    have hold : (#[Value.int .i64 0, .int .i64 0, .int .i64 0, .string ⟨#[]⟩, .slice none 0 0] : Array Value).size = CE.size := by rw [hs5]; rfl
    rw [hCE]
    clear hown hb hx2 hI hseq hCE hs5
    simp only [List.setIfInBounds_toArray, List.set_cons_succ, List.set_cons_zero]
    gi_wp2_with (first | (rw [HV1.out]) | (rw [HV2.out]) | (refine wpListIn_store_row rfl tEn _ _ rfl W.heap.size CE rfl rfl _ _ hx1 zr hold h1c ?_) | fail)
    rw [HV2.out]
    exact hK _ _ HK2.out.1 HK2.out.2.1 HK2.out.2.2 (HAX.out _ rfl)
  case body =>
    intro l pre x a' W hl hr hI hax hpx
    obtain ⟨q, v, M', rfl, hq, hqC, hown⟩ := hax.ex
    have hlen : pre.length < M := by
      have h1 := hpx.length_le
      rw [HA.out.2.2.2.1] at h1
      simp at h1; omega
    have hiE : pre.length < Es.length := by have := HA.out.2.1; have := HNN.out; omega
    obtain ⟨⟨E, vo⟩, hE⟩ : ∃ E, Es[pre.length]'hiE = E := ⟨_, rfl⟩
    have hxE : x = E.body.data.toList := by
      obtain ⟨t, ht⟩ := hpx
      have h1 : (bodies bl)[pre.length]? = some x := by rw [← ht]; simp
      rw [HA.out.2.2.2.1, List.getElem?_map, List.getElem?_take, if_pos hlen, List.getElem?_eq_getElem hiE, hE] at h1
      exact (Option.some.inj h1).symm
    have hgE := HA.out.2.2.2.2.1 (E, vo) (hE ▸ List.getElem_mem hiE)
    obtain ⟨d1, d2, -⟩ := dec_body E hgE.1 hgE.2 []
    rw [List.append_nil, ← hxE] at d1 d2
    rw [d1] at hq ⊢
    rw [d2] at hown
    obtain ⟨oR, capR, hRE0, hRE⟩ := HA.out.2.2.2.2.2 W hI.fj
    obtain ⟨rfl, rfl⟩ : o = oR ∧ cap = capR := by injection hRE0 with e1 e2 e3; exact ⟨e1, e3⟩
    obtain ⟨⟨ar, rfl, hce⟩, hro⟩ := hRE pre.length hiE
    rw [hE] at hce hro
    have hM5 : M' = E.L.length := by
      have h1 := hown.1
      have h2 : (E.L.flatMap Ou.cs).length = E.L.length * 5 := by
        clear hown h1 hce hro d1 d2 hgE hxE hE
        induction E.L with
        | nil => rfl
        | cons y t ih => rw [List.flatMap_cons, List.length_append, ih, List.length_cons]; simp [Ou.cs]; omega
      omega
    subst hM5
    obtain ⟨ov, cv, rfl⟩ := Bd.owns_sl hown
    obtain ⟨R, HR⟩ : ∃ R, Hid (E.L.length = R) := ⟨_, rfl⟩
    obtain ⟨K, HK⟩ : ∃ K, Hid (pre.length = K) := ⟨_, rfl⟩
    obtain ⟨oo, cpo, hvo, hroc⟩ := hro
    dsimp only at hvo hroc
    subst hvo
    have hq2 : W.heap[q]? = some (.cells #[.int .i64 E.k, .int .i64 E.l, .int .i64 E.n, .string E.t, .slice ov R cv] tEn (0, 0)) := by rw [hq, HR.out]; rfl
    have hq3 : Hid (W.heap[q]? = some (.cells #[.int .i64 E.k, .int .i64 E.l, .int .i64 E.n, .string E.t, .slice ov R cv] tEn (0, 0))) := hq2
    have HRB : Hid (R ≤ 4611686018427387904) := by show R ≤ _; rw [← HR.out]; exact hgE.1.2.2
    have hc4 := hI.c4
    have hc5 := hI.c5
    have hc6 := hI.c6
    have hc7 := hI.c7
    rw [HK.out] at hc7 hce hlen ⊢
    have c4 : W.cell? ⟨b4, 0, none⟩ = some (.slice (some ar) N cap) := by simp [World.cell?, hc4]
    have c5 : W.cell? ⟨b5, 0, none⟩ = some (.int .i64 (M : Int)) := by simp [World.cell?, hc5]
    have c7 : W.cell? ⟨y.heap.size, 0, none⟩ = some (.int .i64 (K : Int)) := by simp [World.cell?, hc7]
    have e0 : W.cell? ⟨q, 0, none⟩ = some (.int .i64 E.k) := by simp [World.cell?, hq2]
    have e1 : W.cell? ⟨q, 1, none⟩ = some (.int .i64 E.l) := by simp [World.cell?, hq2]
    have e2 : W.cell? ⟨q, 2, none⟩ = some (.int .i64 E.n) := by simp [World.cell?, hq2]
    have e3 : W.cell? ⟨q, 3, none⟩ = some (.string E.t) := by simp [World.cell?, hq2]
    have e4 : W.cell? ⟨q, 4, none⟩ = some (.slice ov R cv) := by simp [World.cell?, hq2]
    obtain ⟨ap, hap⟩ : ∃ ap, ar.add (K * 5) = ap := ⟨_, rfl⟩
    rw [hap] at hce
    have hcE : ∀ j u, [Value.int .i64 E.k, .int .i64 E.l, .int .i64 E.n, .string E.t][j]? = some u → W.cell? (ap.add j) = some u := fun j u hu => hce j u (by
      rcases j with _ | _ | _ | _ | j
      · exact hu
      · exact hu
      · exact hu
      · exact hu
      · simp at hu)
    have hn4 := hce 4 _ rfl
    rw [HR.out] at hn4
    have hn5 : W.cell? ⟨ap.block, ap.off + 4, none⟩ = some (.slice oo R cpo) := hn4
    have q1 : (K : Int) < (M : Int) := by omega
    have q2 : (K : Int) < (N : Int) := by have := HA.out.2.1; omega
    have q3 : (0 : Int) ≤ (K : Int) := by omega
    have q4 : (K : Int) + 1 ≤ 9223372036854775807 := by have := HA.out.2.1; have := HA.out.2.2.1; omega
    have zev : (Tryd.prog.info? 37).map (·.size) = some [Value.int .i64 E.k, .int .i64 E.l, .int .i64 E.n, .string E.t].length := by show _ = some 4; kernel_rfl
    have HD1 : Hid (decide (M ≤ K) = false) := decide_eq_false (by omega)
    have HROC : Hid (∀ i (h : i < E.L.length), ∃ a : Addr, oo = some a ∧ ∀ j u, (E.L[i].cs)[j]? = some u → W.cell? ((a.add (i * 5)).add j) = some u) := hroc
    have HOWN : Hid (W.ownsRow y6.heap.size 85 5 (.slice ov E.L.length cv) E.L.length (E.L.flatMap Ou.cs)) := hown
    have HII : Hid (Ia y6.heap.size w0 w B jg pj vj bl (M : Int) b4 (.slice (some ar) N cap) b5 M b6 y.heap.size K W) := HK.out ▸ hI
    rw [HR.out]
    clear hq hce hroc hown hax hI hpx hr hRE hRE0 hE hxE hgE d1 d2 hc4 hc5 hc6 hc7 hq2 hiE hseq hss hsz6 hsy hw0 hy7 h4 h5 h6 hb6s hlen hl hqC
    unfold axT
    rw [show ((K + 1 : Nat) : Int) = (K : Int) + 1 by omega]
    gi_wp2_with fail
    have hd1 := HD1.out
    refine Qv.region_round (F := Fence.wide) rfl (by kernel_rfl) (by kernel_rfl) (by kernel_rfl) ?_
    repeat (first | (refine qi_at (by rfl) 37 _ rfl _ rfl _ hcE _ Tryd.underlying37 rfl zev ?_; simp only [Act.put, List.setIfInBounds_toArray, List.set_cons_succ, List.set_cons_zero]) | gi_big_quiet_step (fail))
    refine wpQuietIn_nil ?_
    intro _ hw'
    obtain ⟨nq, hw''⟩ := hw'
    subst hw''
    have HB0 : Hid (Below W.heap.size W (W.drewN nq)) := below_drewN (Below.refl _ W) nq
    have HCE : Hid (W.heap[q]? = some (.cells #[.int .i64 E.k, .int .i64 E.l, .int .i64 E.n, .string E.t, .slice ov R cv] tEn (0, 0)) ∧ W.cell? ⟨ap.block, ap.off + 4, none⟩ = some (.slice oo R cpo) ∧ ar.add (K * 5) = ap) := ⟨hq3.out, hn5, hap⟩
    clear e0 e1 e2 e3 e4 hcE hn4 hn5 zev hd1 hq3 c4 c5 c7 hap
    gi_wp2_with fail
    gi_loopw [10] (fun kv wr => ∃ k : Nat, kv = .int .i64 (k : Int) ∧ Hid (k ≤ R) ∧ Hid (Below W.heap.size W wr)) (fun kv _ => R - (intOf kv).toNat)
    case atStart => exact ⟨0, rfl, Nat.zero_le _, HB0.out⟩
    case round =>
      obtain ⟨k, rfl, hkR, HBW⟩ := hrel
      rename World => wr
      have hcE5 := kept HBW.out HCE.out.1
      have e4 : wr.cell? ⟨q, 4, none⟩ = some (.slice ov R cv) := by simp [World.cell?, hcE5]
      have hc7 := kept HBW.out HII.out.c7
      have c7 : wr.cell? ⟨y.heap.size, 0, none⟩ = some (.int .i64 (K : Int)) := by simp [World.cell?, hc7]
      by_cases hkl : k < R
      · have hkE : k < E.L.length := by rw [HR.out]; exact hkl
        have hc4 := kept HBW.out HII.out.c4
        have c4 : wr.cell? ⟨b4, 0, none⟩ = some (.slice (some ar) N cap) := by simp [World.cell?, hc4]
        have hn5 : wr.cell? ⟨ap.block, ap.off + 4, none⟩ = some (.slice oo R cpo) := (HBW.out.cell (World.block_lt_of_cell? _ _ HCE.out.2.1)).trans HCE.out.2.1
        have hap := HCE.out.2.2
        obtain ⟨ao, rfl, hco⟩ := HROC.out k hkE
        obtain ⟨x9, hx9⟩ : ∃ x9, E.L[k] = x9 := ⟨_, rfl⟩
        rw [hx9] at hco
        obtain ⟨av, hov, hcv⟩ : ∃ av : Addr, ov = some av ∧ ∀ j u, (x9.cs)[j]? = some u → W.cell? ((av.add (k * 5)).add j) = some u := by
          rcases HOWN.out.2 with ⟨hnil, h0⟩ | ⟨gv, cp9, cur, hv9, _, hg9, _⟩
          · omega
          · injection hv9 with h1 h2 h3
            refine ⟨⟨gv, 0, none⟩, h1, fun j u hu => ?_⟩
            have hxs : (E.L.flatMap Ou.cs)[k * 5 + j]? = some u := by rw [← hx9] at hu; exact flat_at E.L k j hkE hu
            have := HOWN.out.cells (g := gv) (by rw [h1]; rfl) _ _ hxs
            rw [addr_add] at *
            exact this
        subst hov
        obtain ⟨p1, hp1⟩ : ∃ p1, av.add (k * 5) = p1 := ⟨_, rfl⟩
        obtain ⟨p2, hp2⟩ : ∃ p2, ao.add (k * 5) = p2 := ⟨_, rfl⟩
        rw [hp1] at hcv
        rw [hp2] at hco
        have hcv2 : ∀ j u, (x9.cs)[j]? = some u → wr.cell? (p1.add j) = some u := fun j u hu => (HBW.out.cell (World.block_lt_of_cell? _ _ (hcv j u hu))).trans (hcv j u hu)
        have hco2 : ∀ j u, (x9.cs)[j]? = some u → wr.cell? (p2.add j) = some u := fun j u hu => (HBW.out.cell (World.block_lt_of_cell? _ _ (hco j u hu))).trans (hco j u hu)
        obtain ⟨xk, xl, xc, xa, xb⟩ := x9
        obtain ⟨XC, hXC⟩ : ∃ XC : List Value, XC = [.int .i64 xk, .int .i64 xl, .int .i64 xc, .int .i64 xa, .string xb] := ⟨_, rfl⟩
        have hcv3 : ∀ j u, XC[j]? = some u → wr.cell? (p1.add j) = some u := fun j u hu => hcv2 j u (by rw [hXC] at hu; exact hu)
        have hco3 : ∀ j u, XC[j]? = some u → wr.cell? (p2.add j) = some u := fun j u hu => hco2 j u (by rw [hXC] at hu; exact hu)
        subst hXC
        have zo : (Tryd.prog.info? 85).map (·.size) = some [Value.int .i64 xk, .int .i64 xl, .int .i64 xc, .int .i64 xa, .string xb].length := by show _ = some 5; kernel_rfl
        have r1 : (k : Int) < (R : Int) := by omega
        have r2 : (0 : Int) ≤ (k : Int) := by omega
        have r3 : (k : Int) + 1 ≤ 9223372036854775807 := by have := HRB.out; omega
        clear hcv hco hc4 hc7 hcE5 hcv2 hco2
        gi_wp2_with fail
        refine Qv.region_round (F := Fence.wide) rfl (by kernel_rfl) (by kernel_rfl) (by kernel_rfl) ?_
        repeat (first | (refine qi_at (by rfl) 85 _ rfl p1 rfl _ hcv3 _ Tryd.underlying85 rfl zo ?_; simp only [Act.put, List.setIfInBounds_toArray, List.set_cons_succ, List.set_cons_zero]) | (refine qi_at (by rfl) 85 _ rfl p2 rfl _ hco3 _ Tryd.underlying85 rfl zo ?_; simp only [Act.put, List.setIfInBounds_toArray, List.set_cons_succ, List.set_cons_zero]) | gi_big_quiet_step (fail))
        refine wpQuietIn_nil ?_
        intro _ hw'
        obtain ⟨n2, hw''⟩ := hw'
        subst hw''
        have HB2 : Hid (Below W.heap.size W (wr.drewN n2)) := HBW.out.trans ((below_drewN (Below.refl _ wr) n2).mono HBW.out.size)
        clear hcv3 hco3 e4 c7 c4 hn5 hx9 hkE
        gi_wp2_with fail
        exact ⟨⟨k + 1, by push_cast; rfl, hkl, HB2.out⟩, by simp only [intOf]; omega⟩
      · have hge : (R : Int) ≤ (k : Int) := by omega
        have hwf : wr.frozen? ⟨y.heap.size, 0, none⟩ = false := by simp [World.frozen?, hc7]
        have hwl : y.heap.size < wr.heap.size := (Array.getElem?_eq_some_iff.1 hc7).1
        obtain ⟨W9, HW9⟩ : ∃ W9, Hid (wr.setCell ⟨y.heap.size, 0, none⟩ (.int .i64 ((K : Int) + 1)) = W9) := ⟨_, rfl⟩
        clear hcE5
        gi_wp2_with (first | (rw [HW9.out]) | fail)
        have hss := HS.out
        have hN9 := ia_next HII.out (by have := HW4s.out; have := HSy.out; omega) (HL0.out.2.1.size) HJ0.out (by have := HSy.out; omega) (by have := HSy.out; omega) (by have := HSy.out; omega) HBW.out
        rw [HW9.out] at hN9
        refine ⟨hN9.1, hN9.2.1, ?_⟩
        have hKl : (pre ++ [x]).length = K + 1 := by rw [List.length_append, HK.out]; rfl
        simp only [hKl]
        exact hN9.2.2
  case done =>
    intro D V hD hI hK
    have hlB : (bodies bl).length = M := by rw [HA.out.2.2.2.1, List.length_map, List.length_take]; have := HA.out.2.1; have := HNN.out; omega
    simp only [hlB] at hI
    have hc5 := hI.c5
    have hc6 := hI.c6
    have hc7 := hI.c7
    have c5 : V.cell? ⟨b5, 0, none⟩ = some (.int .i64 (M : Int)) := by simp [World.cell?, hc5]
    have c7 : V.cell? ⟨y.heap.size, 0, none⟩ = some (.int .i64 (M : Int)) := by simp [World.cell?, hc7]
    have c6 : V.cell? ⟨b6, 0, none⟩ = some (.bool false) := by simp [World.cell?, hc6]
    have f6 : V.frozen? ⟨b6, 0, none⟩ = false := by simp [World.frozen?, hc6]
    have l6 : b6 < V.heap.size := (Array.getElem?_eq_some_iff.1 hc6).1
    obtain ⟨V2, HV2⟩ : ∃ W, Hid (V.setCell ⟨b6, 0, none⟩ (.bool true) = W) := ⟨_, rfl⟩
    have HID : Hid (Ia y6.heap.size w0 w B jg pj vj bl (M : Int) b4 (.slice o N cap) b5 M b6 y.heap.size M V ∧ V.heap[D]? = some (.deferred (some [])) ∧ y6.heap.size ≤ D) := ⟨hI, hK, hD⟩
    clear hI hK hlB hc5 hc6 hc7 hseq hss hsz6 hsy hw0 hy7 h4 h5 h6 hb6s
    go_wp2_with (first | (rw [HV2.out]) | fail)
    obtain ⟨hI, hK, hD⟩ := HID.out
    have hss := HS.out
    have hjl := HJ0.out.lt
    have hy6l := HB6.out.size
    have hyl := HSy.out
    have hw4 : w.heap.size = b4 := HW4s.out
    have hK2 : V2.heap[D]? = some (.deferred (some [])) := by rw [← HV2.out, Bd.scne (by omega)]; exact hK
    have hrb : ∀ k, k ≠ b6 → k ≠ D → (V2.putObj D (.deferred none)).heap[k]? = V.heap[k]? := fun k h1 h2 => (World.putObj_heap_other h2).trans (show V2.heap[k]? = V.heap[k]? by rw [← HV2.out]; exact Bd.scne h1.symm _ _)
    have hx6 : (V2.putObj D (.deferred none)).heap[b6]? = some (.cells #[.bool true] 4 (0, 0)) := by
      rw [World.putObj_heap_other (by omega), ← HV2.out, Jg.setCell_heap hI.c6]; rfl
    have hsz2 : (V2.putObj D (.deferred none)).heap.size = V.heap.size := by rw [← HV2.out]; simp [World.putObj, World.setCell]
    refine ⟨by simp, .inl ⟨_, _, rfl, run_takeDeferred hK2, ?_⟩⟩
    refine ⟨.bool true, ?_, rfl, ?_, ?_⟩
    · have cc : (V2.putObj D (.deferred none)).cell? ⟨b6, 0, none⟩ = some (.bool true) := by simp [World.cell?, hx6]
      simp [results, Tryd.f30, go_sem, asAddr, cc]
    · refine ⟨(hrb jg (by omega) (by omega)).trans hI.jo.row, hI.jo.addr, ownF_keep hI.jo.own fun p hp => hrb p ?_ ?_, hI.jo.base, hI.jo.empty⟩
      · have := (HJ0.out.own.lt p hp).2; omega
      · have := (HJ0.out.own.lt p hp).2; omega
    · have hf := hI.fj
      refine ⟨by rw [← HV2.out]; exact hf.os, by rw [← HV2.out]; exact hf.tape, by rw [← HV2.out]; exact hf.output, by rw [hsz2]; exact hf.size, fun k hk h1 h2 => (hrb k (by omega) (by omega)).trans (hf.block k hk h1 h2)⟩
end Go.Proofs.YtabmpngliphdpaaDoor.La
