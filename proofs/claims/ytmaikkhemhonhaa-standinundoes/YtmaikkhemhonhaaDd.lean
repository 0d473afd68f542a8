/- One more approval on a sheet. -/
import Derived.Test.YtmaikkhemhonhaaDc
namespace Go.Proofs.Ytmaikkhemhonhaa.Dd
set_option linter.unusedVariables false
set_option linter.unusedSimpArgs false
open Go.RowKit Go.Maps Lib0 Kb Xp Da Db Dc
attribute [local go_sem] Oper.semAt_some
attribute [-go_sem] Builtin.append_
theorem ty_ne {w : World} {g k : Nat} {c d : Array Value} {s t : TypeId} {x y : Nat × Nat} (h : w.heap[g]? = some (.cells c s x)) (h2 : w.heap[k]? = some (.cells d t y)) (hne : s ≠ t) : g ≠ k := fun e => by
  subst e
  rw [h] at h2
  injection h2 with h2
  injection h2 with _ h2
  exact hne h2
theorem infoAp : ∃ i, Try.prog.info? tA = some i ∧ i.zero = some (.agg #[.int .i64 0, .int .i64 0, .int .i64 0]) ∧ i.size = 3 ∧ i.bytes = 24 := by
  have h : (Try.prog.info? tA).map (fun i => (i.zero, i.size, i.bytes)) = some (some (.agg #[.int .i64 0, .int .i64 0, .int .i64 0]), 3, 24) := by kernel_rfl
  cases e : Try.prog.info? tA with
  | none => rw [e] at h; cases h
  | some i => rw [e] at h; simp at h; exact ⟨i, rfl, h.1, h.2.1, h.2.2⟩
theorem shm_ne {x : World} {base g : Nat} {v : Value} {L : List Ap} (h : ShM x base g v L) : v.ownBlock ≠ some g := fun e => by
  obtain ⟨c, hc⟩ := own_ty h.row e
  exact ty_ne hc h.blk (by decide) rfl
/-- which blocks a sheet has -/
def Own (g : Nat) (v : Value) (b : Nat) : Prop := b = g ∨ v.ownBlock = some b
/-- a row's block is the old one, or a new one -/
def Nw (v v' : Value) (n : Nat) : Prop := ∀ b, v'.ownBlock = some b → v.ownBlock = some b ∨ n ≤ b
def PostD (w : World) (base g : Nat) (v : Value) (L : List Ap) (y : World) : Prop := ∃ v', ShM y base g v' L ∧ Nw v v' w.heap.size ∧ FrP (Own g v) w y
theorem PostD.behind {w y z : World} {base g : Nat} {v : Value} {L : List Ap} (h : PostD w base g v L y) (k : Below y.heap.size y z) : PostD w base g v L z := by
  obtain ⟨v', h1, h2, h3⟩ := h
  exact ⟨v', h1.below k, h2, h3.behind k⟩
theorem wrap_64 (n : Int) (h0 : -9223372036854775808 ≤ n) (h1 : n ≤ 9223372036854775807) : IntKind.i64.wrap n = n := by simp [IntKind.wrap, IntKind.signed, IntKind.bits]; omega
theorem add_end {w x y : World} {base g g4 cap : Nat} {v : Value} {L : List Ap} {a : Ap} (h : ShM w base g v L) (hx : Below w.heap.size w x) (hr : y.ownsRow base tA 3 (.slice (some ⟨g4, 0, none⟩) (L.length + 1) cap) (L.length + 1) (apc L ++ [.int .i64 a.1, .int .i64 a.2.1, .int .i64 a.2.2])) (hg : x.grownBy y v.ownBlock) (hn : v.ownBlock = some g4 ∨ g4 = x.heap.size) :
    (y.cell? ⟨g, 0, none⟩ = some v ∧ y.frozen? ⟨g, 0, none⟩ = false) ∧ ((y.setCell ⟨g, 0, none⟩ (.slice (some ⟨g4, 0, none⟩) (L.length + 1) cap)).cell? ⟨g, 1, none⟩ = some (.int .i64 (uS L)) ∧ (y.setCell ⟨g, 0, none⟩ (.slice (some ⟨g4, 0, none⟩) (L.length + 1) cap)).frozen? ⟨g, 1, none⟩ = false) ∧ PostD w base g v (L ++ [a]) ((y.setCell ⟨g, 0, none⟩ (.slice (some ⟨g4, 0, none⟩) (L.length + 1) cap)).setCell ⟨g, 1, none⟩ (.int .i64 (uS L + a.2.1))) ∧ ∀ (b : Nat) (c : Array Value) (fr : Nat × Nat), x.heap[b]? = some (.cells c tA fr) → v.ownBlock ≠ some b → (y.setCell ⟨g, 0, none⟩ (.slice (some ⟨g4, 0, none⟩) (L.length + 1) cap)).heap[b]? = x.heap[b]? := by
  have hxm := h.below hx
  have hbg : y.heap[g]? = some (.cells #[v, .int .i64 (uS L)] tS (0, 0)) := (hg.block g (Array.getElem?_eq_some_iff.1 hxm.blk).1 (fun e => shm_ne h e.symm)).trans hxm.blk
  have hs2 : (y.setCell ⟨g, 0, none⟩ (.slice (some ⟨g4, 0, none⟩) (L.length + 1) cap)).heap[g]? = some (.cells #[.slice (some ⟨g4, 0, none⟩) (L.length + 1) cap, .int .i64 (uS L)] tS (0, 0)) := by rw [setCell_heap hbg]; rfl
  have h4 : g ≠ g4 := fun e => by
    obtain ⟨c, hc⟩ := own_ty hr (g := g4) rfl
    exact ty_ne hbg hc (by decide) e
  refine ⟨⟨by simp [World.cell?, hbg], by simp [World.frozen?, hbg]⟩, ⟨by simp [World.cell?, hs2], by simp [World.frozen?, hs2]⟩, ⟨.slice (some ⟨g4, 0, none⟩) (L.length + 1) cap, ⟨?_, ?_, h.low⟩, ?_, ?_⟩, fun b c fr hb hne => ?_⟩
  · rw [setCell_heap hs2, uS_append]; simp [uS]
  · rw [List.length_append, List.length_singleton, apc_append]
    refine own_keep hr fun b hb => ?_
    have hb2 : g4 = b := by simpa [Value.ownBlock] using hb
    rw [setCell_ne (p := ⟨g, 1, none⟩) (fun e : g = b => h4 (e.trans hb2.symm)), setCell_ne (p := ⟨g, 0, none⟩) (fun e : g = b => h4 (e.trans hb2.symm))]
  · intro b hb
    have hb2 : g4 = b := by simpa [Value.ownBlock] using hb
    subst hb2
    rcases hn with hn | hn
    · exact .inl hn
    · right; rw [hn]; exact hx.size
  · refine ((FrP.grown (FrP.of hx) hg (fun b hb => .inl (.inr hb))).set (p := ⟨g, 0, none⟩) (.inl (.inl rfl)) _).set (p := ⟨g, 1, none⟩) (.inl (.inl rfl)) _
  · rw [setCell_ne (p := ⟨g, 0, none⟩) (fun e : g = b => ty_ne hxm.blk hb (by decide) e)]
    exact hg.block b (Array.getElem?_eq_some_iff.1 hb).1 (fun e => hne e.symm)
set_option maxRecDepth 100000 in
set_option maxHeartbeats 3200000 in
theorem addS_any {w : World} {base g : Nat} {v : Value} {L : List Ap} (h : ShM w base g v L) (hbase : base ≤ w.heap.size) (a : Ap) (hl : L.length ≤ 1000000) (hs : -9223372036854775808 ≤ uS L + a.2.1 ∧ uS L + a.2.1 ≤ 9223372036854775807) : Calls Try.prog 50 #[.pointer (some ⟨g, 0, none⟩), apv a] w fun e w' => e = .returned (.tuple #[]) ∧ PostD w base g v (L ++ [a]) w' := by
  obtain ⟨n, u, t⟩ := a
  obtain ⟨w1, hw1⟩ : ∃ w1, w.alloc (.cells #[.int .i64 n, .int .i64 u, .int .i64 t] tA) = w1 := ⟨_, rfl⟩
  have B1 : Below w.heap.size w w1 := hw1 ▸ below_one _ _
  have HW1 : w1.heap[w.heap.size]? = some (.cells #[.int .i64 n, .int .i64 u, .int .i64 t] tA) := hw1 ▸ h1_0 _ _
  obtain ⟨x, hx⟩ : ∃ x, w1.drew.alloc (.cells #[.int .i64 n, .int .i64 u, .int .i64 t] tA) = x := ⟨_, rfl⟩
  have B2 : Below w.heap.size w x := keepB B1.drew (hx ▸ below_one _ _)
  have HX : x.heap[w.heap.size]? = some (.cells #[.int .i64 n, .int .i64 u, .int .i64 t] tA) := kept (a := w1.drew) (hx ▸ below_one _ _) HW1
  have hm1 := h.below B1
  have hm2 := h.below B2
  obtain ⟨i, hi, hz, hsz, hby⟩ := infoAp
  obtain ⟨g4, cap4, y, hrun, hown4, hgr4, hor, -⟩ := run_append_lies (P := Try.prog) x 96 96 base tA i _ 3 24 Try.underlying96 hi hz hsz hby rfl (by omega) _ L.length _ hm2.row ⟨w1.heap.size, 0, none⟩ 1 1 [.int .i64 n, .int .i64 u, .int .i64 t] rfl (fun j r hj => by
    rw [add_zero, ← hx]
    refine (cell_of_row _ _ _ _ _ _ (h1_0 w1.drew _)).trans ?_
    simpa using hj) (by simp [Value.oneCell']) (by omega) (by unfold maxLen; omega) (by omega) (Nat.le_trans hbase B2.size) _ rfl
  obtain ⟨⟨y0, yf⟩, ⟨z1, zf⟩, hpost, hold⟩ := add_end (a := (n, u, t)) h B2 hown4 hgr4 hor
  have hzb := hold _ _ _ HX (fun e => by
    have := (h.row.lt _ e).2
    omega)
  rw [HX] at hzb
  have zb1 : (y.setCell ⟨g, 0, none⟩ (.slice (some ⟨g4, 0, none⟩) (L.length + 1) cap4)).cell? ⟨w.heap.size, 1, none⟩ = some (.int .i64 u) := by simp [World.cell?, hzb]
  obtain ⟨c0, -⟩ := hm1.cells
  obtain ⟨e0, -⟩ := hm2.cells
  have b0 : w1.cell? ⟨w.heap.size, 0, none⟩ = some (.int .i64 n) := by simp [World.cell?, HW1]
  have b1 : w1.cell? ⟨w.heap.size, 1, none⟩ = some (.int .i64 u) := by simp [World.cell?, HW1]
  have b2 : w1.cell? ⟨w.heap.size, 2, none⟩ = some (.int .i64 t) := by simp [World.cell?, HW1]
  have d0 : x.cell? ⟨w.heap.size, 0, none⟩ = some (.int .i64 n) := by simp [World.cell?, HX]
  have d1 : x.cell? ⟨w.heap.size, 1, none⟩ = some (.int .i64 u) := by simp [World.cell?, HX]
  have d2 : x.cell? ⟨w.heap.size, 2, none⟩ = some (.int .i64 t) := by simp [World.cell?, HX]
  have HPO : Hid _ := hpost
  obtain ⟨s1, s2⟩ := hs
  dsimp only at s1 s2
  obtain ⟨o, cap, rfl, -⟩ := own_form h.row
  generalize uS L = U at *
  generalize L.length = N at *
  clear hpost hold hzb hown4 hgr4 hor hm1 hm2 h B1 B2 HW1 HX hi hz hsz hby hl hbase
  unfold apv
  go_enter Try.func50, Try.ntmps50
  go_wp2_with fail
  go_region_with (fail)
  all_goals (go_wp2_with fail)
  all_goals (go_region_with (fail))
  all_goals (go_wp2_with fail)
  all_goals go_end0
  all_goals (rw [wrap_64 _ s1 s2])
  all_goals exact ⟨rfl, PostD.behind HPO.out ((Below.refl _ _).drew)⟩
end Go.Proofs.Ytmaikkhemhonhaa.Dd
