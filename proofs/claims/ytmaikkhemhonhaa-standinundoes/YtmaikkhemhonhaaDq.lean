/- The first approval of a new record. -/
import Derived.Test.YtmaikkhemhonhaaDp
namespace Go.Proofs.Ytmaikkhemhonhaa.Dq
set_option linter.unusedVariables false
set_option linter.unusedSimpArgs false
open Go.RowKit Go.Maps Lib0 Kb Xp Da Db Dc Dd De Dh Dp
attribute [local go_sem] Oper.semAt_some
theorem one_put (k : Int) (g : Nat) : One1 ((DataW.map [] : DataW Value).put (.int .i64 k) (.held (ptr g))) k g := by
  have ht : Maps.Tidy (DataW.map [] : DataW Value) := Maps.tidy_empty
  refine ⟨ht.put (isKey k) _, fun l => ?_, fun z => Maps.atKey_put_same ht.isMap (isKey k) _ _, ?_⟩
  · by_cases e : l = .int .i64 k
    · subst e
      rw [Maps.has_put_same ht.isMap (isKey k)]; simp
    · rw [Maps.has_put_other e]
      exact ⟨fun h => (by cases h), fun h => absurd h e⟩
  · rw [Maps.size_put ht]; rfl
/-- a record that was just made -/
structure Fresh (w : World) (base gr gm : Nat) (card : ByteArray) : Prop where
  blk : w.heap[gr]? = some (.cells #[.string card, .map (some gm), .int .i64 0, .int .i64 0, .int .i64 0] tR (0, 0))
  own : w.ownsMap Try.prog tI heldP gm 0 (.map [])
  lowr : base ≤ gr
  lowm : base ≤ gm
def PostN (w : World) (base gr gm : Nat) (card : ByteArray) (x : Ap) (y : World) : Prop := ∃ a : Rc, a.card = card ∧ a.gr = gr ∧ a.gm = gm ∧ a.L = [x] ∧ RM y base a 0 ∧ w.heap.size ≤ a.gs ∧ (∀ b, a.rv.ownBlock = some b → w.heap.size ≤ b) ∧ FrP (fun b => b = gr ∨ b = gm) w y
theorem turned_heap {w x : World} {mb : Nat} (ht : w.mapTurned x mb) {k : Nat} (hk : k ≠ mb) : x.heap[k]? = w.heap[k]? ∧ x.heap.size = w.heap.size := by
  obtain ⟨es, cl, es', cl', e1, rfl⟩ := ht
  have hg := World.mapTurned.grown (w := w) (b := mb) ⟨es, cl, es', cl', e1, rfl⟩
  refine ⟨?_, by simp [ChangeMaps.setBlock]⟩
  by_cases hb : k < w.heap.size
  · exact hg.block k hb (fun e => hk (by simpa using e))
  · have h1 : w.heap[k]? = none := by simp; omega
    rw [h1]
    simp [ChangeMaps.setBlock]; omega
set_option maxRecDepth 100000 in
set_option maxHeartbeats 1600000 in
theorem addR_new {w : World} {base gr gm : Nat} {card : ByteArray} (h : Fresh w base gr gm card) (hbase : base ≤ w.heap.size) (x : Ap) (hx1 : I64 x.1) (hx0 : x.1 ≠ 0) (hx3 : I64 x.2.2) (hx2 : 0 ≤ x.2.1 ∧ x.2.1 ≤ 999999999999) : Calls Try.prog 37 #[.pointer (some ⟨gr, 0, none⟩), apv x] w fun e w' => e = .returned (.tuple #[]) ∧ PostN w base gr gm card x w' := by
  obtain ⟨n, u, t⟩ := x
  dsimp only at hx1 hx2 hx3
  have hgl : gr < w.heap.size := (Array.getElem?_eq_some_iff.1 h.blk).1
  have hml : gm < w.heap.size := h.own.lt
  have hgm : gr ≠ gm := fun e => by
    obtain ⟨es, cl, e2, -⟩ := h.own
    have := h.blk
    rw [e, e2] at this; cases this
  obtain ⟨w1, hw1⟩ : ∃ w1, w.alloc (.cells #[.int .i64 n, .int .i64 u, .int .i64 t] tA) = w1 := ⟨_, rfl⟩
  have B1 : Below w.heap.size w w1 := hw1 ▸ below_one _ _
  have HW1 : w1.heap[w.heap.size]? = some (.cells #[.int .i64 n, .int .i64 u, .int .i64 t] tA) := hw1 ▸ h1_0 _ _
  have hs1 : w1.heap.size = w.heap.size + 1 := by rw [← hw1]; simp
  have hlk := look_none (w := w1.drew) (h.own.kept (w' := w1.drew) (row := none) ⟨B1.drew.os, B1.drew.tape, B1.drew.output, B1.drew.size, fun k hk _ => B1.drew.block k hk⟩ (by simp)) 0 (by unfold I64; omega)
  -- the new sheet
  obtain ⟨w2, hw2⟩ : ∃ w2, w1.drew.alloc (.cells #[.slice none 0 0, .int .i64 0] tS) = w2 := ⟨_, rfl⟩
  have B2 : Below w1.heap.size w1 w2 := keepB ((Below.refl _ w1).drew) (hw2 ▸ below_one _ _)
  have HW2 : w2.heap[w1.heap.size]? = some (.cells #[.slice none 0 0, .int .i64 0] tS) := hw2 ▸ h1_0 _ _
  have B12 : Below w.heap.size w w2 := keepB B1 B2
  have hr2 : w2.heap[gr]? = some (.cells #[.string card, .map (some gm), .int .i64 0, .int .i64 0, .int .i64 0] tR (0, 0)) := kept B12 h.blk
  -- open
  obtain ⟨w3, hw3⟩ : ∃ w3, w2.setCell ⟨gr, 2, none⟩ (.int .i64 n) = w3 := ⟨_, rfl⟩
  have hr3 : w3.heap[gr]? = some (.cells #[.string card, .map (some gm), .int .i64 n, .int .i64 0, .int .i64 0] tR (0, 0)) := by rw [← hw3, setCell_heap hr2]; rfl
  have ho3 : ∀ k, k ≠ gr → w3.heap[k]? = w2.heap[k]? := fun k hk => by rw [← hw3, setCell_ne (p := ⟨gr, 2, none⟩) (fun e => hk e.symm)]
  have hs3 : w3.heap.size = w2.heap.size := by rw [← hw3, setCell_size]
  have own3 : w3.ownsMap Try.prog tI heldP gm 0 (.map []) := by
    obtain ⟨es, cl, e, r⟩ := h.own
    exact ⟨es, cl, (ho3 gm (Ne.symm hgm)).trans ((B12.block gm hml).trans e), r⟩
  obtain ⟨w4, hst, own4, ht4⟩ := (own3.drew).store law Try.underlying88 (by unfold maxLen; omega) (key_of n hx1) (val := ptr w1.heap.size) (d := .held (ptr w1.heap.size)) (ps := []) rfl
  have hk4 : ∀ k, k ≠ gm → w4.heap[k]? = w3.heap[k]? := fun k hk => (turned_heap ht4 hk).1
  have hs4 : w4.heap.size = w2.heap.size := ((turned_heap ht4 hgm).2).trans hs3
  have n1 : w1.heap.size ≠ gm := by omega
  have n2 : w1.heap.size ≠ gr := by omega
  have n3 : w.heap.size ≠ gm := by omega
  have n4 : w.heap.size ≠ gr := by omega
  have sh4 : ShM w4 base w1.heap.size (.slice none 0 0) [] := ⟨by rw [hk4 _ n1, ho3 _ n2]; exact HW2, World.ownsRow_nil _ _ _ _, by omega⟩
  have hb4 : w4.heap[w.heap.size]? = some (.cells #[.int .i64 n, .int .i64 u, .int .i64 t] tA) := by rw [hk4 _ n3, ho3 _ n4]; exact kept B2 HW1
  have hr4 : w4.heap[gr]? = some (.cells #[.string card, .map (some gm), .int .i64 n, .int .i64 0, .int .i64 0] tR (0, 0)) := by rw [hk4 _ hgm]; exact hr3
  have F4 : FrP (fun b => b = gr ∨ b = gm) w w4 := by
    have f3 : FrP (fun b => b = gr ∨ b = gm) w w3 := hw3 ▸ (FrP.of B12).set (p := ⟨gr, 2, none⟩) (.inl (.inl rfl)) _
    exact FrP.grown (f3.behind ((Below.refl _ w3).drew)) (World.mapTurned.grown ht4) (fun g hg => .inl (.inr (by simpa using hg.symm)))
  have HADD : Hid (Calls Try.prog 50 #[.pointer (some ⟨w1.heap.size, 0, none⟩), apv (n, u, t)] w4 fun e w' => e = .returned (.tuple #[]) ∧ PostD w4 base w1.heap.size (.slice none 0 0) ([] ++ [(n, u, t)]) w') := addS_any sh4 (by have := B2.size; omega) (n, u, t) (by simp) (by simp [uS]; omega)
  have HEND : Hid (∀ y, PostD w4 base w1.heap.size (.slice none 0 0) ([] ++ [(n, u, t)]) y → (y.cell? ⟨w.heap.size, 0, none⟩ = some (.int .i64 n) ∧ y.cell? ⟨gr, 3, none⟩ = some (.int .i64 0) ∧ y.frozen? ⟨gr, 3, none⟩ = false) ∧ Hid (PostN w base gr gm card (n, u, t) (y.setCell ⟨gr, 3, none⟩ (.int .i64 n)))) := fun y hy => by
    obtain ⟨v', k1, k2, k3⟩ := hy
    have kt := kt_of k3 sh4
    have hblk := kt.cells hr4 (by decide)
    have hbox : y.heap[w.heap.size]? = some (.cells #[.int .i64 n, .int .i64 u, .int .i64 t] tA) := (k3.block _ (Array.getElem?_eq_some_iff.1 hb4).1 (fun e => by
      rcases e with e | e
      · omega
      · simp [Value.ownBlock] at e)).trans hb4
    have kset : KT (fun t => t == tR) y (y.setCell ⟨gr, 3, none⟩ (.int .i64 n)) := KT.set hblk (by decide) _
    refine ⟨⟨by simp [World.cell?, hbox], by simp [World.cell?, hblk], by simp [World.frozen?, hblk]⟩, ⟨card, gr, gm, w1.heap.size, v', n, 1, (DataW.map [] : DataW Value).put (.int .i64 n) (.held (ptr w1.heap.size)), [(n, u, t)]⟩, rfl, rfl, rfl, rfl, ⟨?_, ⟨kset.map (kt.map own4), one_put n _, ⟨kset.cells k1.blk (by decide), kset.row k1.row (by decide), k1.low⟩, h.lowm, h.lowr, hx1, List.pairwise_singleton _ _, ?_, by simp, by simp, hx0⟩⟩, ?_, fun b hb => ?_, ?_⟩
    · show (y.setCell ⟨gr, 3, none⟩ (.int .i64 n)).heap[gr]? = _
      rw [setCell_heap hblk]; rfl
    · intro z hz
      have : z = (n, u, t) := by simpa using hz
      subst this
      exact ⟨hx2.1, hx2.2, hx3, hx1⟩
    · show w.heap.size ≤ w1.heap.size
      omega
    · rcases k2 b hb with e | e
      · simp [Value.ownBlock] at e
      · have := B2.size; omega
    · refine FrP.set ?_ (.inl (.inl rfl)) _
      exact F4.trans k3 (fun b hb => by
        rcases hb with hb | hb
        · right; rw [hb]; omega
        · simp [Value.ownBlock] at hb)
  have c1 : w1.drew.cell? ⟨gr, 1, none⟩ = some (.map (some gm)) := by have := kept B1 h.blk; show w1.cell? _ = _; simp [World.cell?, this]
  have c2 : w1.drew.cell? ⟨gr, 2, none⟩ = some (.int .i64 0) := by have := kept B1 h.blk; show w1.cell? _ = _; simp [World.cell?, this]
  have b0 : w2.cell? ⟨w.heap.size, 0, none⟩ = some (.int .i64 n) := by have := kept B2 HW1; simp [World.cell?, this]
  have e2 : w2.cell? ⟨gr, 2, none⟩ = some (.int .i64 0) := by simp [World.cell?, hr2]
  have f2 : w2.frozen? ⟨gr, 2, none⟩ = false := by simp [World.frozen?, hr2]
  have g1 : w3.cell? ⟨gr, 1, none⟩ = some (.map (some gm)) := by simp [World.cell?, hr3]
  have g2 : w3.cell? ⟨gr, 2, none⟩ = some (.int .i64 n) := by simp [World.cell?, hr3]
  have k0 : w4.cell? ⟨w.heap.size, 0, none⟩ = some (.int .i64 n) := by simp [World.cell?, hb4]
  have k1 : w4.cell? ⟨w.heap.size, 1, none⟩ = some (.int .i64 u) := by simp [World.cell?, hb4]
  have k2 : w4.cell? ⟨w.heap.size, 2, none⟩ = some (.int .i64 t) := by simp [World.cell?, hb4]
  have d1 : w3.drew.cell? ⟨gr, 1, none⟩ = some (.map (some gm)) := g1
  have d2 : w3.drew.cell? ⟨gr, 2, none⟩ = some (.int .i64 n) := g2
  unfold apv ptr at *
  dsimp only at HADD
  clear h own3 own4 ht4 hk4 sh4 hb4 hr4 F4 ho3 hr3 hr2 B1 B2 B12 HW1 HW2 hs4 n1 n2 n3 n4 hgl hml hx1 hx2 hx3 hs1 hs3 hbase
  go_enter Try.func37, Try.ntmps37
  go_wp2_with fail
  go_region_with (fail)
  all_goals (go_wp2_with fail)
  all_goals (go_region_with (fail))
  all_goals (go_wp2_with fail)
  all_goals (refine HADD.out.mono ?_)
  all_goals (rintro e y ⟨rfl, hy⟩)
  all_goals (obtain ⟨⟨e0, e1, e3⟩, HE⟩ := HEND.out y hy)
  all_goals (clear hy)
  all_goals (go_wp2_with fail)
  all_goals go_end0
  all_goals exact ⟨rfl, HE.out⟩
end Go.Proofs.Ytmaikkhemhonhaa.Dq
