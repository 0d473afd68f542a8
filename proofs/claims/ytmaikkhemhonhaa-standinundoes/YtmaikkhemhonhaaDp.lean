/- One more approval of a record. -/
import Derived.Test.YtmaikkhemhonhaaDe
import Derived.Test.YtmaikkhemhonhaaDh
namespace Go.Proofs.Ytmaikkhemhonhaa.Dp
set_option linter.unusedVariables false
set_option linter.unusedSimpArgs false
open Go.RowKit Go.Maps Lib0 Kb Xp Da Db Dc Dd De Dh
attribute [local go_sem] Oper.semAt_some
def sS (t : TypeId) : Bool := t == tS || t == tA
theorem kt_of {w y : World} {base g : Nat} {v : Value} {L : List Ap} (h : FrP (Own g v) w y) (hs : ShM w base g v L) : KT sS w y :=
  ⟨h.os, h.tape, h.output, h.size, fun k o hk hn => (h.block k (Array.getElem?_eq_some_iff.1 hk).1 (fun e => by
    rcases e with rfl | e
    · rw [hs.blk] at hk
      injection hk with hk
      have := hn _ _ _ hk.symm
      revert this; decide
    · obtain ⟨c, hc⟩ := own_ty hs.row e
      rw [hc] at hk
      injection hk with hk
      have := hn _ _ _ hk.symm
      revert this; decide)).trans hk⟩
theorem lastN_snoc (L : List Ap) (x : Ap) : lastN (L ++ [x]) = x.1 := by simp [lastN]
/-- which blocks of a record an approval turns -/
def OwnR (a : Rc) (b : Nat) : Prop := b = a.gr ∨ b = a.gs ∨ a.rv.ownBlock = some b
def PostA (w : World) (base : Nat) (a : Rc) (x : Ap) (pl : Int) (y : World) : Prop := ∃ v', RM y base { a with rv := v', L := a.L ++ [x] } pl ∧ Nw a.rv v' w.heap.size ∧ FrP (OwnR a) w y
theorem look_at {w : World} {base : Nat} {a : Rc} {pl : Int} (h : RM w base a pl) : (Instr.lookup tM (.map (some a.gm)) (.int .i64 a.op) false).run Try.prog w = .ok (.pointer (some ⟨a.gs, 0, none⟩)) w := by
  obtain ⟨v, ps, hrun, hv⟩ := h.2.own.lookup law Try.underlying88 (zeroP w) (zd := .held (.pointer none)) (zp := []) rfl (key_of a.op h.2.op)
  rw [h.2.one.at_] at hv
  have : v = ptr a.gs := by
    cases v <;> simp [heldP, ptr] at hv ⊢
    exact hv.1
  rw [this] at hrun
  exact hrun
theorem look_none {w : World} {gm n : Nat} (h : w.ownsMap Try.prog tI heldP gm n (.map [])) (k : Int) (hk : I64 k) : (Instr.lookup tM (.map (some gm)) (.int .i64 k) false).run Try.prog w = .ok (.pointer none) w := by
  obtain ⟨v, ps, hrun, hv⟩ := h.lookup law Try.underlying88 (zeroP w) (zd := .held (.pointer none)) (zp := []) rfl (key_of k hk)
  have : v = .pointer none := by
    have e : (DataW.map [] : DataW Value).atKey (.int .i64 k) (.held (.pointer none)) = .held (.pointer none) := rfl
    rw [e] at hv
    cases v <;> simp [heldP] at hv ⊢
    exact hv.1
  rw [this] at hrun
  exact hrun
set_option maxRecDepth 100000 in
set_option maxHeartbeats 1600000 in
theorem addR_old {w : World} {base : Nat} {a : Rc} {pl : Int} (h : RM w base a pl) (hbase : base ≤ w.heap.size) (x : Ap) (hl : a.L.length < 999) (hu : Up (a.L ++ [x])) (ham : Am (a.L ++ [x])) : Calls Try.prog 37 #[.pointer (some ⟨a.gr, 0, none⟩), apv x] w fun e w' => e = .returned (.tuple #[]) ∧ PostA w base a x pl w' := by
  obtain ⟨n, u, t⟩ := x
  obtain ⟨w1, hw1⟩ : ∃ w1, w.alloc (.cells #[.int .i64 n, .int .i64 u, .int .i64 t] tA) = w1 := ⟨_, rfl⟩
  have B1 : Below w.heap.size w w1 := hw1 ▸ below_one _ _
  have HW1 : w1.heap[w.heap.size]? = some (.cells #[.int .i64 n, .int .i64 u, .int .i64 t] tA) := hw1 ▸ h1_0 _ _
  have h1 : RM w1.drew base a pl := h.below B1.drew
  have hlk := look_at h1
  obtain ⟨-, c1, c2, c3, c4, fz⟩ := (h.below B1).cells
  obtain ⟨-, d1, d2, d3, -⟩ := h1.cells
  obtain ⟨s0, s1⟩ := h1.2.sh.cells
  obtain ⟨o, cap, erv, -⟩ := own_form h.2.sh.row
  rw [erv] at s0
  have b0 : w1.drew.cell? ⟨w.heap.size, 0, none⟩ = some (.int .i64 n) := by show w1.cell? _ = _; simp [World.cell?, HW1]
  have b1 : w1.drew.cell? ⟨w.heap.size, 1, none⟩ = some (.int .i64 u) := by show w1.cell? _ = _; simp [World.cell?, HW1]
  have b2 : w1.drew.cell? ⟨w.heap.size, 2, none⟩ = some (.int .i64 t) := by show w1.cell? _ = _; simp [World.cell?, HW1]
  have hsum : -9223372036854775808 ≤ uS a.L + u ∧ uS a.L + u ≤ 9223372036854775807 := by
    have := ham.sum
    rw [uS_append] at this
    simp only [List.length_append, List.length_singleton, uS, List.map_cons, List.map_nil, List.sum_cons, List.sum_nil] at this
    unfold uS
    omega
  have HADD : Hid (Calls Try.prog 50 #[.pointer (some ⟨a.gs, 0, none⟩), apv (n, u, t)] w1.drew fun e w' => e = .returned (.tuple #[]) ∧ PostD w1.drew base a.gs a.rv (a.L ++ [(n, u, t)]) w') := addS_any h1.2.sh (Nat.le_trans hbase B1.size) (n, u, t) (by omega) hsum
  have HEND : Hid (∀ y, PostD w1.drew base a.gs a.rv (a.L ++ [(n, u, t)]) y → (y.cell? ⟨w.heap.size, 0, none⟩ = some (.int .i64 n) ∧ y.cell? ⟨a.gr, 3, none⟩ = some (.int .i64 (lastN a.L)) ∧ y.frozen? ⟨a.gr, 3, none⟩ = false) ∧ Hid (PostA w base a (n, u, t) pl (y.setCell ⟨a.gr, 3, none⟩ (.int .i64 n)))) := fun y hy => by
    obtain ⟨v', k1, k2, k3⟩ := hy
    have kt := kt_of k3 h1.2.sh
    have hblk := kt.cells h1.1 (by decide)
    have hbox : y.heap[w.heap.size]? = some (.cells #[.int .i64 n, .int .i64 u, .int .i64 t] tA) := (k3.block _ (Array.getElem?_eq_some_iff.1 HW1).1 (fun e => by
      rcases e with e | e
      · exact ty_ne (show w1.heap[w.heap.size]? = _ from HW1) h1.2.sh.blk (by decide) e
      · have := (h.2.sh.row.lt _ e).2
        omega)).trans HW1
    have hrcs : (rcs a pl).setIfInBounds 3 (.int .i64 n) = rcs { a with rv := v', L := a.L ++ [(n, u, t)] } pl := by
      unfold rcs
      rw [lastN_snoc]; rfl
    have hne : ∀ k, k ≠ a.gr → (y.setCell ⟨a.gr, 3, none⟩ (.int .i64 n)).heap[k]? = y.heap[k]? := fun k hk => setCell_ne (p := ⟨a.gr, 3, none⟩) (fun e => hk e.symm) _
    have kset : KT (fun t => t == tR) y (y.setCell ⟨a.gr, 3, none⟩ (.int .i64 n)) := KT.set hblk (by decide) _
    refine ⟨⟨by simp [World.cell?, hbox], by unfold rcs at hblk; simp [World.cell?, hblk], by simp [World.frozen?, hblk]⟩, v', ⟨?_, ⟨kset.map (kt.map h1.2.own), h.2.one, ⟨kset.cells k1.blk (by decide), kset.row k1.row (by decide), k1.low⟩, h.2.lowm, h.2.lowr, h.2.op, hu, ham, ?_, h.2.nm, h.2.opn⟩⟩, fun b hb => ?_, ?_⟩
    · show (y.setCell ⟨a.gr, 3, none⟩ (.int .i64 n)).heap[a.gr]? = _
      rw [setCell_heap hblk, hrcs]
    · show (a.L ++ [(n, u, t)]).length ≤ 999
      rw [List.length_append, List.length_singleton]; omega
    · rcases k2 b hb with e | e
      · exact .inl e
      · right; exact Nat.le_trans B1.size e
    · refine FrP.set ?_ (.inl (.inl rfl)) _
      exact (FrP.of (B := OwnR a) B1.drew).trans k3 (fun b hb => by
        rcases hb with hb | hb
        · exact .inl (.inr (.inl hb))
        · exact .inl (.inr (.inr hb)))
  have q1 : ¬ (a.L.length : Int) = 1000 := by omega
  have q2 : ((a.L.length : Int) == 1000) = false := by simp; omega
  unfold apv at *
  dsimp only at HADD
  generalize a.L.length = N at *
  clear h h1 B1 HW1 hl hu ham hsum erv hbase
  go_enter Try.func37, Try.ntmps37
  go_wp2_with fail
  go_region_with (fail)
  all_goals (go_wp2_with fail)
  all_goals (refine HADD.out.mono ?_)
  all_goals (rintro e y ⟨rfl, hy⟩)
  all_goals (obtain ⟨⟨e0, e1, e2⟩, HE⟩ := HEND.out y hy)
  all_goals (clear hy)
  all_goals (go_wp2_with fail)
  all_goals go_end0
  all_goals exact ⟨rfl, HE.out⟩
end Go.Proofs.Ytmaikkhemhonhaa.Dp
