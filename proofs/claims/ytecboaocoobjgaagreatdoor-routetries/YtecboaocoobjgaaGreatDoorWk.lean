/- RouteTries: what stays of the world while other blocks turn. -/
import Derived.Test.YtecboaocoobjgaaGreatDoorWi
import Derived.Test.YtecboaocoobjgaaGreatDoorQv
namespace Go.Proofs.YtecboaocoobjgaaGreatDoor.Wk
set_option linter.unusedVariables false
set_option linter.unusedSimpArgs false
open Go.RowKit Go.Shelf Lib0 Kb Rp Rw Rs Li Mj Tj Kq Sr Ra Rj Da Db Dc Dd De Wd Ws Wi
theorem cells_of {y : World} {p : Addr} {u : Value} (h : y.cell? p = some u) : ∃ c t fr, y.heap[p.block]? = some (.cells c t fr) := by
  unfold World.cell? at h
  split at h
  · next c t fr e => exact ⟨_, _, _, e⟩
  · cases h
theorem row_kt {y V : World} {v : Value} {L : LT} {Y : List Nat} (h : RowL y v L) (n : ∀ q ∈ Y, NoS y q) (k : KT Y y V) : RowL V v L := by
  obtain ⟨o, cap, rfl, hn, hc⟩ := h
  refine ⟨o, cap, rfl, hn, fun i hi => ?_⟩
  obtain ⟨a, e, c0, c1⟩ := hc i hi
  have hne : a.block ∉ Y := fun e2 => n _ e2 (a.add (i * 2)) (add_blk _ _) _ c0
  have hk : ∀ m u, y.cell? (a.add m) = some u → V.cell? (a.add m) = some u := fun m u hu => by
    obtain ⟨c, t, fr, hb⟩ := cells_of hu
    rw [World.cell?_of_block (a := a.add m) ((k.cells _ _ _ _ (by rw [add_blk]; exact hne) hb).trans hb.symm)]
    exact hu
  exact ⟨a, e, hk _ _ c0, hk _ _ c1⟩
/-- a block of something else -/
def Oth (y : World) (q : Nat) : Prop := NoS y q ∧ ∃ c s, y.heap[q]? = some (.cells c s) ∧ s ≠ tR ∧ s ≠ tTr ∧ s ≠ tP ∧ s ≠ tW
theorem Wd_kt {w y V : World} {X Y : List Nat} {W : Nat} {t r u : Nat → Nat} {L : Nat → LT} (h : Wd w y X W t r u L) (hY : ∀ q ∈ Y, q ∈ X ∧ Oth y q) (k : KT Y y V) (bel : Below w.heap.size w V) : Wd w V X W t r u L := by
  have kk : ∀ {b : Nat} {c' : Array Value} {s' : TypeId}, y.heap[b]? = some (.cells c' s') → (s' = tR ∨ s' = tTr ∨ s' = tP ∨ s' = tW) → V.heap[b]? = some (.cells c' s') := fun e n => k.cells _ _ _ _ (fun hm => by
    obtain ⟨_, _, c, s, e2, n1, n2, n3, n4⟩ := hY _ hm
    rw [e] at e2
    cases e2
    rcases n with h | h | h | h
    · exact n1 h
    · exact n2 h
    · exact n3 h
    · exact n4 h) e
  refine ⟨kk h.blk (by simp), fun j hj => ?_, fun j hj => ?_, fun j hj => kk (h.fnb j hj) (by simp), h.nt, h.nr, h.inX, h.lo, bel⟩
  · obtain ⟨T, h1, _⟩ := (h.tri j hj).tree
    exact (h.tri j hj).kept (k.mono fun q hq => (hY q hq).1) ((kk h1 (by simp)).trans h1.symm)
  · obtain ⟨v, a, b, c⟩ := h.row j hj
    exact ⟨v, kk a (by simp), b, row_kt c (fun q hq => (hY q hq).2.1) k⟩
/-- more blocks are put aside, which are new -/
theorem Wd_more {w y y' : World} {X Y : List Nat} {W : Nat} {t r u : Nat → Nat} {L : Nat → LT} (h : Wd w y X W t r u L) (k : Below y.heap.size y y') (hY : ∀ q ∈ Y, y.heap.size ≤ q ∧ q < y'.heap.size) : Wd w y' (Y ++ X) W t r u L := by
  have h' := h.below k
  refine ⟨h'.blk, fun j hj => ?_, h'.row, h'.fnb, h.nt, h.nr, fun j hj => by simp [h.inX j hj], fun x hx => ?_, h'.bel⟩
  · refine (h.tri j hj).more (fun q hq => ?_) (by simp [(h.tri j hj).mem]) k (fun q hq => ?_)
    · rcases List.mem_append.1 hq with h1 | h1
      · exact .inr (hY q h1).1
      · exact .inl h1
    · rcases List.mem_append.1 hq with h1 | h1
      · exact (hY q h1).2
      · exact Nat.lt_of_lt_of_le ((h.tri j hj).all q h1) k.size
  · rcases List.mem_append.1 hx with h1 | h1
    · exact Nat.le_trans h.bel.size (hY x h1).1
    · exact h.lo x h1
/-- fewer -/
theorem InT_less {w : World} {X Y : List Nat} (hs : ∀ q ∈ Y, q ∈ X) : ∀ T : Tn, InT w X T → InT w Y T
  | .nil, _ => trivial
  | .nd b lv kids, h => ⟨fun hm => h.1 (hs _ hm), h.2.1, fun c v e => ⟨fun hm => (h.2.2.1 c v e).1 (hs _ hm), (h.2.2.1 c v e).2⟩, fun d => InT_less hs (kids d) (h.2.2.2 d)⟩
theorem Wd_less {w y : World} {X Y : List Nat} {W : Nat} {t r u : Nat → Nat} {L : Nat → LT} (h : Wd w y (Y ++ X) W t r u L) (ht : ∀ k, k < 2 → t k ∈ X) (hr : ∀ k, k < 2 → r k ∈ X) : Wd w y X W t r u L :=
  ⟨h.blk, fun j hj => let ⟨T, a, b, c, d⟩ := (h.tri j hj).tree; ⟨ht j hj, fun x hx => (h.tri j hj).all x (by simp [hx]), (h.tri j hj).srt, (h.tri j hj).keys, T, a, InT_less (fun q hq => by simp [hq]) T b, c, d⟩, h.row, h.fnb, h.nt, h.nr, hr, fun x hx => h.lo x (by simp [hx]), h.bel⟩
end Go.Proofs.YtecboaocoobjgaaGreatDoor.Wk
