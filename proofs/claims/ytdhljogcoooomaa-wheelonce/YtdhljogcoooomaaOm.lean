/- WheelOnce: rows of what is due and done, things; comes. -/
import Derived.Test.YtdhljogcoooomaaCl
import Derived.Test.YtdhljogcoooomaaOq
namespace Go.Proofs.Ytdhljogcoooomaa.Om
set_option linter.unusedVariables false
set_option linter.unusedSimpArgs false
open Go.RowKit Go.Maps Lib0 Kb Xp Oq Il Dl El Fl Gl Hl Kl Jl Ml Tl Cl
attribute [local go_sem] Oper.semAt_some
abbrev tB : TypeId := 4
def Du (w : World) (v : Value) (due : List Int) : Prop := w.ownsRow 0 tI 1 v due.length (due.map (Value.int .i64))
def Dn (w : World) (v : Value) (dn : List Bool) : Prop := w.ownsRow 0 tB 1 v dn.length (dn.map Value.bool)
def Thg (w : World) (th : Nat → Value) (n : Nat) : Prop := ∀ k, k < n → ∃ bk cap, th k = .slice (some ⟨bk, 0, none⟩) 1 cap ∧ w.heap[bk]? = some (.cells #[.int .i64 (k : Nat)] tI)
theorem row_at {w : World} {base e n : Nat} {v : Value} {xs : List Value} (h : w.ownsRow base e 1 v n xs) (i : Nat) (hi : i < n) : ∃ g cap u, v = .slice (some ⟨g, 0, none⟩) n cap ∧ xs[i]? = some u ∧ w.cell? ⟨g, i, none⟩ = some u ∧ w.frozen? ⟨g, i, none⟩ = false := by
  obtain ⟨g, cap, hv, -, -⟩ := h.form (by omega)
  have hl : xs.length = n := by have := h.1; omega
  obtain ⟨c, hc⟩ := own_ty h (g := g) (by rw [hv]; rfl)
  refine ⟨g, cap, xs[i], hv, List.getElem?_eq_getElem (by omega), ?_, frozen_of_row _ _ _ _ _ hc⟩
  have := h.cells (g := g) (by rw [hv]; rfl) i _ (List.getElem?_eq_getElem (by omega))
  rwa [add_zero] at this
/-- no block of a wheel holds plain ints or bools -/
theorem wl_kind {w : World} {b : Nat} {B : Nat → Prop} {n : Nat} {L : LT} {now last : Int} (h : Wl w b B n L now last) {g : Nat} {c : Array Value} {t : TypeId} {x : Nat × Nat} (hg : w.heap[g]? = some (.cells c t x)) (ht : t ≠ tW ∧ t ≠ tS ∧ t ≠ tL) : ¬ B g := by
  obtain ⟨sb, mb, S, cc, D, hm, hB⟩ := h
  intro hb
  rcases (hB g).1 hb with rfl | rfl | rfl | ⟨j, hj, e⟩
  · exact ty_ne hg hm.blk ht.1 rfl
  · exact ty_ne hg hm.slots ht.2.1 rfl
  · exact map_ne hg hm.map rfl
  · obtain ⟨c2, h2⟩ := own_ty (hm.row j hj) e
    exact ty_ne hg h2 ht.2.2 rfl
theorem Thg.keep {w x : World} {th : Nat → Value} {n : Nat} (h : Thg w th n) (k : ∀ (g : Nat) (c : Array Value), w.heap[g]? = some (Obj.cells c tI (0, 0)) → x.heap[g]? = w.heap[g]?) : Thg x th n := fun i hi => by
  obtain ⟨bk, cap, h1, h2⟩ := h i hi
  exact ⟨bk, cap, h1, (k bk _ h2).trans h2⟩
theorem own_below {w x : World} {base e size n : Nat} {v : Value} {xs : List Value} (h : w.ownsRow base e size v n xs) (k : Below w.heap.size w x) : x.ownsRow base e size v n xs := own_keep h fun g hg => k.block g (h.lt g hg).2
/-- done there too -/
theorem Dn.set {w : World} {g N cap : Nat} {dm : List Bool} (h : Dn w (.slice (some ⟨g, 0, none⟩) N cap) dm) (k : Nat) (hk : k < dm.length) : Dn (w.setCell ⟨g, k, none⟩ (.bool true)) (.slice (some ⟨g, 0, none⟩) N cap) (dm.set k true) := by
  rcases h.2 with ⟨h1, _⟩ | ⟨g', cap', cur, h1, h2, h3, h4, h5, h6, h7⟩
  · cases h1
  · injection h1 with e1 e2 e3
    injection e1 with e1
    injection e1 with e1
    subst e1
    subst e3
    refine ⟨by simp, .inr ⟨g, cap, cur.setIfInBounds k (.bool true), by rw [List.length_set, e2], Nat.zero_le _, setCell_heap h3 _ _, by rw [List.length_set]; exact h4, h5, by rw [Array.size_setIfInBounds]; exact h6, ?_⟩⟩
    rw [Array.toList_setIfInBounds, List.length_set, List.take_set, h7, List.map_set]
end Go.Proofs.Ytdhljogcoooomaa.Om
