/- Bytes of a text in a row of their own. -/
import Derived.Test.YtbdkflfgmdcciabKb
import Derived.Test.YtbdkflfgmdcciabKp
import Derived.Laws.IdiomStrings
namespace Go.Proofs.Ytbdkflfgmdcciab.Rw
set_option linter.unusedVariables false
open Go.RowKit Lib0 Kp Kb
/-- the first cells of a block are these bytes -/
structure Row (W : World) (G : Nat) (l : List UInt8) : Prop where
  ex : ∃ (cs : Array Value) (t : TypeId) (fr : Nat × Nat), W.heap[G]? = some (.cells cs t fr) ∧ cs.size ≤ fr.1 ∧ (∀ j (h : j < l.length), cs[j]? = some (.int .u8 (l[j].toNat : Int)))
theorem Row.cell {W : World} {G : Nat} {l : List UInt8} (h : Row W G l) (j : Nat) (hj : j < l.length) : W.cell? ⟨G, j, none⟩ = some (.int .u8 (l[j].toNat : Int)) := by
  obtain ⟨cs, t, fr, h1, h2, h3⟩ := h.ex
  simp [World.cell?, h1, h3 j hj]
theorem Row.free {W : World} {G : Nat} {l : List UInt8} (h : Row W G l) (j : Nat) (hj : j < l.length) : W.frozen? ⟨G, j, none⟩ = false := by
  obtain ⟨cs, t, fr, h1, h2, h3⟩ := h.ex
  have hl : j < cs.size := (Array.getElem?_eq_some_iff.1 (h3 j hj)).1
  simp [World.frozen?, h1]
  omega
theorem Row.set {W : World} {G : Nat} {l : List UInt8} (h : Row W G l) (k : Nat) (c : UInt8) : Row (W.setCell ⟨G, k, none⟩ (.int .u8 (c.toNat : Int))) G (l.set k c) := by
  obtain ⟨cs, t, fr, h1, h2, h3⟩ := h.ex
  refine ⟨cs.setIfInBounds k (.int .u8 (c.toNat : Int)), t, fr, ?_, by simpa using h2, ?_⟩
  · show (W.heap.modify G _)[G]? = _
    rw [Array.getElem?_modify]; simp [h1]
  · intro j hj
    rw [List.length_set] at hj
    rw [Array.getElem?_setIfInBounds]
    by_cases e : k = j
    · subst e
      have hl : k < cs.size := (Array.getElem?_eq_some_iff.1 (h3 k hj)).1
      rw [if_pos rfl, if_pos hl, List.getElem_set_self]
    · rw [if_neg e, List.getElem_set_ne e, h3 j hj]
theorem Row.kept {W W' : World} {G : Nat} {l : List UInt8} (h : Row W G l) (hb : Below W.heap.size W W') : Row W' G l := by
  obtain ⟨cs, t, fr, h1, h2, h3⟩ := h.ex
  exact ⟨cs, t, fr, Kb.kept hb h1, h2, h3⟩
theorem Row.of (w : World) (s : ByteArray) (C : Nat) (e : TypeId) : Row (w.drew.alloc (.cells (bytesRow s C) e ((bytesRow s C).size, (bytesRow s C).size + 1))) w.heap.size s.data.toList := by
  refine ⟨_, _, _, h1_0 w.drew _, Nat.le_refl _, fun j hj => ?_⟩
  unfold bytesRow
  have hj' : j < s.data.size := by simpa using hj
  rw [Array.getElem?_append_left (by simpa using hj')]
  simp
  exact ⟨_, Array.getElem?_eq_getElem hj', rfl⟩
theorem Row.back {P : Program} {W : World} {G cap : Nat} {l : List UInt8} {src dst e : TypeId} (h : Row W G l) (hs : P.underlying src = some (.slice e)) (he : P.underlying e = some (.int .u8)) (hd : P.underlying dst = some .string) :
    (convert src dst (.slice (some ⟨G, 0, none⟩) l.length cap)).run P W = .ok (.string ⟨l.toArray⟩) W := by
  refine run_convert_bytes_back (P := P) W src dst e ⟨G, 0, none⟩ cap l hs he hd (fun j hj => ?_)
  rw [show (⟨G, 0, none⟩ : Addr).add j = ⟨G, j, none⟩ by unfold Addr.add; split <;> simp_all]
  exact h.cell j hj
end Go.Proofs.Ytbdkflfgmdcciab.Rw
