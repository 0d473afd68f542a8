/- A row of a key's bytes whose lowest bits are turned. -/
import Derived.Test.YtdgiekaiagpdjaaPa
import Derived.Test.YtdgiekaiagpdjaaSb
namespace Go.Proofs.Ytdgiekaiagpdjaa.Pb
set_option linter.unusedVariables false
open Go.RowKit Pla Cb Wd Nw Bk Eb Et Pm Pc Bl Un Ul Lo Od Wk Pa
/-- the row holds these bytes, which are those of s but for their lowest bits -/
def Rw (s : ByteArray) (l : List UInt8) (A : Array Value) : Prop := l.length = s.size ∧ s.size ≤ A.size ∧ Alk l s.data.toList ∧ ∀ i (h : i < l.length), A[i]? = some (.int .u8 (l[i].toNat : Int))
theorem low_all : ∀ c : Fin 256, (UInt8.ofNat c.val ^^^ 1).toNat / 2 = c.val / 2 := by decide +kernel
theorem low_half (x : UInt8) : (x ^^^ 1).toNat / 2 = x.toNat / 2 := by
  have h := low_all ⟨x.toNat, x.toNat_lt⟩
  rw [show UInt8.ofNat (⟨x.toNat, x.toNat_lt⟩ : Fin 256).val = x from UInt8.ofNat_toNat] at h
  exact h
theorem rw_zero (s : ByteArray) (C : Nat) : Rw s s.data.toList (bytesRow s C) := by
  refine ⟨by simp, by simp [bytesRow], fun _ => rfl, fun i h => ?_⟩
  have h' : i < s.size := by simpa using h
  rw [bytesRow_at s C i h']; rfl
theorem rw_set (s : ByteArray) (l : List UInt8) (A : Array Value) (j : Nat) (h : Rw s l A) (hj : j < l.length) : Rw s (l.set j (l[j] ^^^ 1)) (A.setIfInBounds j (.int .u8 ((l[j] ^^^ 1).toNat : Int))) := by
  refine ⟨by simpa using h.1, by simpa using h.2.1, fun t => ?_, fun i hi => ?_⟩
  · rw [← h.2.2.1 t]
    by_cases e : j = t
    · subst e
      rw [List.getD_eq_getElem?_getD, List.getD_eq_getElem?_getD, List.getElem?_set_self hj, List.getElem?_eq_getElem hj]
      exact low_half _
    · rw [List.getD_eq_getElem?_getD, List.getD_eq_getElem?_getD, List.getElem?_set_ne e]
  · have hi' : i < l.length := by simpa using hi
    rw [Array.getElem?_setIfInBounds]
    by_cases e : j = i
    · subst e
      rw [if_pos rfl, if_pos (by have := h.2.1; have := h.1; omega)]
      simp
    · rw [if_neg e, h.2.2.2 i hi', List.getElem_set_ne e]
theorem rw_str {P : Program} {w : World} {src dst e : TypeId} {g C : Nat} {s : ByteArray} {l : List UInt8} {A : Array Value} {t : TypeId} {fr : Nat × Nat} (h : Rw s l A) (hs : P.underlying src = some (.slice e)) (he : P.underlying e = some (.int .u8)) (hd : P.underlying dst = some .string)
    (hg : w.heap[g]? = some (.cells A t fr)) : (convert src dst (.slice (some ⟨g, 0, none⟩) l.length C)).run P w = .ok (.string ⟨l.toArray⟩) w :=
  run_convert_bytes_back (P := P) w src dst e ⟨g, 0, none⟩ C l hs he hd (fun j hj => by
    rw [show (⟨g, 0, none⟩ : Addr).add j = ⟨g, j, none⟩ by unfold Addr.add; split <;> simp_all, cell_of_row w g j _ t fr hg, h.2.2.2 j hj])
end Go.Proofs.Ytdgiekaiagpdjaa.Pb
