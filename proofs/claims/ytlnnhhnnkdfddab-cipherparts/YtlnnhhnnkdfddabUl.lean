/- What CipherTurned asks, out of the contracts. -/
import Derived.Test.YtlnnhhnnkdfddabUn
namespace Go.Proofs.Ytlnnhhnnkdfddab.Ul
set_option linter.unusedVariables false
open Go.RowKit Pla Cb Wd Nw Bk Eb Et Pm Pc Bl Un
def RetS (s : ByteArray) (w : World) : Ending → World → Prop := fun e w' => e = .returned (.string s) ∧ Below w.heap.size w w'
theorem turn_all (r t : ByteArray) (p N : Nat) (hr : r.size = 8 + 8 * p) (hp : p < 3) (hN : t.size = 8 * N) (hN2 : N ≤ 100) :
    ∃ A KO TO AO : ByteArray, A.size = t.size ∧
      (∀ u, Calls Try.prog 11 #[.string r, .string t] u (RetS A u)) ∧
      (∀ u, Calls Try.prog 12 #[.string r] u (RetS KO u)) ∧
      (∀ u, Calls Try.prog 12 #[.string t] u (RetS TO u)) ∧
      (∀ u, Calls Try.prog 11 #[.string KO, .string TO] u (RetS AO u)) ∧
      (∀ u, Calls Try.prog 12 #[.string A] u (RetS AO u)) := by
  have hl : t.data.toList.length = 8 * N := by rw [len_size, hN]
  have hrl : r.data.toList.length = 8 + 8 * p := by rw [len_size, hr]
  have hr3 : r.data.toList.length = 8 ∨ r.data.toList.length = 16 ∨ r.data.toList.length = 24 := by omega
  have sz : ∀ (L : List UInt8) (m : Nat), L.length = m → (ByteArray.mk L.toArray).size = m := fun L m h => by show L.toArray.size = _; simpa using h
  have dl : ∀ L : List UInt8, (ByteArray.mk L.toArray).data.toList = L := fun L => by simp
  have sA : (ByteArray.mk (mapB (enc r.data.toList) t.data.toList).toArray).size = 8 * N := sz _ _ (mapB_len _ _ N hl)
  refine ⟨⟨(mapB (enc r.data.toList) t.data.toList).toArray⟩, ⟨(ovr r.data.toList).toArray⟩, ⟨(ovr t.data.toList).toArray⟩, ⟨(ovr (mapB (enc r.data.toList) t.data.toList)).toArray⟩, by rw [sA, hN], ?_, ?_, ?_, ?_, ?_⟩
  · intro u; exact under_any r t (p + 1) N (kind_p r p hr hp) (by omega) (by omega) hN (by omega) u
  · intro u; exact over_any r (by omega) u
  · intro u; exact over_any t (by omega) u
  · intro u
    have h := under_any ⟨(ovr r.data.toList).toArray⟩ ⟨(ovr t.data.toList).toArray⟩ (p + 1) N (kind_p _ p (by rw [sz _ (8 + 8 * p) (by rw [ovr_len, hrl])]) hp) (by omega) (by omega) (sz _ _ (by rw [ovr_len, hl])) (by omega) u
    rw [dl, dl, map_ovr _ _ N hr3 hl] at h
    exact h
  · intro u
    have h := over_any ⟨(mapB (enc r.data.toList) t.data.toList).toArray⟩ (by rw [sA]; omega) u
    rw [dl] at h
    exact h
end Go.Proofs.Ytlnnhhnnkdfddab.Ul
