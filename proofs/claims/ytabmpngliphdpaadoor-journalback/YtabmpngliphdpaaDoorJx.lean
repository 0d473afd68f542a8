/- journal: the records at the beginning of bytes, plain. -/
import Derived.Test.YtabmpngliphdpaaDoorJr
namespace Go.Proofs.YtabmpngliphdpaaDoor.Jx
set_option linter.unusedVariables false
set_option linter.unusedSimpArgs false
open Go.RowKit Lib0 Kb Ja Jb Jk Jl Jm Jn Jo Jp Jq Jr
theorem rcd_some {l : List UInt8} {k : Int} {z : Nat} : rcd l k = some z ↔ 12 + z ≤ l.length ∧ (wl l : Int) = k ∧ z ≤ 10000000 ∧ wl (l.drop 4) = z ∧ isB ((l.drop 8).take z) = true ∧ wl (l.drop (8 + z)) = sumN (l.take (8 + z)) := by
  unfold rcd
  constructor
  · intro h
    split at h
    · cases h
    · rename_i hn
      cases h
      refine ⟨?_, ?_, ?_, rfl, ?_, ?_⟩
      · have h1 : ¬ l.length < 12 := fun e => hn (.inl e)
        have h3 : ¬ l.length - 12 < wl (l.drop 4) := fun e => hn (.inr (.inr (.inr (.inl e))))
        omega
      · exact Classical.byContradiction fun e => hn (.inr (.inl e))
      · have h2 : ¬ 10000000 < wl (l.drop 4) := fun e => hn (.inr (.inr (.inl e)))
        omega
      · cases hb : isB ((l.drop 8).take (wl (l.drop 4))) with
        | true => rfl
        | false => exact absurd (.inr (.inr (.inr (.inr (.inl hb))))) hn
      · exact Classical.byContradiction fun e => hn (.inr (.inr (.inr (.inr (.inr e)))))
  · rintro ⟨h1, h2, h3, rfl, h5, h6⟩
    rw [if_neg]
    rintro (e | e | e | e | e | e)
    · omega
    · exact e h2
    · omega
    · omega
    · rw [h5] at e; cases e
    · exact e h6
theorem getD_take {l : List UInt8} {M i : Nat} (h : i < M) : (l.take M).getD i 0 = l.getD i 0 := by
  simp only [List.getD_eq_getElem?_getD, List.getElem?_take, if_pos h]
theorem wl_take {l : List UInt8} {M : Nat} (h : 4 ≤ M) : wl (l.take M) = wl l := by
  unfold wl
  rw [getD_take (by omega), getD_take (by omega), getD_take (by omega), getD_take (by omega)]
/-- a record looks at its own bytes alone -/
theorem rcd_take {l : List UInt8} {k : Int} {z M : Nat} (h : rcd l k = some z) (hM : 12 + z ≤ M) : rcd (l.take M) k = some z := by
  obtain ⟨h1, h2, h3, h4, h5, h6⟩ := rcd_some.1 h
  refine rcd_some.2 ⟨by rw [List.length_take]; omega, by rw [wl_take (by omega)]; exact h2, h3, ?_, ?_, ?_⟩
  · rw [List.drop_take, wl_take (by omega)]; exact h4
  · rw [List.drop_take, List.take_take, Nat.min_eq_left (by omega)]; exact h5
  · rw [List.drop_take, wl_take (by omega), List.take_take, Nat.min_eq_left (by omega)]; exact h6
/-- where the records end, and how many there are -/
def cuts (l : List UInt8) : Nat → Nat → Nat → Nat × Nat
  | 0, a, n => (a, n)
  | f + 1, a, n => match rcd (l.drop a) ((n : Int) + 1) with
    | some z => cuts l f (a + (12 + z)) (n + 1)
    | none => (a, n)
theorem cuts_none {l : List UInt8} {f a n : Nat} (h : rcd (l.drop a) ((n : Int) + 1) = none) : cuts l (f + 1) a n = (a, n) := by rw [cuts, h]
theorem cuts_some {l : List UInt8} {f a n z : Nat} (h : rcd (l.drop a) ((n : Int) + 1) = some z) : cuts l (f + 1) a n = cuts l f (a + (12 + z)) (n + 1) := by rw [cuts, h]
theorem rcd_fit {l : List UInt8} {a z : Nat} {k : Int} (h : rcd (l.drop a) k = some z) : a + (12 + z) ≤ l.length := by
  have := (rcd_some.1 h).1
  rw [List.length_drop] at this
  omega
theorem cuts_ge (l : List UInt8) : ∀ f a n, a ≤ (cuts l f a n).1 ∧ n ≤ (cuts l f a n).2
  | 0, a, n => ⟨Nat.le_refl _, Nat.le_refl _⟩
  | f + 1, a, n => by
    cases h : rcd (l.drop a) ((n : Int) + 1) with
    | none => rw [cuts_none h]; exact ⟨Nat.le_refl _, Nat.le_refl _⟩
    | some z =>
      rw [cuts_some h]
      have := cuts_ge l f (a + (12 + z)) (n + 1)
      omega
theorem cuts_le (l : List UInt8) : ∀ f a n, a ≤ l.length → (cuts l f a n).1 ≤ l.length
  | 0, a, n, h => h
  | f + 1, a, n, ha => by
    cases h : rcd (l.drop a) ((n : Int) + 1) with
    | none => rw [cuts_none h]; exact ha
    | some z => rw [cuts_some h]; exact cuts_le l f _ _ (rcd_fit h)
/-- more fuel than bytes changes nothing -/
theorem cuts_fuel (l : List UInt8) : ∀ f g a n, a ≤ l.length → l.length - a < f → l.length - a < g → cuts l f a n = cuts l g a n
  | 0, g, a, n, ha, hf, hg => by omega
  | f + 1, 0, a, n, ha, hf, hg => by omega
  | f + 1, g + 1, a, n, ha, hf, hg => by
    cases h : rcd (l.drop a) ((n : Int) + 1) with
    | none => rw [cuts_none h, cuts_none h]
    | some z =>
      have := rcd_fit h
      rw [cuts_some h, cuts_some h]
      exact cuts_fuel l f g _ _ this (by omega) (by omega)
theorem rcd_nil (k : Int) : rcd [] k = none := by
  cases h : rcd [] k with
  | none => rfl
  | some z => have := (rcd_some.1 h).1; simp at this
/-- what was taken is taken again, whole -/
theorem cuts_take (l : List UInt8) : ∀ f a n, a ≤ l.length → l.length - a < f → cuts (l.take (cuts l f a n).1) f a n = cuts l f a n
  | 0, a, n, ha, hf => by omega
  | f + 1, a, n, ha, hf => by
    cases h : rcd (l.drop a) ((n : Int) + 1) with
    | none =>
      rw [cuts_none h]
      refine cuts_none ?_
      simp only
      rw [List.drop_of_length_le (by rw [List.length_take]; omega), rcd_nil]
    | some z =>
      have hfit := rcd_fit h
      have hge := (cuts_ge l f (a + (12 + z)) (n + 1)).1
      rw [cuts_some h]
      have h2 : rcd ((l.take (cuts l f (a + (12 + z)) (n + 1)).1).drop a) ((n : Int) + 1) = some z := by
        rw [List.drop_take]
        exact rcd_take h (by omega)
      rw [cuts_some h2]
      exact cuts_take l f _ _ hfit (by omega)
/-- all records at the beginning -/
def ends (l : List UInt8) : Nat × Nat := cuts l (l.length + 1) 0 0
theorem ends_le (l : List UInt8) : (ends l).1 ≤ l.length := cuts_le l _ _ _ (Nat.zero_le _)
theorem ends_take (l : List UInt8) : ends (l.take (ends l).1) = ends l := by
  have h := cuts_take l (l.length + 1) 0 0 (Nat.zero_le _) (by omega)
  unfold ends at *
  refine Eq.trans (cuts_fuel _ _ _ _ _ (Nat.zero_le _) (by omega) ?_) h
  have := List.length_take_le (cuts l (l.length + 1) 0 0).1 l
  rw [List.length_take] at *
  omega
end Go.Proofs.YtabmpngliphdpaaDoor.Jx
