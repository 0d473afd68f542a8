/- Plain: the document's way to deal out what is left: the greatest rest, again and again. -/
import Derived.Test.YtaacocliclibgaaSa
namespace Go.Proofs.Ytaacocliclibgaa.Dp
set_option linter.unusedVariables false
open Sl So Sa
/-- the first of the greatest -/
structure FM (f : Nat → Int) (k n : Nat) : Prop where
  lt : k < n
  le : ∀ i, i < n → f i ≤ f k
  st : ∀ i, i < k → f i < f k
theorem FM.uniq {f : Nat → Int} {k k' n : Nat} (h : FM f k n) (h' : FM f k' n) : k = k' := by
  rcases Nat.lt_trichotomy k k' with e | e | e
  · have := h'.st k e; have := h.le k' h'.lt; omega
  · exact e
  · have := h.st k' e; have := h'.le k h.lt; omega
theorem FM.one (f : Nat → Int) : FM f 0 1 := ⟨by omega, fun i hi => by obtain rfl : i = 0 := by omega
                                                                       exact Int.le_refl _, fun i hi => by omega⟩
theorem FM.keep {f : Nat → Int} {k n : Nat} (h : FM f k n) (hn : ¬ f k < f n) : FM f k (n + 1) :=
  ⟨by have := h.lt; omega, fun i hi => by
    by_cases e : i = n
    · subst e; omega
    · exact h.le i (by omega), h.st⟩
theorem FM.turn {f : Nat → Int} {k n : Nat} (h : FM f k n) (hn : f k < f n) : FM f n (n + 1) :=
  ⟨by omega, fun i hi => by
    by_cases e : i = n
    · subst e; exact Int.le_refl _
    · have := h.le i (by omega); omega, fun i hi => by have := h.le i hi; omega⟩
/-- the rests, those that were taken gone -/
def rj (key : Nat → Int) (c : Nat → Nat) : Nat → Nat → Int
  | 0 => key
  | j + 1 => Sl.updI (rj key c j) (c j) (-1)
theorem rj_is (key : Nat → Int) (c : Nat → Nat) : ∀ j i, (∃ m, m < j ∧ c m = i ∧ rj key c j i = -1) ∨ ((∀ m, m < j → c m ≠ i) ∧ rj key c j i = key i)
  | 0, i => .inr ⟨fun m h => by omega, rfl⟩
  | j + 1, i => by
    by_cases e : i = c j
    · exact .inl ⟨j, by omega, e.symm, by simp [rj, Sl.updI, e]⟩
    · have hu : rj key c (j + 1) i = rj key c j i := by simp [rj, Sl.updI, e]
      rcases rj_is key c j i with ⟨m, h1, h2, h3⟩ | ⟨h1, h2⟩
      · exact .inl ⟨m, by omega, h2, hu.trans h3⟩
      · refine .inr ⟨fun m hm he => ?_, hu.trans h2⟩
        by_cases e2 : m = j
        · subst e2; exact e he.symm
        · exact h1 m (by omega) he
theorem next {key : Nat → Int} {c : Nat → Nat} {N : Nat} (hm : Mix id c 0 N) (hs : Srt key c 0 N) (hc : ∀ k, k < N → c k < N) (h0 : ∀ i, i < N → 0 ≤ key i) {j : Nat} (hj : j < N) : FM (rj key c j) (c j) N := by
  have hcj : rj key c j (c j) = key (c j) := by
    rcases rj_is key c j (c j) with ⟨m, h1, h2, h3⟩ | ⟨h1, h2⟩
    · have := hs m j (by omega) h1 hj
      rw [h2] at this
      exact (lt_irrefl this).elim
    · exact h2
  have hcc := hc j hj
  refine ⟨hcc, fun i hi => ?_, fun i hi => ?_⟩
  · rw [hcj]
    rcases rj_is key c j i with ⟨m, h1, h2, h3⟩ | ⟨h1, h2⟩
    · rw [h3]; have := h0 _ hcc; omega
    · rw [h2]
      obtain ⟨m, m1, m2, e⟩ := hm.bwd i (by omega) hi
      simp only [id] at e
      by_cases e2 : m = j
      · subst e2; rw [e]; exact Int.le_refl _
      · have hjm : j < m := by
          rcases Nat.lt_or_ge m j with h | h
          · exact absurd e.symm (h1 m h)
          · omega
        have := hs j m (by omega) hjm m2
        rw [← e] at this
        unfold lt at this; omega
  · rw [hcj]
    rcases rj_is key c j i with ⟨m, h1, h2, h3⟩ | ⟨h1, h2⟩
    · rw [h3]; have := h0 _ hcc; omega
    · rw [h2]
      obtain ⟨m, m1, m2, e⟩ := hm.bwd i (by omega) (by omega)
      simp only [id] at e
      have hjm : j < m := by
        rcases Nat.lt_trichotomy m j with h | h | h
        · exact absurd e.symm (h1 m h)
        · subst h; omega
        · exact h
      have := hs j m (by omega) hjm m2
      rw [← e] at this
      unfold lt at this; omega
end Go.Proofs.Ytaacocliclibgaa.Dp
