/- Plain: a stable sort of places by what stands there, in place. -/
import Derived.Test.YtaacocliclibgaaRows
namespace Go.Proofs.Ytaacocliclibgaa.So
set_option linter.unusedVariables false
/-- x goes ahead of y: more stands there, or as much and x is the lesser place -/
def lt (key : Nat → Int) (x y : Nat) : Prop := key y < key x ∨ (key x = key y ∧ x < y)
theorem lt_trans {key : Nat → Int} {x y z : Nat} (h1 : lt key x y) (h2 : lt key y z) : lt key x z := by
  unfold lt at *; omega
theorem lt_of_more {key : Nat → Int} {x y : Nat} (h : key y < key x) : lt key x y := Or.inl h
theorem lt_of_not {key : Nat → Int} {x y : Nat} (hxy : y < x) (h : ¬ key y < key x) : lt key y x := by
  unfold lt; omega
theorem lt_irrefl {key : Nat → Int} {x : Nat} : ¬ lt key x x := by unfold lt; omega
theorem lt_asymm {key : Nat → Int} {x y : Nat} (h : lt key x y) : ¬ lt key y x := by unfold lt at *; omega
theorem lt_total {key : Nat → Int} {x y : Nat} (h : x ≠ y) : lt key x y ∨ lt key y x := by unfold lt; omega
def Srt (key : Nat → Int) (f : Nat → Nat) (a b : Nat) : Prop := ∀ i j, a ≤ i → i < j → j < b → lt key (f i) (f j)
/-- outside nothing has turned; within each stands somewhere still -/
structure Mix (f g : Nat → Nat) (a b : Nat) : Prop where
  out : ∀ k, (k < a ∨ b ≤ k) → g k = f k
  fwd : ∀ k, a ≤ k → k < b → ∃ j, a ≤ j ∧ j < b ∧ g k = f j
  bwd : ∀ k, a ≤ k → k < b → ∃ j, a ≤ j ∧ j < b ∧ f k = g j
theorem Mix.refl (f : Nat → Nat) (a b : Nat) : Mix f f a b := ⟨fun _ _ => rfl, fun k h1 h2 => ⟨k, h1, h2, rfl⟩, fun k h1 h2 => ⟨k, h1, h2, rfl⟩⟩
theorem Mix.trans {f g h : Nat → Nat} {a b : Nat} (m1 : Mix f g a b) (m2 : Mix g h a b) : Mix f h a b :=
  ⟨fun k hk => (m2.out k hk).trans (m1.out k hk),
   fun k h1 h2 => by
    obtain ⟨j, j1, j2, e⟩ := m2.fwd k h1 h2
    obtain ⟨i, i1, i2, e2⟩ := m1.fwd j j1 j2
    exact ⟨i, i1, i2, e.trans e2⟩,
   fun k h1 h2 => by
    obtain ⟨j, j1, j2, e⟩ := m1.bwd k h1 h2
    obtain ⟨i, i1, i2, e2⟩ := m2.bwd j j1 j2
    exact ⟨i, i1, i2, e.trans e2⟩⟩
theorem Mix.wide {f g : Nat → Nat} {a b c d : Nat} (m : Mix f g a b) (h1 : c ≤ a) (h2 : b ≤ d) : Mix f g c d :=
  ⟨fun k hk => m.out k (by omega),
   fun k k1 k2 => by
    by_cases h : a ≤ k ∧ k < b
    · obtain ⟨j, j1, j2, e⟩ := m.fwd k h.1 h.2
      exact ⟨j, by omega, by omega, e⟩
    · exact ⟨k, k1, k2, m.out k (by omega)⟩,
   fun k k1 k2 => by
    by_cases h : a ≤ k ∧ k < b
    · obtain ⟨j, j1, j2, e⟩ := m.bwd k h.1 h.2
      exact ⟨j, by omega, by omega, e⟩
    · exact ⟨k, k1, k2, (m.out k (by omega)).symm⟩⟩
/-- two places exchanged -/
def swp (f : Nat → Nat) (x y : Nat) : Nat → Nat := fun k => if k = x then f y else if k = y then f x else f k
theorem swp_mix (f : Nat → Nat) (x y a b : Nat) (h1 : a ≤ x) (h2 : x < b) (h3 : a ≤ y) (h4 : y < b) : Mix f (swp f x y) a b := by
  refine ⟨fun k hk => ?_, fun k k1 k2 => ?_, fun k k1 k2 => ?_⟩
  · simp only [swp]; rw [if_neg (by omega), if_neg (by omega)]
  · simp only [swp]
    split
    · exact ⟨y, h3, h4, rfl⟩
    · split
      · exact ⟨x, h1, h2, rfl⟩
      · exact ⟨k, k1, k2, rfl⟩
  · by_cases e1 : k = x
    · refine ⟨y, h3, h4, ?_⟩
      simp only [swp]; split
      · rename_i h; rw [e1, h]
      · simp [e1]
    · by_cases e2 : k = y
      · exact ⟨x, h1, h2, by simp only [swp, if_pos]; rw [e2]⟩
      · exact ⟨k, k1, k2, by simp only [swp]; rw [if_neg e1, if_neg e2]⟩
/-! exchanging two stretches -/
def swR (f : Nat → Nat) (a b n : Nat) : Nat → Nat := fun k => if a ≤ k ∧ k < a + n then f (k - a + b) else if b ≤ k ∧ k < b + n then f (k - b + a) else f k
theorem swR_step (f : Nat → Nat) (a b n i : Nat) (hab : a + n ≤ b) (hi : i < n) : swp (swR f a b i) (a + i) (b + i) = swR f a b (i + 1) := by
  funext k
  simp only [swp, swR]
  repeat' split
  all_goals first | rfl | (exfalso; omega) | (congr 1; omega)
theorem swR_zero (f : Nat → Nat) (a b : Nat) : swR f a b 0 = f := by
  funext k; simp only [swR]; rw [if_neg (by omega), if_neg (by omega)]
/-! rotating -/
def rot (f : Nat → Nat) (a m b : Nat) : Nat → Nat := fun k => if a ≤ k ∧ k < a + (b - m) then f (k + (m - a)) else if a + (b - m) ≤ k ∧ k < b then f (k - (b - m)) else f k
theorem rot_more (f : Nat → Nat) (m i j : Nat) (hi : i ≤ m) (hij : j < i) : rot (swR f (m - i) m j) (m - i + j) m (m + j) = rot f (m - i) m (m + j) := by
  funext k
  simp only [rot, swR]
  repeat' split
  all_goals first | rfl | (exfalso; omega) | (congr 1; omega)
theorem rot_less (f : Nat → Nat) (m i j : Nat) (hi : i ≤ m) (hij : i < j) : rot (swR f (m - i) (m + j - i) i) (m - i) m (m + (j - i)) = rot f (m - i) m (m + j) := by
  funext k
  simp only [rot, swR]
  repeat' split
  all_goals first | rfl | (exfalso; omega) | (congr 1; omega)
theorem rot_even (f : Nat → Nat) (m i : Nat) (hi : i ≤ m) : swR f (m - i) m i = rot f (m - i) m (m + i) := by
  funext k
  simp only [rot, swR]
  repeat' split
  all_goals first | rfl | (exfalso; omega) | (congr 1; omega)
theorem rot_mix (f : Nat → Nat) (a m b : Nat) (h1 : a ≤ m) (h2 : m ≤ b) : Mix f (rot f a m b) a b := by
  refine ⟨fun k hk => ?_, fun k k1 k2 => ?_, fun k k1 k2 => ?_⟩
  · simp only [rot]; rw [if_neg (by omega), if_neg (by omega)]
  · simp only [rot]
    split
    · exact ⟨k + (m - a), by omega, by omega, rfl⟩
    · rw [if_pos (by omega)]; exact ⟨k - (b - m), by omega, by omega, rfl⟩
  · by_cases hk : k < m
    · refine ⟨k + (b - m), by omega, by omega, ?_⟩
      simp only [rot]; rw [if_neg (by omega), if_pos (by omega)]; congr 1; omega
    · refine ⟨k - (m - a), by omega, by omega, ?_⟩
      simp only [rot]; rw [if_pos (by omega)]; congr 1; omega
end Go.Proofs.Ytaacocliclibgaa.So
