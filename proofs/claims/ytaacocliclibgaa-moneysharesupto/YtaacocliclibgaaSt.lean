/- Plain: merging two stretches that are in order. -/
import Derived.Test.YtaacocliclibgaaSo
namespace Go.Proofs.Ytaacocliclibgaa.St
set_option linter.unusedVariables false
open So
/-- each place of the lower stretch is less than each of the upper -/
def Apart (f : Nat → Nat) (a m b : Nat) : Prop := ∀ i j, a ≤ i → i < m → m ≤ j → j < b → f i < f j
theorem srt_sub {key : Nat → Int} {f : Nat → Nat} {a b c d : Nat} (h : Srt key f a b) (h1 : a ≤ c) (h2 : d ≤ b) : Srt key f c d := fun i j i1 i2 i3 => h i j (by omega) i2 (by omega)
theorem srt_join {key : Nat → Int} {f : Nat → Nat} {a m b : Nat} (h1 : Srt key f a m) (h2 : Srt key f m b) (h3 : ∀ i j, a ≤ i → i < m → m ≤ j → j < b → lt key (f i) (f j)) : Srt key f a b := fun i j i1 i2 i3 => by
  by_cases hj : j < m
  · exact h1 i j i1 i2 hj
  · by_cases hi : i < m
    · exact h3 i j i1 hi (by omega) i3
    · exact h2 i j (by omega) i2 i3
/-! one place that is laid in -/
theorem rot_id (f : Nat → Nat) (a m b : Nat) (h : a = m ∨ b ≤ m) : rot f a m (max m b) = f := by
  funext k
  simp only [rot]
  repeat' split
  all_goals first | rfl | (exfalso; omega) | (congr 1; omega)
theorem rot_up (f : Nat → Nat) (a k : Nat) (h : a ≤ k) : swp (rot f a (a + 1) (k + 1)) k (k + 1) = rot f a (a + 1) (k + 2) := by
  funext x
  simp only [swp, rot]
  repeat' split
  all_goals first | rfl | (exfalso; omega) | (congr 1; omega)
theorem rot_down (f : Nat → Nat) (m k : Nat) (h : k + 1 ≤ m) : swp (rot f (k + 1) m (m + 1)) (k + 1) k = rot f k m (m + 1) := by
  funext x
  simp only [swp, rot]
  repeat' split
  all_goals first | rfl | (exfalso; omega) | (congr 1; omega)
theorem lay_first {key : Nat → Int} {f : Nat → Nat} {a b i : Nat} (h1 : a + 1 ≤ i) (h2 : i ≤ b) (hs : Srt key f (a + 1) b) (hl : ∀ j, a + 1 ≤ j → j < i → lt key (f j) (f a)) (hr : ∀ j, i ≤ j → j < b → lt key (f a) (f j)) : Srt key (rot f a (a + 1) i) a b := by
  have e1 : ∀ k, a ≤ k → k + 1 < i → rot f a (a + 1) i k = f (k + 1) := fun k k1 k2 => by simp only [rot]; rw [if_pos (by omega)]; congr 1; omega
  have e2 : rot f a (a + 1) i (i - 1) = f a := by simp only [rot]; rw [if_neg (by omega), if_pos (by omega)]; congr 1; omega
  have e3 : ∀ k, i ≤ k → rot f a (a + 1) i k = f k := fun k k1 => by simp only [rot]; rw [if_neg (by omega), if_neg (by omega)]
  intro p q p1 p2 p3
  by_cases hq : q + 1 < i
  · rw [e1 p p1 (by omega), e1 q (by omega) hq]; exact hs _ _ (by omega) (by omega) (by omega)
  · by_cases hq2 : q = i - 1
    · rw [hq2, e2, e1 p p1 (by omega)]; exact hl _ (by omega) (by omega)
    · rw [e3 q (by omega)]
      by_cases hp : p + 1 < i
      · rw [e1 p p1 hp]; exact hs _ _ (by omega) (by omega) p3
      · by_cases hp2 : p = i - 1
        · rw [hp2, e2]; exact hr _ (by omega) p3
        · rw [e3 p (by omega)]; exact hs _ _ (by omega) p2 p3
theorem lay_last {key : Nat → Int} {f : Nat → Nat} {a m i : Nat} (h1 : a ≤ i) (h2 : i ≤ m) (hs : Srt key f a m) (hl : ∀ j, a ≤ j → j < i → lt key (f j) (f m)) (hr : ∀ j, i ≤ j → j < m → lt key (f m) (f j)) : Srt key (rot f i m (m + 1)) a (m + 1) := by
  have e1 : ∀ k, k < i → rot f i m (m + 1) k = f k := fun k k1 => by simp only [rot]; rw [if_neg (by omega), if_neg (by omega)]
  have e2 : rot f i m (m + 1) i = f m := by simp only [rot]; rw [if_pos (by omega)]; congr 1; omega
  have e3 : ∀ k, i < k → k ≤ m → rot f i m (m + 1) k = f (k - 1) := fun k k1 k2 => by simp only [rot]; rw [if_neg (by omega), if_pos (by omega)]; congr 1; omega
  intro p q p1 p2 p3
  by_cases hq : q < i
  · rw [e1 p (by omega), e1 q hq]; exact hs _ _ p1 p2 (by omega)
  · by_cases hq2 : q = i
    · rw [hq2, e2, e1 p (by omega)]; exact hl _ p1 (by omega)
    · rw [e3 q (by omega) (by omega)]
      by_cases hp : p < i
      · rw [e1 p hp]; exact hs _ _ p1 (by omega) (by omega)
      · by_cases hp2 : p = i
        · rw [hp2, e2]; exact hr _ (by omega) (by omega)
        · rw [e3 p (by omega) (by omega)]; exact hs _ _ (by omega) (by omega) (by omega)
/-! the middle: what was found by halves -/
structure Cut (key : Nat → Int) (f : Nat → Nat) (N s : Nat) (lo hi : Nat) : Prop where
  low : ∀ c, lo ≤ c → c < s → lt key (f c) (f (N - 1 - c))
  high : ∀ c, s ≤ c → c < hi → lt key (f (N - 1 - c)) (f c)
theorem cut_parts {key : Nat → Int} {f : Nat → Nat} {a m b s : Nat} (ham : a < m) (hmb : m < b) (h1 : Srt key f a m) (h2 : Srt key f m b) (h3 : Apart f a m b)
    (hb : if (a + b) / 2 < m then (a + b) / 2 + m - b ≤ s ∧ s ≤ (a + b) / 2 else a ≤ s ∧ s ≤ m)
    (hc : Cut key f ((a + b) / 2 + m) s (if (a + b) / 2 < m then (a + b) / 2 + m - b else a) (if (a + b) / 2 < m then (a + b) / 2 else m)) :
    ∀ g, g = rot f s m ((a + b) / 2 + m - s) → Srt key g a s ∧ Srt key g s ((a + b) / 2) ∧ Srt key g ((a + b) / 2) ((a + b) / 2 + m - s) ∧ Srt key g ((a + b) / 2 + m - s) b ∧ Apart g a s ((a + b) / 2) ∧ Apart g ((a + b) / 2) ((a + b) / 2 + m - s) b ∧
      (∀ i j, a ≤ i → i < (a + b) / 2 → (a + b) / 2 ≤ j → j < b → lt key (g i) (g j)) := by
  intro g hg
  generalize hM : (a + b) / 2 = M at *
  have hM1 : a + b = 2 * M ∨ a + b = 2 * M + 1 := by omega
  obtain ⟨s1, s2, s3⟩ : a ≤ s ∧ s ≤ m ∧ s ≤ M := by split at hb <;> omega
  have s4 : M + m - s ≤ b := by split at hb <;> omega
  have g1 : ∀ k, k < s → g k = f k := fun k hk => by rw [hg]; simp only [rot]; rw [if_neg (by omega), if_neg (by omega)]
  have g2 : ∀ k, s ≤ k → k < M → g k = f (k + (m - s)) := fun k k1 k2 => by rw [hg]; simp only [rot]; rw [if_pos (by omega)]
  have g3 : ∀ k, M ≤ k → k < M + m - s → g k = f (k - (M - s)) := fun k k1 k2 => by
    rw [hg]; simp only [rot]; rw [if_neg (by omega), if_pos (by omega)]; congr 1; omega
  have g4 : ∀ k, M + m - s ≤ k → g k = f k := fun k k1 => by rw [hg]; simp only [rot]; rw [if_neg (by omega), if_neg (by omega)]
  -- the four crossings
  have x1 : ∀ i j, a ≤ i → i < s → M + m - s ≤ j → j < b → lt key (f i) (f j) := fun i j i1 i2 j1 j2 => by
    have hl : lt key (f (s - 1)) (f (M + m - s)) := by
      have := hc.low (s - 1) (by split at hb <;> split <;> omega) (by omega)
      rwa [show M + m - 1 - (s - 1) = M + m - s by omega] at this
    have l1 : i = s - 1 ∨ lt key (f i) (f (s - 1)) := by
      by_cases e : i = s - 1
      · exact Or.inl e
      · exact Or.inr (h1 i (s - 1) i1 (by omega) (by omega))
    have l2 : j = M + m - s ∨ lt key (f (M + m - s)) (f j) := by
      by_cases e : j = M + m - s
      · exact Or.inl e
      · exact Or.inr (h2 _ j (by omega) (by omega) j2)
    rcases l1 with e1 | e1
    · rw [e1]
      rcases l2 with e2 | e2
      · rw [e2]; exact hl
      · exact lt_trans hl e2
    · rcases l2 with e2 | e2
      · rw [e2]; exact lt_trans e1 hl
      · exact lt_trans e1 (lt_trans hl e2)
  have x2 : ∀ i j, m ≤ i → i < M + m - s → s ≤ j → j < m → lt key (f i) (f j) := fun i j i1 i2 j1 j2 => by
    have hl : lt key (f (M + m - 1 - s)) (f s) := hc.high s (Nat.le_refl _) (by split at hb <;> split <;> omega)
    have l1 : i = M + m - 1 - s ∨ lt key (f i) (f (M + m - 1 - s)) := by
      by_cases e : i = M + m - 1 - s
      · exact Or.inl e
      · exact Or.inr (h2 i _ i1 (by omega) (by omega))
    have l2 : j = s ∨ lt key (f s) (f j) := by
      by_cases e : j = s
      · exact Or.inl e
      · exact Or.inr (h1 s j (by omega) (by omega) j2)
    rcases l1 with e1 | e1
    · rw [e1]
      rcases l2 with e2 | e2
      · rw [e2]; exact hl
      · exact lt_trans hl e2
    · rcases l2 with e2 | e2
      · rw [e2]; exact lt_trans e1 hl
      · exact lt_trans e1 (lt_trans hl e2)
  refine ⟨fun i j i1 i2 i3 => ?_, fun i j i1 i2 i3 => ?_, fun i j i1 i2 i3 => ?_, fun i j i1 i2 i3 => ?_, fun i j i1 i2 j1 j2 => ?_, fun i j i1 i2 j1 j2 => ?_, fun i j i1 i2 j1 j2 => ?_⟩
  · rw [g1 i (by omega), g1 j i3]; exact h1 i j i1 i2 (by omega)
  · rw [g2 i i1 (by omega), g2 j (by omega) i3]; exact h2 _ _ (by omega) (by omega) (by omega)
  · rw [g3 i i1 (by omega), g3 j (by omega) i3]; exact h1 _ _ (by omega) (by omega) (by omega)
  · rw [g4 i i1, g4 j (by omega)]; exact h2 i j (by omega) i2 i3
  · rw [g1 i i2, g2 j j1 j2]; exact h3 _ _ i1 (by omega) (by omega) (by omega)
  · rw [g3 i i1 i2, g4 j j1]; exact h3 _ _ (by omega) (by omega) (by omega) j2
  · by_cases hi : i < s
    · rw [g1 i hi]
      by_cases hj : j < M + m - s
      · rw [g3 j j1 hj]; exact h1 _ _ i1 (by omega) (by omega)
      · rw [g4 j (by omega)]; exact x1 i j i1 hi (by omega) j2
    · rw [g2 i (by omega) i2]
      by_cases hj : j < M + m - s
      · rw [g3 j j1 hj]; exact x2 _ _ (by omega) (by omega) (by omega) (by omega)
      · rw [g4 j (by omega)]; exact h2 _ _ (by omega) (by omega) j2
/-- the two halves, each put in order, are in order -/
theorem halves {key : Nat → Int} {g c d : Nat → Nat} {a M b : Nat} (haM : a ≤ M) (hMb : M ≤ b) (hx : ∀ i j, a ≤ i → i < M → M ≤ j → j < b → lt key (g i) (g j)) (m1 : Mix g c a M) (s1 : Srt key c a M) (m2 : Mix c d M b) (s2 : Srt key d M b) : Srt key d a b := by
  refine srt_join (m := M) (fun i j i1 i2 i3 => ?_) s2 (fun i j i1 i2 j1 j2 => ?_)
  · rw [m2.out i (by omega), m2.out j (by omega)]; exact s1 i j i1 i2 i3
  · rw [m2.out i (by omega)]
    obtain ⟨i', p1, p2, e1⟩ := m1.fwd i i1 i2
    obtain ⟨j', q1, q2, e2⟩ := m2.fwd j j1 j2
    rw [e1, e2, m1.out j' (by omega)]
    exact hx i' j' p1 p2 q1 q2
theorem apart_mix {f g : Nat → Nat} {a m b x y : Nat} (h : Apart f a m b) (hm : Mix f g x y) (h1 : y ≤ a ∨ b ≤ x) : Apart g a m b := fun i j i1 i2 j1 j2 => by
  rw [hm.out i (by omega), hm.out j (by omega)]; exact h i j i1 i2 j1 j2
theorem srt_mix {key : Nat → Int} {f g : Nat → Nat} {a b x y : Nat} (h : Srt key f a b) (hm : Mix f g x y) (h1 : y ≤ a ∨ b ≤ x) : Srt key g a b := fun i j i1 i2 i3 => by
  rw [hm.out i (by omega), hm.out j (by omega)]; exact h i j i1 i2 i3
end Go.Proofs.Ytaacocliclibgaa.St
