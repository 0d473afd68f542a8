/- Plain: blocks that are in order, and twice as great ones. -/
import Derived.Test.YtaacocliclibgaaSt
namespace Go.Proofs.Ytaacocliclibgaa.Sv
set_option linter.unusedVariables false
open So St
/-- up to a: blocks of D are in order; behind it: blocks of d; no place has left its block -/
structure B (key : Nat → Int) (c : Nat → Nat) (D d a n : Nat) : Prop where
  lo : ∀ p, p < a → c p < a ∧ c p / D = p / D
  hi : ∀ p, a ≤ p → p < n → a ≤ c p ∧ c p < n ∧ c p / d = p / d
  slo : ∀ p q, p < q → q < a → p / D = q / D → lt key (c p) (c q)
  shi : ∀ p q, a ≤ p → p < q → q < n → p / d = q / d → lt key (c p) (c q)
theorem b_start (key : Nat → Int) (n : Nat) : B key id 20 1 0 n :=
  ⟨fun p h => by omega, fun p h1 h2 => ⟨Nat.zero_le _, h2, rfl⟩, fun p q h1 h2 => by omega, fun p q h1 h2 h3 h4 => by simp at h4; omega⟩
theorem b_next {key : Nat → Int} {c : Nat → Nat} {D d n : Nat} (h : B key c D d n n) (D2 : Nat) : B key c D2 D 0 n :=
  ⟨fun p h => by omega, fun p h1 h2 => ⟨Nat.zero_le _, (h.lo p h2).1, (h.lo p h2).2⟩, fun p q h1 h2 => by omega, fun p q h1 h2 h3 h4 => h.slo p q h2 h3 h4⟩
theorem b_lt {key : Nat → Int} {c : Nat → Nat} {D d a n : Nat} (h : B key c D d a n) (han : a ≤ n) : ∀ k, k < n → c k < n := fun k hk => by
  by_cases e : k < a
  · have := (h.lo k e).1; omega
  · exact (h.hi k (by omega) hk).2.1
/-- what has been put in order up to e -/
theorem b_step {key : Nat → Int} {c c' : Nat → Nat} {D d a n e : Nat} (hD : D = 20 ∧ d = 1 ∨ D = 40 ∧ d = 20 ∨ D = 80 ∧ d = 40 ∨ D = 160 ∧ d = 80) (h : B key c D d a n) (ha : a % D = 0) (h1 : a ≤ e) (h2 : e ≤ a + D) (h3 : e ≤ n) (hf : e = a + D ∨ e = n) (hm : Mix c c' a e) (hs : Srt key c' a e) : B key c' D d e n := by
  have hv : ∀ p, a ≤ p → p < e → a ≤ c' p ∧ c' p < e := fun p p1 p2 => by
    obtain ⟨j, j1, j2, ej⟩ := hm.fwd p p1 p2
    have := h.hi j j1 (by omega)
    rw [ej]
    rcases hD with ⟨rfl, rfl⟩ | ⟨rfl, rfl⟩ | ⟨rfl, rfl⟩ | ⟨rfl, rfl⟩ <;> omega
  refine ⟨fun p p1 => ?_, fun p p1 p2 => ?_, fun p q p1 p2 p3 => ?_, fun p q p1 p2 p3 p4 => ?_⟩
  · by_cases hp : p < a
    · rw [hm.out p (by omega)]
      have := h.lo p hp
      exact ⟨by omega, this.2⟩
    · have := hv p (by omega) p1
      refine ⟨this.2, ?_⟩
      rcases hD with ⟨rfl, rfl⟩ | ⟨rfl, rfl⟩ | ⟨rfl, rfl⟩ | ⟨rfl, rfl⟩ <;> omega
  · rw [hm.out p (by omega)]
    have := h.hi p (by omega) p2
    refine ⟨?_, this.2⟩
    rcases hD with ⟨rfl, rfl⟩ | ⟨rfl, rfl⟩ | ⟨rfl, rfl⟩ | ⟨rfl, rfl⟩ <;> omega
  · by_cases hq : q < a
    · rw [hm.out p (by omega), hm.out q (by omega)]; exact h.slo p q p1 hq p3
    · by_cases hp : p < a
      · exfalso
        rcases hD with ⟨rfl, rfl⟩ | ⟨rfl, rfl⟩ | ⟨rfl, rfl⟩ | ⟨rfl, rfl⟩ <;> omega
      · exact hs p q (by omega) p1 p2
  · rw [hm.out p (by omega), hm.out q (by omega)]; exact h.shi p q (by omega) p2 p3 p4
theorem b_inc {key : Nat → Int} {c : Nat → Nat} {a n e : Nat} (h : B key c 20 1 a n) (he : e ≤ n) : ∀ p q, a ≤ p → p < q → q < e → c p < c q := fun p q p1 p2 p3 => by
  have x1 := (h.hi p p1 (by omega)).2.2
  have x2 := (h.hi q (by omega) (by omega)).2.2
  simp at x1 x2; omega
theorem b_parts {key : Nat → Int} {c : Nat → Nat} {d a n e : Nat} (hd : d = 20 ∨ d = 40 ∨ d = 80) (h : B key c (2 * d) d a n) (ha : a % (2 * d) = 0) (h1 : a + d < e) (h2 : e ≤ a + 2 * d) (h3 : e ≤ n) : Srt key c a (a + d) ∧ Srt key c (a + d) e ∧ Apart c a (a + d) e := by
  refine ⟨fun i j i1 i2 i3 => h.shi i j i1 i2 (by omega) ?_, fun i j i1 i2 i3 => h.shi i j (by omega) i2 (by omega) ?_, fun i j i1 i2 j1 j2 => ?_⟩
  · rcases hd with rfl | rfl | rfl <;> omega
  · rcases hd with rfl | rfl | rfl <;> omega
  · have x1 := (h.hi i i1 (by omega)).2.2
    have x2 := (h.hi j (by omega) (by omega)).2.2
    rcases hd with rfl | rfl | rfl <;> omega
/-- what is left is one block already -/
theorem b_rest {key : Nat → Int} {c : Nat → Nat} {d a n : Nat} (hd : d = 20 ∨ d = 40 ∨ d = 80) (h : B key c (2 * d) d a n) (ha : a % (2 * d) = 0) (han : a ≤ n) (h1 : n ≤ a + d) : B key c (2 * d) d n n := by
  refine b_step (by rcases hd with rfl | rfl | rfl <;> omega) h ha han (by omega) (Nat.le_refl _) (Or.inr rfl) (Mix.refl _ _ _) (fun i j i1 i2 i3 => h.shi i j i1 i2 i3 ?_)
  rcases hd with rfl | rfl | rfl <;> omega
theorem b_end {key : Nat → Int} {c : Nat → Nat} {D d n : Nat} (h : B key c D d n n) (hn : n ≤ D) : Srt key c 0 n ∧ ∀ k, k < n → c k < n :=
  ⟨fun i j _ i2 i3 => h.slo i j i2 i3 (by rw [Nat.div_eq_of_lt (by omega), Nat.div_eq_of_lt (by omega)]), fun k hk => (h.lo k hk).1⟩
end Go.Proofs.Ytaacocliclibgaa.Sv
