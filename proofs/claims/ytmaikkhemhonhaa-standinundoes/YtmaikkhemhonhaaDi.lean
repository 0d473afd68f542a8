/- The heap's order, plain. -/
import Derived.Test.YtmaikkhemhonhaaDh
namespace Go.Proofs.Ytmaikkhemhonhaa.Di
set_option linter.unusedVariables false
set_option linter.unusedSimpArgs false
open Go.RowKit Go.Maps Lib0 Kb Xp Da Db Dc Dd De Dh
def Hp (k : Nat → Int) (n : Nat) : Prop := ∀ e, 1 ≤ e → e < n → k ((e - 1) / 2) ≤ k e
structure UpOk (k : Nat → Int) (n j : Nat) : Prop where
  edge : ∀ e, 1 ≤ e → e < n → e ≠ j → k ((e - 1) / 2) ≤ k e
  gp : ∀ e, 1 ≤ e → e < n → (e - 1) / 2 = j → 1 ≤ j → k ((j - 1) / 2) ≤ k e
structure FixOk (k : Nat → Int) (n i : Nat) : Prop where
  edge : ∀ e, 1 ≤ e → e < n → e ≠ i → (e - 1) / 2 ≠ i → k ((e - 1) / 2) ≤ k e
  gp : ∀ e, 1 ≤ e → e < n → (e - 1) / 2 = i → 1 ≤ i → k ((i - 1) / 2) ≤ k e
def sw (k : Nat → Int) (i j m : Nat) : Int := if j = m then k i else if i = m then k j else k m
theorem Hp.up {k : Nat → Int} {n : Nat} (h : Hp k n) (j : Nat) (hj : j < n) : UpOk k n j := ⟨fun e h1 h2 _ => h e h1 h2, fun e h1 h2 h3 h4 => by
  have a := h e h1 h2
  have b := h j h4 hj
  rw [h3] at a
  omega⟩
theorem up_step {k : Nat → Int} {n j p : Nat} (h : UpOk k n j) (h1 : 1 ≤ j) (hj : j < n) (hp : p = (j - 1) / 2) (hlt : k j < k p) : UpOk (sw k p j) n p := by
  have key : ∀ m, m ≠ p → m ≠ j → sw k p j m = k m := fun m a b => by unfold sw; rw [if_neg (fun e => b e.symm), if_neg (fun e => a e.symm)]
  have kj : sw k p j j = k p := by unfold sw; rw [if_pos rfl]
  have kp : sw k p j p = k j := by unfold sw; rw [if_neg (by omega), if_pos rfl]
  refine ⟨fun e e1 e2 e3 => ?_, fun e e1 e2 e3 e4 => ?_⟩
  · by_cases a : e = j
    · subst a; rw [← hp, kp, kj]; omega
    · rw [key e e3 a]
      by_cases b : (e - 1) / 2 = j
      · rw [b, kj]
        have := h.gp e e1 e2 b h1
        rw [← hp] at this
        exact this
      · by_cases c : (e - 1) / 2 = p
        · rw [c, kp]
          have := h.edge e e1 e2 a
          rw [c] at this
          omega
        · rw [key _ c b]; exact h.edge e e1 e2 a
  · have hpp : k ((p - 1) / 2) ≤ k p := h.edge p e4 (by omega) (by omega)
    rw [key ((p - 1) / 2) (by omega) (by omega)]
    by_cases a : e = j
    · subst a; rw [kj]; exact hpp
    · rw [key e (by omega) a]
      have := h.edge e e1 e2 a
      rw [e3] at this
      omega
theorem up_end {k : Nat → Int} {n j : Nat} (h : UpOk k n j) (hd : 1 ≤ j → k ((j - 1) / 2) ≤ k j) : Hp k n := fun e e1 e2 => by
  by_cases a : e = j
  · subst a; exact hd e1
  · exact h.edge e e1 e2 a
theorem down_step {k : Nat → Int} {n i j : Nat} (h : FixOk k n i) (hj : j < n) (hc : (j - 1) / 2 = i) (h1 : 1 ≤ j) (hmin : ∀ e, 1 ≤ e → e < n → (e - 1) / 2 = i → k j ≤ k e) (hlt : k j < k i) : FixOk (sw k i j) n j ∧ sw k i j ((j - 1) / 2) ≤ sw k i j j := by
  have key : ∀ m, m ≠ i → m ≠ j → sw k i j m = k m := fun m a b => by unfold sw; rw [if_neg (fun e => b e.symm), if_neg (fun e => a e.symm)]
  have kj : sw k i j j = k i := by unfold sw; rw [if_pos rfl]
  have ki : sw k i j i = k j := by unfold sw; rw [if_neg (by omega), if_pos rfl]
  refine ⟨⟨fun e e1 e2 e3 e4 => ?_, fun e e1 e2 e3 e4 => ?_⟩, by rw [hc, ki, kj]; omega⟩
  · by_cases a : e = i
    · subst a
      rw [ki, key _ (by omega) (by omega)]
      exact h.gp j h1 hj hc e1
    · rw [key e a e3]
      by_cases b : (e - 1) / 2 = i
      · rw [b, ki]; exact hmin e e1 e2 b
      · rw [key _ b e4]; exact h.edge e e1 e2 a b
  · rw [hc, ki, key e (by omega) (by omega)]
    have := h.edge e e1 e2 (by omega) (by omega)
    rw [e3] at this
    exact this
theorem down_end {k : Nat → Int} {n i : Nat} (h : FixOk k n i) (hc : ∀ e, 1 ≤ e → e < n → (e - 1) / 2 = i → k i ≤ k e) : UpOk k n i := ⟨fun e e1 e2 e3 => by
  by_cases a : (e - 1) / 2 = i
  · rw [a]; exact hc e e1 e2 a
  · exact h.edge e e1 e2 e3 a, h.gp⟩
theorem Hp.congr {k k' : Nat → Int} {n : Nat} (h : Hp k n) (hk : ∀ m, m < n → k' m = k m) : Hp k' n := fun e e1 e2 => by rw [hk e e2, hk _ (by omega)]; exact h e e1 e2
theorem UpOk.congr {k k' : Nat → Int} {n j : Nat} (h : UpOk k n j) (hj : j < n) (hk : ∀ m, m < n → k' m = k m) : UpOk k' n j := ⟨fun e e1 e2 e3 => by rw [hk e e2, hk _ (by omega)]; exact h.edge e e1 e2 e3, fun e e1 e2 e3 e4 => by rw [hk e e2, hk _ (by omega)]; exact h.gp e e1 e2 e3 e4⟩
theorem FixOk.congr {k k' : Nat → Int} {n j : Nat} (h : FixOk k n j) (hj : j < n) (hk : ∀ m, m < n → k' m = k m) : FixOk k' n j := ⟨fun e e1 e2 e3 e4 => by rw [hk e e2, hk _ (by omega)]; exact h.edge e e1 e2 e3 e4, fun e e1 e2 e3 e4 => by rw [hk e e2, hk _ (by omega)]; exact h.gp e e1 e2 e3 e4⟩
theorem Hp.fix {k k' : Nat → Int} {n i : Nat} (h : Hp k n) (hi : i < n) (hk : ∀ m, m ≠ i → k' m = k m) : FixOk k' n i := ⟨fun e e1 e2 e3 e4 => by rw [hk e e3, hk _ e4]; exact h e e1 e2, fun e e1 e2 e3 e4 => by
  rw [hk e (by omega), hk _ (by omega)]
  have a := h e e1 e2
  have b := h i e4 hi
  rw [e3] at a
  omega⟩
theorem Hp.min {k : Nat → Int} {n : Nat} (h : Hp k n) : ∀ m, m < n → k 0 ≤ k m := fun m => by
  induction m using Nat.strongRecOn with
  | _ m ih =>
    intro hm
    by_cases e : m = 0
    · subst e; exact Int.le_refl _
    · have := h m (by omega) hm
      have := ih ((m - 1) / 2) (by omega) (by omega)
      omega
theorem kN_sw {A : List Rc} {i j : Nat} (hi : i < A.length) (hj : j < A.length) : ∀ m, m < A.length → kN (swp A i j hi hj) m = sw (kN A) i j m := fun m hm => swp_kN A i j hi hj m hm
end Go.Proofs.Ytmaikkhemhonhaa.Di
