/- Digits, plain: one is turned; two change places. -/
import Derived.Test.YtbdkflfgmdcciabKp
namespace Go.Proofs.Ytbdkflfgmdcciab.Kl
set_option linter.unusedVariables false
open Go.RowKit Lib0 Kp
theorem sm_set : ∀ (l : List UInt8) (k : Nat) (c : UInt8) (h : k < l.length), sm (l.set k c) + wt (l.length - k - 1) l[k] = sm l + wt (l.length - k - 1) c
  | [], k, c, h => by simp at h
  | x :: l, 0, c, h => by
    simp only [List.set_cons_zero, sm, List.length_cons, List.getElem_cons_zero]
    rw [show l.length + 1 - 0 - 1 = l.length by omega]; omega
  | x :: l, k + 1, c, h => by
    have ih := sm_set l k c (by simpa using h)
    simp only [List.set_cons_succ, sm, List.length_cons, List.getElem_cons_succ, List.length_set]
    rw [show l.length + 1 - (k + 1) - 1 = l.length - k - 1 by omega]
    omega
theorem tw_inj : ∀ a b : Fin 10, tw a.val = tw b.val → a = b := by decide
theorem tw_inj' {a b : Nat} (ha : a < 10) (hb : b < 10) (h : tw a = tw b) : a = b := by
  have := tw_inj ⟨a, ha⟩ ⟨b, hb⟩ h
  simpa using this
theorem wt_inj {n : Nat} {x y : UInt8} (hx : dig x = true) (hy : dig y = true) (h : wt n x = wt n y) : x = y := by
  have h1 := (dig_iff x).1 hx
  have h2 := (dig_iff y).1 hy
  apply UInt8.toNat_inj.1
  unfold wt at h
  split at h
  · have := tw_inj' (by omega) (by omega) h; omega
  · omega
theorem turned {l : List UInt8} {k : Nat} {c : UInt8} (h : k < l.length) (ha : l.all dig = true) (hc : dig c = true) (hs : sm l % 10 = 0) (hne : c ≠ l[k]) : sm (l.set k c) % 10 ≠ 0 := by
  have e := sm_set l k c h
  have hk : dig l[k] = true := by rw [List.all_eq_true] at ha; exact ha _ (List.getElem_mem h)
  have w1 := wt_le (l.length - k - 1) c hc
  have w2 := wt_le (l.length - k - 1) l[k] hk
  have hn : wt (l.length - k - 1) c ≠ wt (l.length - k - 1) l[k] := fun hh => hne (wt_inj hc hk hh)
  omega
theorem swap_dec : ∀ x y : Fin 10, ((tw y.val + x.val) % 10 = (tw x.val + y.val) % 10 ↔ (x = y ∨ (x.val = 0 ∧ y.val = 9) ∨ (x.val = 9 ∧ y.val = 0))) := by decide
theorem swap_dec' {x y : Nat} (hx : x < 10) (hy : y < 10) : (tw y + x) % 10 = (tw x + y) % 10 ↔ (x = y ∨ (x = 0 ∧ y = 9) ∨ (x = 9 ∧ y = 0)) := by
  have := swap_dec ⟨x, hx⟩ ⟨y, hy⟩
  simpa using this
theorem swapped {l : List UInt8} {k : Nat} (h : k + 1 < l.length) (ha : l.all dig = true) (hs : sm l % 10 = 0) :
    sm ((l.set k l[k + 1]).set (k + 1) l[k]) % 10 = 0 ↔ (l[k] = l[k + 1] ∨ (l[k].toNat = 48 ∧ l[k + 1].toNat = 57) ∨ (l[k].toNat = 57 ∧ l[k + 1].toNat = 48)) := by
  have ad := fun i (hi : i < l.length) => (dig_iff _).1 ((List.all_eq_true.1 ha) _ (List.getElem_mem hi))
  have dx := ad k (by omega)
  have dy := ad (k + 1) h
  have e1 := sm_set l k l[k + 1] (by omega)
  have e2 : sm ((l.set k l[k + 1]).set (k + 1) l[k]) + wt (l.length - (k + 1) - 1) l[k + 1] = sm (l.set k l[k + 1]) + wt (l.length - (k + 1) - 1) l[k] := by
    have := sm_set (l.set k l[k + 1]) (k + 1) l[k] (by rw [List.length_set]; exact h)
    simp only [List.length_set] at this
    rw [List.getElem_set_ne (by omega)] at this
    exact this
  obtain ⟨x, hx⟩ : ∃ x, l[k].toNat = 48 + x := ⟨l[k].toNat - 48, by omega⟩
  obtain ⟨y, hy⟩ : ∃ y, l[k + 1].toNat = 48 + y := ⟨l[k + 1].toNat - 48, by omega⟩
  have key := swap_dec' (x := x) (y := y) (by omega) (by omega)
  have kx := tw_le x (by omega)
  have ky := tw_le y (by omega)
  have e3 : l[k] = l[k + 1] ↔ x = y := by rw [← UInt8.toNat_inj]; omega
  rw [e3, hx, hy]
  have fx : 48 + x - 48 = x := by omega
  have fy : 48 + y - 48 = y := by omega
  unfold wt at e1 e2
  rw [hx, hy, fx, fy] at e1 e2
  rcases Nat.mod_two_eq_zero_or_one (l.length - k - 1) with hp | hp
  · have hq : (l.length - (k + 1) - 1) % 2 = 1 := by omega
    simp only [hp, hq, if_true] at e1 e2
    simp only [Nat.zero_ne_one, if_false] at e1
    omega
  · have hq : (l.length - (k + 1) - 1) % 2 = 0 := by omega
    simp only [hp, hq, if_true] at e1 e2
    simp only [Nat.zero_ne_one, if_false] at e2
    omega
theorem all_set {l : List UInt8} (ha : l.all dig = true) (k : Nat) {c : UInt8} (hc : dig c = true) : (l.set k c).all dig = true := by
  rw [List.all_eq_true] at *
  intro x hx
  rcases List.mem_or_eq_of_mem_set hx with h | h
  · exact ha x h
  · rw [h]; exact hc
end Go.Proofs.Ytbdkflfgmdcciab.Kl
