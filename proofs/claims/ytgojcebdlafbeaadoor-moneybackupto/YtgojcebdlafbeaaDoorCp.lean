/- Plain: rates and what an amount becomes. -/
import Derived.Test.YtgojcebdlafbeaaDoorRows
namespace Go.Proofs.YtgojcebdlafbeaaDoor.Cp
/-- a digit? -/
def dg (c : UInt8) : Bool := decide (48 ≤ c.toNat) && decide (c.toNat ≤ 57)
theorem dg_iff (c : UInt8) : dg c = true ↔ 48 ≤ c.toNat ∧ c.toNat ≤ 57 := by simp [dg]
def ad (l : List UInt8) : Bool := l.all dg
def p10 (k : Nat) : Nat := 10 ^ k
theorem p10_le {p : Nat} (h : p ≤ 19) : p10 p ≤ 10000000000000000000 := by
  have : (10 : Nat) ^ p ≤ 10 ^ 19 := Nat.pow_le_pow_right (by decide) h
  rw [p10]; omega
theorem p10_pos (p : Nat) : 1 ≤ p10 p := Nat.pow_pos (by decide)
theorem p10_succ (p : Nat) : p10 (p + 1) = p10 p * 10 := Nat.pow_succ ..
def num (l : List UInt8) : Nat := l.foldl (fun n c => n * 10 + (c.toNat - 48)) 0
theorem num_snoc (l : List UInt8) (c : UInt8) : num (l ++ [c]) = num l * 10 + (c.toNat - 48) := by simp [num]
theorem num_lt (l : List UInt8) (h : l.all dg = true) : num l < 10 ^ l.length := by
  induction hn : l.length generalizing l with
  | zero => have := List.length_eq_zero_iff.1 hn; subst this; simp [num]
  | succ n ih =>
    obtain ⟨r, c, rfl⟩ : ∃ r c, l = r ++ [c] := ⟨l.dropLast, l.getLast (by intro e; simp [e] at hn), (List.dropLast_concat_getLast _).symm⟩
    simp only [List.length_append, List.length_cons, List.length_nil] at hn
    simp only [List.all_append, List.all_cons, List.all_nil, Bool.and_true, Bool.and_eq_true] at h
    have := ih r h.1 (by omega)
    have hc := (dg_iff c).1 h.2
    rw [num_snoc, Nat.pow_succ]
    omega
/-- the nearest, of two the even one -/
def nr (n d : Nat) : Nat := if n % d * 2 > d ∨ n % d * 2 = d ∧ n / d % 2 = 1 then n / d + 1 else n / d
def mv (n : Nat) (k : Int) : Nat := if k < 0 then nr n (p10 (-k).toNat) else if n > 999999999999 then n else n * p10 k.toNat
/-- a rate? its places, its number -/
def rtB (l : List UInt8) : Bool := decide (l.length = 8) && ad l && decide (num (l.take 1) ≤ 7) && decide (0 < num (l.drop 1))
def rtP (l : List UInt8) : Nat := num (l.take 1)
def rtN (l : List UInt8) : Nat := num (l.drop 1)
theorem rt_ok {l : List UInt8} (h : rtB l = true) : rtP l ≤ 7 ∧ 1 ≤ rtN l ∧ rtN l < 10000000 := by
  simp only [rtB, Bool.and_eq_true, decide_eq_true_eq] at h
  obtain ⟨⟨⟨h8, hd⟩, hp⟩, hn⟩ := h
  refine ⟨hp, hn, ?_⟩
  have := num_lt (l.drop 1) (List.all_eq_true.2 fun x hx => List.all_eq_true.1 hd x (List.mem_of_mem_drop hx))
  rwa [List.length_drop, h8] at this
theorem nr_le (n d : Nat) : nr n d ≤ n + 1 := by
  have := Nat.div_le_self n d
  unfold nr; split <;> omega
theorem mv_lt (n : Nat) (k : Int) (hn : n < 10000000000000000000) (h2 : k ≤ 3) : mv n k ≤ 10000000000000000000 := by
  unfold mv
  split
  · have := nr_le n (p10 (-k).toNat); omega
  · split
    · omega
    · have hb : p10 k.toNat ≤ 1000 := by have : (10 : Nat) ^ k.toNat ≤ 10 ^ 3 := Nat.pow_le_pow_right (by decide) (by omega); rw [p10]; omega
      have := Nat.mul_le_mul (show n ≤ 999999999999 by omega) hb
      omega
end Go.Proofs.YtgojcebdlafbeaaDoor.Cp
