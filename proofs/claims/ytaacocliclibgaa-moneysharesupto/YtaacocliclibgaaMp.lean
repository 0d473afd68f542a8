/- Plain: amounts and sums. -/
import Derived.Test.YtaacocliclibgaaRows
namespace Go.Proofs.Ytaacocliclibgaa.Mp
/-- is it an amount? -/
def isA (n : Int) : Bool := decide (0 ≤ n) && decide (n ≤ 999999999999)
theorem isA_iff (n : Int) : isA n = true ↔ 0 ≤ n ∧ n ≤ 999999999999 := by simp [isA]
def sm : List Int → Int
  | [] => 0
  | x :: l => x + sm l
theorem sm_append (l r : List Int) : sm (l ++ r) = sm l + sm r := by
  induction l with
  | nil => simp [sm]
  | cons x l ih => simp only [List.cons_append, sm, ih]; omega
theorem sm_nonneg (l : List Int) (h : l.all isA = true) : 0 ≤ sm l := by
  induction l with
  | nil => simp [sm]
  | cons x l ih =>
    simp only [List.all_cons, Bool.and_eq_true] at h
    have := ih h.2
    have := ((isA_iff x).1 h.1).1
    simp only [sm]; omega
theorem sm_take_le (l : List Int) (h : l.all isA = true) (k : Nat) : sm (l.take k) ≤ sm l := by
  have e := sm_append (l.take k) (l.drop k)
  rw [List.take_append_drop] at e
  have : 0 ≤ sm (l.drop k) := sm_nonneg _ (List.all_eq_true.2 fun x hx => List.all_eq_true.1 h x (List.mem_of_mem_drop hx))
  omega
theorem take_snoc (l : List Int) (k : Nat) (h : k < l.length) : l.take (k + 1) = l.take k ++ [l[k]] := List.take_succ_eq_append_getElem h
theorem sm_snoc (l : List Int) (k : Nat) (h : k < l.length) : sm (l.take (k + 1)) = sm (l.take k) + l[k] := by
  rw [take_snoc l k h, sm_append]; simp [sm]
/-- Sum: the number, the error -/
def sumV (l : List Int) : Int := if l.all isA then (if sm l ≤ 999999999999 then sm l else 0) else 0
def sumE (l : List Int) : Int := if l.all isA then (if sm l ≤ 999999999999 then 0 else 13) else 71
theorem all_false (l : List Int) (p : Int → Bool) (k : Nat) (h : k < l.length) (hp : p l[k] = false) : l.all p = false := by
  rw [Bool.eq_false_iff]; intro e
  have := List.all_eq_true.1 e _ (List.getElem_mem h)
  rw [hp] at this; cases this
theorem all_snoc (l : List Int) (p : Int → Bool) (k : Nat) (h : k < l.length) (ha : (l.take k).all p = true) (hp : p l[k] = true) : (l.take (k + 1)).all p = true := by
  rw [take_snoc l k h, List.all_append, ha]; simp [hp]
end Go.Proofs.Ytaacocliclibgaa.Mp
