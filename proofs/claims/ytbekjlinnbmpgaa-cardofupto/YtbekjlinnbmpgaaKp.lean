/- Cards, plain: digits, their sum, masks. -/
import Derived.Test.YtbekjlinnbmpgaaLib0
namespace Go.Proofs.Ytbekjlinnbmpgaa.Kp
open Go.RowKit Lib0
def dig (c : UInt8) : Bool := decide (48 ≤ c.toNat) && decide (c.toNat ≤ 57)
theorem dig_iff (c : UInt8) : dig c = true ↔ 48 ≤ c.toNat ∧ c.toNat ≤ 57 := by simp [dig]
def gb (s : ByteArray) (k : Nat) : UInt8 := s.data.toList.getD k 0
theorem gb_eq (s : ByteArray) (k : Nat) (h : k < s.size) : s[k] = gb s k := by
  have h' : k < s.data.toList.length := h
  unfold gb
  rw [List.getD_eq_getElem?_getD, List.getElem?_eq_getElem h']; rfl
/-- all its bytes are digits -/
def ad (s : ByteArray) : Bool := s.data.toList.all dig
theorem sz (s : ByteArray) : s.data.toList.length = s.size := rfl
def tw (d : Nat) : Nat := if 5 ≤ d then 2 * d - 9 else 2 * d
theorem tw_le (d : Nat) (h : d ≤ 9) : tw d ≤ 9 := by unfold tw; split <;> omega
/-- what one counts with so many behind it -/
def wt (n : Nat) (c : UInt8) : Nat := if n % 2 = 1 then tw (c.toNat - 48) else c.toNat - 48
def sm : List UInt8 → Nat
  | [] => 0
  | c :: l => wt l.length c + sm l
theorem wt_le (n : Nat) (c : UInt8) (h : dig c = true) : wt n c ≤ 9 := by
  have := (dig_iff c).1 h
  unfold wt
  split
  · exact tw_le _ (by omega)
  · omega
theorem sm_le : ∀ l : List UInt8, l.all dig = true → sm l ≤ 9 * l.length
  | [], _ => by simp [sm]
  | c :: l, h => by
    simp only [List.all_cons, Bool.and_eq_true] at h
    have := sm_le l h.2
    have := wt_le l.length c h.1
    simp only [sm, List.length_cons]; omega
theorem sm_drop (s : ByteArray) (k : Nat) (h : k < s.size) : sm (s.data.toList.drop k) = wt (s.size - k - 1) s[k] + sm (s.data.toList.drop (k + 1)) := by
  rw [List.drop_eq_getElem_cons (show k < s.data.toList.length from h), sm, List.length_drop]
  have e : s.data.toList.length - (k + 1) = s.size - k - 1 := by have := sz s; omega
  rw [e]; rfl
theorem sm_end (s : ByteArray) (k : Nat) (h : s.size ≤ k) : sm (s.data.toList.drop k) = 0 := by
  rw [List.drop_of_length_le (by rw [sz]; exact h)]; rfl
/-- all but the last count so -/
theorem sm_snoc : ∀ (l : List UInt8) (c : UInt8), sm (l ++ [c]) = sm (l ++ [48]) + (c.toNat - 48)
  | [], c => by
    have e : (48 : UInt8).toNat = 48 := rfl
    simp [sm, wt, e]
  | x :: l, c => by
    have := sm_snoc l c
    simp only [List.cons_append, sm, List.length_append, List.length_cons, List.length_nil] at *
    omega
def luhn (l : List UInt8) : Bool := decide (2 ≤ l.length) && l.all dig && decide (sm l % 10 = 0)
/-- the missing digit -/
def miss (l : List UInt8) : Nat := (10 - sm (l ++ [48]) % 10) % 10
theorem miss_lt (l : List UInt8) : miss l < 10 := Nat.mod_lt _ (by omega)
theorem miss_hit (l : List UInt8) (c : UInt8) (h : dig c = true) : sm (l ++ [c]) % 10 = 0 ↔ c.toNat = 48 + miss l := by
  have := (dig_iff c).1 h
  rw [sm_snoc l c]; unfold miss
  omega
/-- what Digit says: the digit and the error -/
def digR (l : List UInt8) : ByteArray × Int := if decide (1 ≤ l.length) && decide (l.length ≤ 18) && l.all dig then (⟨#[UInt8.ofNat (48 + miss l)]⟩, 0) else (⟨#[]⟩, 50)
def rightR (l : List UInt8) : Int := if decide (12 ≤ l.length) && decide (l.length ≤ 19) && l.all dig then (if sm l % 10 = 0 then 0 else 51) else 50
def maskL (l : List UInt8) : List UInt8 := if l.length ≤ 10 then List.replicate l.length 42 else l.take 6 ++ List.replicate (l.length - 10) 42 ++ l.drop (l.length - 4)
theorem maskL_length (l : List UInt8) : (maskL l).length = l.length := by
  unfold maskL
  split
  · simp
  · simp; omega
theorem maskL_get (l : List UInt8) (i : Nat) (h : i < l.length) : (maskL l)[i]? = some (if 10 < l.length ∧ (i < 6 ∨ l.length - 4 ≤ i) then l[i] else 42) := by
  unfold maskL
  split
  · rw [if_neg (by omega)]; simp [h]
  · by_cases h1 : i < 6
    · rw [if_pos (by omega), List.getElem?_append_left (by simp; omega), List.getElem?_append_left (by simp; omega)]
      simp [h1, h]
    · by_cases h2 : l.length - 4 ≤ i
      · rw [if_pos (by omega), List.getElem?_append_right (by simp; omega)]
        simp only [List.length_append, List.length_take, List.length_replicate, List.getElem?_drop]
        rw [List.getElem?_eq_some_iff]
        refine ⟨by omega, ?_⟩
        congr 1
        omega
      · rw [if_neg (by omega), List.getElem?_append_left (by simp; omega), List.getElem?_append_right (by simp; omega)]
        rw [List.getElem?_replicate, if_pos (by simp; omega)]
end Go.Proofs.Ytbekjlinnbmpgaa.Kp
