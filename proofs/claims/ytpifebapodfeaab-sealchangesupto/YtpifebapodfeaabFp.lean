/- Seal: filled up, plainly. -/
import Derived.Test.YtpifebapodfeaabCb
namespace Go.Proofs.Ytpifebapodfeaab.Fp
set_option linter.unusedVariables false
theorem len_size (s : ByteArray) : s.data.toList.length = s.size := by simp
theorem mk_eq (s : ByteArray) : (⟨s.data.toList.toArray⟩ : ByteArray) = s := by cases s; simp
def nb (n : Nat) : Nat := (max n 1 + 7) / 8
theorem nb_ge (n : Nat) : n ≤ 8 * nb n := by unfold nb; omega
theorem nb_pos (n : Nat) : 1 ≤ nb n := by unfold nb; omega
theorem nb_le (n : Nat) : 8 * nb n ≤ n + 8 := by unfold nb; omega
theorem nb_self (n : Nat) : nb (8 * nb n) = nb n := by unfold nb; omega
theorem nb_same (n m : Nat) (h1 : n ≤ m) (h2 : m ≤ 8 * nb n) : nb m = nb n := by unfold nb at *; omega
def padL (l : List UInt8) : List UInt8 := l ++ List.replicate (8 * nb l.length - l.length) 0
theorem padL_len (l : List UInt8) : (padL l).length = 8 * nb l.length := by
  have := nb_ge l.length
  simp [padL]; omega
def fillL (m : Nat) (l : List UInt8) : List UInt8 := if m = 2 then padL (l ++ [128]) else padL l
def nbM (m n : Nat) : Nat := if m = 2 then nb (n + 1) else nb n
theorem fillL_len (m : Nat) (l : List UInt8) : (fillL m l).length = 8 * nbM m l.length := by
  unfold fillL nbM
  split
  · rw [padL_len]; simp
  · exact padL_len l
theorem nbM_pos (m n : Nat) : 1 ≤ nbM m n := by unfold nbM; split <;> exact nb_pos _
theorem nbM_le (m n : Nat) : 8 * nbM m n ≤ n + 9 := by
  unfold nbM
  split
  · have := nb_le (n + 1); omega
  · have := nb_le n; omega
/-- padded again it stays -/
theorem padL_padL (l : List UInt8) : padL (padL l) = padL l := by
  have h : padL (padL l) = padL l ++ List.replicate (8 * nb (padL l).length - (padL l).length) 0 := rfl
  rw [h, padL_len, nb_self, Nat.sub_self, List.replicate_zero, List.append_nil]
/-- noughts within the last block -/
theorem padL_noughts (l : List UInt8) (k : Nat) (h : k ≤ 8 * nb l.length - l.length) : padL (l ++ List.replicate k 0) = padL l := by
  have g := nb_ge l.length
  have e : nb (l.length + k) = nb l.length := nb_same _ _ (by omega) (by omega)
  have hl : (l ++ List.replicate k (0 : UInt8)).length = l.length + k := by simp
  rw [padL, hl, e, padL, List.append_assoc, List.replicate_append_replicate, show k + (8 * nb l.length - (l.length + k)) = 8 * nb l.length - l.length by omega]
/-- the mark tells where a text ends -/
theorem mark_inj : ∀ (a b : List UInt8) (i j : Nat), a ++ 128 :: List.replicate i 0 = b ++ 128 :: List.replicate j 0 → a.length + i = b.length + j → a = b := by
  intro a b i j h hl
  have hr := congrArg List.reverse h
  simp only [List.reverse_append, List.reverse_cons, List.reverse_replicate, List.append_assoc, List.singleton_append] at hr
  have key : ∀ (i j : Nat) (x y : List UInt8), List.replicate i (0 : UInt8) ++ 128 :: x = List.replicate j 0 ++ 128 :: y → x = y := by
    intro i
    induction i with
    | zero =>
      intro j x y h
      cases j with
      | zero => simpa using h
      | succ j => simp [List.replicate_succ] at h
    | succ i ih =>
      intro j x y h
      cases j with
      | zero => simp [List.replicate_succ] at h
      | succ j => exact ih j x y (by simpa [List.replicate_succ] using h)
  exact List.reverse_inj.1 (key _ _ _ _ hr)
theorem fill2 (a : List UInt8) : fillL 2 a = a ++ 128 :: List.replicate (8 * nb (a.length + 1) - (a.length + 1)) 0 := by simp [fillL, padL]
theorem fill2_inj (a b : List UInt8) (h : fillL 2 a = fillL 2 b) : a = b := by
  have hl := congrArg List.length h
  rw [fillL_len, fillL_len] at hl
  rw [fill2, fill2] at h
  have ga := nb_ge (a.length + 1)
  have gb := nb_ge (b.length + 1)
  have e1 : nbM 2 a.length = nb (a.length + 1) := rfl
  have e2 : nbM 2 b.length = nb (b.length + 1) := rfl
  rw [e1, e2] at hl
  exact mark_inj a b _ _ h (by omega)
def fillB (m : Nat) (s : ByteArray) : ByteArray := ⟨(fillL m s.data.toList).toArray⟩
theorem fillB_list (m : Nat) (s : ByteArray) : (fillB m s).data.toList = fillL m s.data.toList := by simp [fillB]
theorem fillB_size (m : Nat) (s : ByteArray) : (fillB m s).size = 8 * nbM m s.size := by
  rw [← len_size, fillB_list, fillL_len, len_size]
end Go.Proofs.Ytpifebapodfeaab.Fp
