/- Pad: the program's and the document's; Same. -/
import Derived.Test.YtpifebapodfeaabPd
namespace Go.Proofs.Ytpifebapodfeaab.Pe
set_option linter.unusedVariables false
open Go.RowKit Cb Fp Sm Pd
theorem filled_any (m : Nat) (hm : m = 1 ∨ m = 2) (s : ByteArray) (hs : s.size ≤ 140737488400000) (w : World) :
    Calls Try.prog 41 #[.int .i64 (m : Int), .string s] w fun e w' => e = .returned (.string (fillB m s)) ∧ Below w.heap.size w w' := by
  rcases hm with rfl | rfl
  · exact filled_one s hs w
  · exact filled_two s hs w
theorem method_any (a : Int) (w : World) : Calls Try.prog 39 #[.int .i64 a] w fun e w' => e = .returned (.bool (a == 1 || a == 2)) ∧ w' = w := by
  by_cases h : a = 1
  · subst h
    go_enter Try.func39, Try.ntmps39
    go_wp2
    go_ret
    exact ⟨rfl, rfl⟩
  · have q : (a == 1) = false := by simpa using h
    go_enter Try.func39, Try.ntmps39
    go_wp2
    go_ret
    exact ⟨by simp [h], rfl⟩
/-- the document's -/
def zs (k : Nat) : ByteArray := ⟨(List.replicate k 0).toArray⟩
theorem zs_size (k : Nat) : (zs k).size = k := by show (List.replicate k (0 : UInt8)).toArray.size = k; simp
theorem zs_succ (s : ByteArray) (k : Nat) : s ++ zs k ++ (⟨#[0]⟩ : ByteArray) = s ++ zs (k + 1) := by
  apply ByteArray.ext
  simp [zs, List.replicate_succ']
  apply Array.ext'
  simp
theorem zs_zero (s : ByteArray) : s ++ zs 0 = s := by
  apply ByteArray.ext
  simp [zs]
theorem zs_fill (s : ByteArray) : s ++ zs (8 * nb s.size - s.size) = ⟨(padL s.data.toList).toArray⟩ := by
  apply ByteArray.ext
  apply Array.ext'
  simp [zs, padL]
theorem loop_out (n k : Nat) (h : n + k ≤ 8 * nb n) (q1 : (n + k) % 8 = 0) (q2 : n + k ≠ 0) : k = 8 * nb n - n := by unfold nb at *; omega
theorem loop_in (n k : Nat) (h : n + k ≤ 8 * nb n) (q : (n + k) % 8 ≠ 0 ∨ n + k = 0) : n + (k + 1) ≤ 8 * nb n := by unfold nb at *; omega
end Go.Proofs.Ytpifebapodfeaab.Pe
