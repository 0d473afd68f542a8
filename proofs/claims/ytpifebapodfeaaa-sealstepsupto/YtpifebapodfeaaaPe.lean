/- Pad: the program's and the document's; Same. -/
import Derived.Test.YtpifebapodfeaaaPd
namespace Go.Proofs.Ytpifebapodfeaaa.Pe
set_option linter.unusedVariables false
open Go.RowKit Cb Fp Sm Pd
theorem filled_any (m : Nat) (hm : m = 1 ∨ m = 2) (s : ByteArray) (hs : s.size ≤ 140737488400000) (w : World) :
    Calls Try.prog 20 #[.int .i64 (m : Int), .string s] w fun e w' => e = .returned (.string (fillB m s)) ∧ Below w.heap.size w w' := by
  rcases hm with rfl | rfl
  · exact filled_one s hs w
  · exact filled_two s hs w
theorem method_any (a : Int) (w : World) : Calls Try.prog 19 #[.int .i64 a] w fun e w' => e = .returned (.bool (a == 1 || a == 2)) ∧ w' = w := by
  by_cases h : a = 1
  · subst h
    go_enter Try.func19, Try.ntmps19
    go_wp2
    go_ret
    exact ⟨rfl, rfl⟩
  · have q : (a == 1) = false := by simpa using h
    go_enter Try.func19, Try.ntmps19
    go_wp2
    go_ret
    exact ⟨by simp [h], rfl⟩
set_option maxRecDepth 100000 in
set_option maxHeartbeats 1600000 in
theorem pad_good (m : Nat) (hm : m = 1 ∨ m = 2) (s : ByteArray) (hs : s.size ≤ 140737488400000) (w : World) :
    Calls Try.prog 8 #[.int .i64 (m : Int), .string s] w fun e w' => e = .returned (.tuple #[.string (fillB m s), .int .i64 0]) ∧ Below w.heap.size w w' := by
  have FI := fun y => filled_any m hm s hs y
  have ME := fun y => method_any (m : Int) y
  rw [show (((m : Int) == 1) || ((m : Int) == 2)) = true by rcases hm with rfl | rfl <;> rfl] at ME
  generalize (m : Int) = M at *
  clear hm
  go_enter Try.func8, Try.ntmps8
  go_wp2_with (first
    | (go_at_call 19; refine (ME _).mono ?_; rintro e x ⟨rfl, hx⟩; rw [hx])
    | (go_at_call 20; refine (FI _).mono ?_; rintro e x ⟨rfl, hx⟩))
  exact bodyPost_ret (v := .tuple #[.string (fillB m s), .int .i64 0]) (by simp [results, Try.results8, go_sem]) rfl ⟨rfl, hx⟩
theorem pad_bad (a : Int) (h : (a == 1 || a == 2) = false) (s : ByteArray) (w : World) :
    Calls Try.prog 8 #[.int .i64 a, .string s] w fun e w' => e = .returned (.tuple #[.string ⟨#[]⟩, .int .i64 1]) ∧ w' = w := by
  have ME := fun y => method_any a y
  rw [h] at ME
  go_enter Try.func8, Try.ntmps8
  go_wp2_with (go_at_call 19; refine (ME _).mono ?_; rintro e x ⟨rfl, hx⟩; rw [hx])
  exact bodyPost_ret (v := .tuple #[.string ⟨#[]⟩, .int .i64 1]) (by simp [results, Try.results8, go_sem]) rfl ⟨rfl, rfl⟩
/-- the document's -/
def zs (k : Nat) : ByteArray := ⟨(List.replicate k 0).toArray⟩
theorem zs_size (k : Nat) : (zs k).size = k := by show (List.replicate k (0 : UInt8)).toArray.size = k; simp
theorem zs_succ (s : ByteArray) (k : Nat) : s ++ zs k ++ (⟨#[0]⟩ : ByteArray) = s ++ zs (k + 1) := by
  apply ByteArray.ext
  simp [zs, List.replicate_succ']
  apply Array.ext'
  simp
theorem zs_zero (s : ByteArray) : s ++ zs 0 = s := by
  apply ByteArray.ext
  simp [zs]
theorem zs_fill (s : ByteArray) : s ++ zs (8 * nb s.size - s.size) = ⟨(padL s.data.toList).toArray⟩ := by
  apply ByteArray.ext
  apply Array.ext'
  simp [zs, padL]
theorem loop_out (n k : Nat) (h : n + k ≤ 8 * nb n) (q1 : (n + k) % 8 = 0) (q2 : n + k ≠ 0) : k = 8 * nb n - n := by unfold nb at *; omega
theorem loop_in (n k : Nat) (h : n + k ≤ 8 * nb n) (q : (n + k) % 8 ≠ 0 ∨ n + k = 0) : n + (k + 1) ≤ 8 * nb n := by unfold nb at *; omega
set_option maxRecDepth 100000 in
set_option maxHeartbeats 1600000 in
theorem padr_one (s : ByteArray) (hs : s.size ≤ 140737488400000) (w : World) :
    Calls Try.prog 9 #[.int .i64 1, .string s] w fun e w' => e = .returned (.tuple #[.string (fillB 1 s), .int .i64 0]) ∧ w' = w := by
  have c1 : ¬ 9223372036854775807 < s.size + 0 := by omega
  obtain ⟨S, hS⟩ : ∃ S, S = s ++ (⟨#[]⟩ : ByteArray) := ⟨_, rfl⟩
  have hz : S.size = s.size + 0 := by rw [hS, ByteArray.size_append]; rfl
  have hF : (⟨(padL S.data.toList).toArray⟩ : ByteArray) = fillB 1 s := by
    rw [fillB, hS]
    simp [fillL]
  have hz2 : S.size ≤ 140737488400001 := by omega
  have Hz : Hid (S.size = s.size + 0) := hz
  clear hz
  go_enter Try.func9, Try.ntmps9
  go_wp2
  go_loopw [1] (fun v wr => ∃ (k : Nat), v = .string (S ++ zs k) ∧ S.size + k ≤ 8 * nb S.size ∧ wr = w) (fun v _ => 8 * nb S.size - (match v with | .string t => t.size | _ => 0))
  case atStart => exact ⟨0, by rw [zs_zero, hS], by have := nb_ge S.size; omega, rfl⟩
  case round =>
    obtain ⟨k, rfl, hk, rfl⟩ := hrel
    have hn : (S ++ zs k).size = S.size + k := by rw [ByteArray.size_append, zs_size]
    have hb := nb_le S.size
    by_cases hc : (S.size + k) % 8 ≠ 0 ∨ S.size + k = 0
    · have hi := loop_in S.size k hk hc
      have hs2 := zs_succ S k
      have hn2 : Hid ((S ++ zs (k + 1)).size = S.size + (k + 1)) := (by rw [ByteArray.size_append, zs_size] : (S ++ zs (k + 1)).size = S.size + (k + 1))
      have HT : Hid ((S ++ zs k).size = S.size + k) := hn
      have Hs2 : Hid ((S ++ zs k) ++ (⟨#[0]⟩ : ByteArray) = S ++ zs (k + 1)) := hs2
      obtain ⟨T, hT⟩ : ∃ T, T = S ++ zs k := ⟨_, rfl⟩
      rw [← hT] at HT Hs2 ⊢
      have c2 : ¬ 9223372036854775807 < T.size + 1 := by have := HT.out; omega
      have hgo : ((T.size : Int) % 8 != 0 ∨ (T.size : Int) == 0) := by
        have := HT.out
        rcases hc with h | h
        · left; simp only [bne_iff_ne]; omega
        · right; simp only [beq_iff_eq]; omega
      clear hn hs2 hc hT
      by_cases h8 : T.size % 8 = 0
      · have q1 : ((T.size : Int) % 8 != 0) = false := by simp only [bne_eq_false_iff_eq]; omega
        have q2 : ((T.size : Int) == 0) = true := by
          rcases hgo with h | h
          · rw [q1] at h; cases h
          · exact h
        clear hgo h8
        go_wp2
        exact ⟨⟨k + 1, by rw [Hs2.out], hi, trivial⟩, by show _ - (T ++ _).size < _ - T.size; rw [Hs2.out, hn2.out, HT.out]; omega⟩
      · have q1 : ((T.size : Int) % 8 != 0) = true := by simp only [bne_iff_ne]; omega
        clear hgo h8
        go_wp2
        exact ⟨⟨k + 1, by rw [Hs2.out], hi, trivial⟩, by show _ - (T ++ _).size < _ - T.size; rw [Hs2.out, hn2.out, HT.out]; omega⟩
    · have hk8 := loop_out S.size k hk (by omega) (by omega)
      have q1 : (((S ++ zs k).size : Int) % 8 != 0) = false := by simp only [bne_eq_false_iff_eq]; omega
      have q2 : (((S ++ zs k).size : Int) == 0) = false := by simp only [beq_eq_false_iff_ne]; omega
      have HF : Hid (S ++ zs k = fillB 1 s) := (by rw [← hF, ← zs_fill S, ← hk8] : S ++ zs k = fillB 1 s)
      generalize S ++ zs k = T at *
      clear hn hc hk8 hF
      go_wp2
      exact bodyPost_ret (v := .tuple #[.string (fillB 1 s), .int .i64 0]) (by rw [← HF.out]; simp [results, Try.results9, go_sem]) rfl ⟨rfl, rfl⟩
set_option maxRecDepth 100000 in
set_option maxHeartbeats 1600000 in
theorem padr_two (s : ByteArray) (hs : s.size ≤ 140737488400000) (w : World) :
    Calls Try.prog 9 #[.int .i64 2, .string s] w fun e w' => e = .returned (.tuple #[.string (fillB 2 s), .int .i64 0]) ∧ w' = w := by
  have c1 : ¬ 9223372036854775807 < s.size + 1 := by omega
  obtain ⟨S, hS⟩ : ∃ S, S = s ++ (⟨#[128]⟩ : ByteArray) := ⟨_, rfl⟩
  have hz : S.size = s.size + 1 := by rw [hS, ByteArray.size_append]; rfl
  have hF : (⟨(padL S.data.toList).toArray⟩ : ByteArray) = fillB 2 s := by
    rw [fillB, hS]
    simp [fillL]
  have hz2 : S.size ≤ 140737488400001 := by omega
  have Hz : Hid (S.size = s.size + 1) := hz
  clear hz
  go_enter Try.func9, Try.ntmps9
  go_wp2
  go_loopw [1] (fun v wr => ∃ (k : Nat), v = .string (S ++ zs k) ∧ S.size + k ≤ 8 * nb S.size ∧ wr = w) (fun v _ => 8 * nb S.size - (match v with | .string t => t.size | _ => 0))
  case atStart => exact ⟨0, by rw [zs_zero, hS], by have := nb_ge S.size; omega, rfl⟩
  case round =>
    obtain ⟨k, rfl, hk, rfl⟩ := hrel
    have hn : (S ++ zs k).size = S.size + k := by rw [ByteArray.size_append, zs_size]
    have hb := nb_le S.size
    by_cases hc : (S.size + k) % 8 ≠ 0 ∨ S.size + k = 0
    · have hi := loop_in S.size k hk hc
      have hs2 := zs_succ S k
      have hn2 : Hid ((S ++ zs (k + 1)).size = S.size + (k + 1)) := (by rw [ByteArray.size_append, zs_size] : (S ++ zs (k + 1)).size = S.size + (k + 1))
      have HT : Hid ((S ++ zs k).size = S.size + k) := hn
      have Hs2 : Hid ((S ++ zs k) ++ (⟨#[0]⟩ : ByteArray) = S ++ zs (k + 1)) := hs2
      obtain ⟨T, hT⟩ : ∃ T, T = S ++ zs k := ⟨_, rfl⟩
      rw [← hT] at HT Hs2 ⊢
      have c2 : ¬ 9223372036854775807 < T.size + 1 := by have := HT.out; omega
      have hgo : ((T.size : Int) % 8 != 0 ∨ (T.size : Int) == 0) := by
        have := HT.out
        rcases hc with h | h
        · left; simp only [bne_iff_ne]; omega
        · right; simp only [beq_iff_eq]; omega
      clear hn hs2 hc hT
      by_cases h8 : T.size % 8 = 0
      · have q1 : ((T.size : Int) % 8 != 0) = false := by simp only [bne_eq_false_iff_eq]; omega
        have q2 : ((T.size : Int) == 0) = true := by
          rcases hgo with h | h
          · rw [q1] at h; cases h
          · exact h
        clear hgo h8
        go_wp2
        exact ⟨⟨k + 1, by rw [Hs2.out], hi, trivial⟩, by show _ - (T ++ _).size < _ - T.size; rw [Hs2.out, hn2.out, HT.out]; omega⟩
      · have q1 : ((T.size : Int) % 8 != 0) = true := by simp only [bne_iff_ne]; omega
        clear hgo h8
        go_wp2
        exact ⟨⟨k + 1, by rw [Hs2.out], hi, trivial⟩, by show _ - (T ++ _).size < _ - T.size; rw [Hs2.out, hn2.out, HT.out]; omega⟩
    · have hk8 := loop_out S.size k hk (by omega) (by omega)
      have q1 : (((S ++ zs k).size : Int) % 8 != 0) = false := by simp only [bne_eq_false_iff_eq]; omega
      have q2 : (((S ++ zs k).size : Int) == 0) = false := by simp only [beq_eq_false_iff_ne]; omega
      have HF : Hid (S ++ zs k = fillB 2 s) := (by rw [← hF, ← zs_fill S, ← hk8] : S ++ zs k = fillB 2 s)
      generalize S ++ zs k = T at *
      clear hn hc hk8 hF
      go_wp2
      exact bodyPost_ret (v := .tuple #[.string (fillB 2 s), .int .i64 0]) (by rw [← HF.out]; simp [results, Try.results9, go_sem]) rfl ⟨rfl, rfl⟩
theorem padr_good (m : Nat) (hm : m = 1 ∨ m = 2) (s : ByteArray) (hs : s.size ≤ 140737488400000) (w : World) :
    Calls Try.prog 9 #[.int .i64 (m : Int), .string s] w fun e w' => e = .returned (.tuple #[.string (fillB m s), .int .i64 0]) ∧ w' = w := by
  rcases hm with rfl | rfl
  · exact padr_one s hs w
  · exact padr_two s hs w
theorem padr_bad (a : Int) (q1 : (a == 1) = false) (q2 : (a == 2) = false) (s : ByteArray) (w : World) :
    Calls Try.prog 9 #[.int .i64 a, .string s] w fun e w' => e = .returned (.tuple #[.string ⟨#[]⟩, .int .i64 1]) ∧ w' = w := by
  go_enter Try.func9, Try.ntmps9
  go_wp2
  exact bodyPost_ret (v := .tuple #[.string ⟨#[]⟩, .int .i64 1]) (by simp [results, Try.results9, go_sem]) rfl ⟨rfl, rfl⟩
end Go.Proofs.Ytpifebapodfeaaa.Pe
