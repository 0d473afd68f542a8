/- turned: what the program answers is what the document answers. -/
import Derived.Test.YtlnnhhnnkdfddaaRu
import Derived.Test.YtlnnhhnnkdfddaaCk
namespace Go.Proofs.Ytlnnhhnnkdfddaa.Tu
set_option linter.unusedVariables false
open Go.RowKit Pla Cb Wd Nw Bk Eb Et Cc Ch Pm Ro Rl Ru
open Bl (len_size mk_eq)
def RetE (R : ByteArray) (E : Int) (w : World) : Ending → World → Prop := fun e w' => e = .returned (.tuple #[.string R, .int .i64 E]) ∧ Below w.heap.size w w'
set_option maxRecDepth 100000 in
set_option maxHeartbeats 1600000 in
theorem turned_false (g K : Nat) (l : List UInt8) (k s R : ByteArray) (E : Int) (e0 : (0 : Int) ≤ E) (e1 : E ≤ 100) (w : World) (hk : Key w g K l)
    (T : ∀ u, Calls Try.prog 34 #[.string k, .string s, .bool false] u (RetE R E u)) (P : ∀ u, Key u g K l → Calls Try.prog 26 #[.pointer (some ⟨g, 0, none⟩), .string s] u (RetE R E u)) :
    Calls Try.prog 13 #[.pointer (some ⟨g, 0, none⟩), .string k, .string s, .bool false] w fun e w' => e = .returned (.bool true) ∧ Below w.heap.size w w' := by
  go_enter Try.func13, Try.ntmps13
  go_wp2_with (go_at_call 34; refine (T _).mono ?_; rintro e y ⟨rfl, hy⟩)
  have ky := key_kept hy hk
  go_loopw [11] (fun c wr => ∃ m : Nat, m ≤ 2 ∧ c = .int .i64 (m : Int) ∧ Key wr g K l ∧ Below w.heap.size w wr) (fun c _ => 3 - (intOf c).toNat)
  case atStart => exact ⟨0, by omega, rfl, ky, hy⟩
  case round =>
    obtain ⟨m, hm, rfl, hkw, hb⟩ := hrel
    by_cases hlt : m < 2
    · have q : (m : Int) < 2 := by omega
      have q0 : (0 : Int) ≤ (m : Int) := by omega
      go_wp2_with (go_at_call 26; refine (P _ hkw).mono ?_; rintro e z ⟨rfl, hz⟩)
      exact ⟨⟨m + 1, by omega, by simp, key_kept hz hkw, keepB hb hz⟩, by simp only [intOf]; omega⟩
    · obtain rfl : m = 2 := by omega
      go_wp2
      go_ret
      exact ⟨rfl, hb⟩
set_option maxRecDepth 100000 in
set_option maxHeartbeats 1600000 in
theorem turned_true (g K : Nat) (l : List UInt8) (k s R : ByteArray) (E : Int) (e0 : (0 : Int) ≤ E) (e1 : E ≤ 100) (w : World) (hk : Key w g K l)
    (T : ∀ u, Calls Try.prog 34 #[.string k, .string s, .bool true] u (RetE R E u)) (P : ∀ u, Key u g K l → Calls Try.prog 27 #[.pointer (some ⟨g, 0, none⟩), .string s] u (RetE R E u)) :
    Calls Try.prog 13 #[.pointer (some ⟨g, 0, none⟩), .string k, .string s, .bool true] w fun e w' => e = .returned (.bool true) ∧ Below w.heap.size w w' := by
  go_enter Try.func13, Try.ntmps13
  go_wp2_with (go_at_call 34; refine (T _).mono ?_; rintro e y ⟨rfl, hy⟩)
  have ky := key_kept hy hk
  go_loopw [11] (fun c wr => ∃ m : Nat, m ≤ 2 ∧ c = .int .i64 (m : Int) ∧ Key wr g K l ∧ Below w.heap.size w wr) (fun c _ => 3 - (intOf c).toNat)
  case atStart => exact ⟨0, by omega, rfl, ky, hy⟩
  case round =>
    obtain ⟨m, hm, rfl, hkw, hb⟩ := hrel
    by_cases hlt : m < 2
    · have q : (m : Int) < 2 := by omega
      have q0 : (0 : Int) ≤ (m : Int) := by omega
      go_wp2_with (go_at_call 27; refine (P _ hkw).mono ?_; rintro e z ⟨rfl, hz⟩)
      exact ⟨⟨m + 1, by omega, by simp, key_kept hz hkw, keepB hb hz⟩, by simp only [intOf]; omega⟩
    · obtain rfl : m = 2 := by omega
      go_wp2
      go_ret
      exact ⟨rfl, hb⟩
theorem good_len {n K : Nat} (h : kindN n = K) (h1 : 1 ≤ K) : n = 8 ∨ n = 16 ∨ n = 24 := by
  unfold kindN at h
  split at h
  · omega
  · split at h
    · omega
    · split at h <;> omega
theorem map_turn (k s : ByteArray) (N : Nat) (hN : s.size = 8 * N) (back : Bool) : (⟨(mapB (if back then dec k.data.toList else enc k.data.toList) s.data.toList).toArray⟩ : ByteArray) = turnB k.data.toList back s N := by
  rw [turnB, ← mapB_N _ s N hN]
  cases back <;> rfl
theorem turned_any (g K : Nat) (k s : ByteArray) (back : Bool) (hK : kindN k.size = K) (h1 : 1 ≤ K) (hs : s.size ≤ 8000) (w : World) (hk : Key w g K k.data.toList) :
    Calls Try.prog 13 #[.pointer (some ⟨g, 0, none⟩), .string k, .string s, .bool back] w fun e w' => e = .returned (.bool true) ∧ Below w.heap.size w w' := by
  have hkl : kindN k.data.toList.length = K ∧ 1 ≤ K := ⟨by rw [len_size]; exact hK, h1⟩
  by_cases h8 : s.size % 8 = 0
  · have hN : s.size = 8 * (s.size / 8) := by omega
    have T := fun u => turn_ref k s back (good_len hK h1) (s.size / 8) hN (by omega) u
    cases back
    · refine turned_false g K k.data.toList k s _ 0 (by decide) (by decide) w hk T ?_
      intro u hu
      have h := Enc_good s g K (s.size / 8) k.data.toList u hN (by omega) hkl hu
      have e := map_turn k s (s.size / 8) hN false
      simp only [Bool.false_eq_true, if_false] at e
      rw [e] at h
      exact h
    · refine turned_true g K k.data.toList k s _ 0 (by decide) (by decide) w hk T ?_
      intro u hu
      have h := Dec_good s g K (s.size / 8) k.data.toList u hN (by omega) hkl hu
      have e := map_turn k s (s.size / 8) hN true
      simp only [if_true] at e
      rw [e] at h
      exact h
  · have T := fun u => (turn_bad k s back h8 (by omega) u).mono (fun e w' (h : _ ∧ w' = u) => (⟨h.1, h.2 ▸ Below.refl _ _⟩ : RetE ⟨#[]⟩ 31 u e w'))
    cases back
    · exact turned_false g K k.data.toList k s _ 31 (by decide) (by decide) w hk T (fun u hu => (Enc_bad s g u h8 (by omega)).mono (fun e w' h => ⟨h.1, h.2 ▸ Below.refl _ _⟩))
    · exact turned_true g K k.data.toList k s _ 31 (by decide) (by decide) w hk T (fun u hu => (Dec_bad s g u h8 (by omega)).mono (fun e w' h => ⟨h.1, h.2 ▸ Below.refl _ _⟩))
end Go.Proofs.Ytlnnhhnnkdfddaa.Tu
