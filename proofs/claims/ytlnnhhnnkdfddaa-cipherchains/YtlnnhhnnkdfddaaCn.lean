/- chained: what the program answers is what the document answers. -/
import Derived.Test.YtlnnhhnnkdfddaaRc
namespace Go.Proofs.Ytlnnhhnnkdfddaa.Cn
set_option linter.unusedVariables false
open Go.RowKit Pla Cb Wd Nw Bk Eb Et Cc Ch Pm Ro Rl Ru Tu Rc
open Bl (len_size mk_eq)
open Ea (rowB)
set_option maxRecDepth 100000 in
set_option maxHeartbeats 1600000 in
theorem chained_false (g K : Nat) (l : List UInt8) (k f s R : ByteArray) (E : Int) (e0 : (0 : Int) ≤ E) (e1 : E ≤ 100) (w : World) (hk : Key w g K l)
    (T : ∀ u, Calls Try.prog 35 #[.string k, .string f, .string s, .bool false] u (RetE R E u)) (P : ∀ u, Key u g K l → Calls Try.prog 28 #[.pointer (some ⟨g, 0, none⟩), .string f, .string s] u (RetE R E u)) :
    Calls Try.prog 14 #[.pointer (some ⟨g, 0, none⟩), .string k, .string f, .string s, .bool false] w fun e w' => e = .returned (.bool true) ∧ Below w.heap.size w w' := by
  go_enter Try.func14, Try.ntmps14
  go_wp2_with (go_at_call 35; refine (T _).mono ?_; rintro e y ⟨rfl, hy⟩)
  have ky := key_kept hy hk
  go_loopw [13] (fun c wr => ∃ m : Nat, m ≤ 2 ∧ c = .int .i64 (m : Int) ∧ Key wr g K l ∧ Below w.heap.size w wr) (fun c _ => 3 - (intOf c).toNat)
  case atStart => exact ⟨0, by omega, rfl, ky, hy⟩
  case round =>
    obtain ⟨m, hm, rfl, hkw, hb⟩ := hrel
    by_cases hlt : m < 2
    · have q : (m : Int) < 2 := by omega
      have q0 : (0 : Int) ≤ (m : Int) := by omega
      go_wp2_with (go_at_call 28; refine (P _ hkw).mono ?_; rintro e z ⟨rfl, hz⟩)
      exact ⟨⟨m + 1, by omega, by simp, key_kept hz hkw, keepB hb hz⟩, by simp only [intOf]; omega⟩
    · obtain rfl : m = 2 := by omega
      go_wp2
      go_ret
      exact ⟨rfl, hb⟩
set_option maxRecDepth 100000 in
set_option maxHeartbeats 1600000 in
theorem chained_true (g K : Nat) (l : List UInt8) (k f s R : ByteArray) (E : Int) (e0 : (0 : Int) ≤ E) (e1 : E ≤ 100) (w : World) (hk : Key w g K l)
    (T : ∀ u, Calls Try.prog 35 #[.string k, .string f, .string s, .bool true] u (RetE R E u)) (P : ∀ u, Key u g K l → Calls Try.prog 29 #[.pointer (some ⟨g, 0, none⟩), .string f, .string s] u (RetE R E u)) :
    Calls Try.prog 14 #[.pointer (some ⟨g, 0, none⟩), .string k, .string f, .string s, .bool true] w fun e w' => e = .returned (.bool true) ∧ Below w.heap.size w w' := by
  go_enter Try.func14, Try.ntmps14
  go_wp2_with (go_at_call 35; refine (T _).mono ?_; rintro e y ⟨rfl, hy⟩)
  have ky := key_kept hy hk
  go_loopw [13] (fun c wr => ∃ m : Nat, m ≤ 2 ∧ c = .int .i64 (m : Int) ∧ Key wr g K l ∧ Below w.heap.size w wr) (fun c _ => 3 - (intOf c).toNat)
  case atStart => exact ⟨0, by omega, rfl, ky, hy⟩
  case round =>
    obtain ⟨m, hm, rfl, hkw, hb⟩ := hrel
    by_cases hlt : m < 2
    · have q : (m : Int) < 2 := by omega
      have q0 : (0 : Int) ≤ (m : Int) := by omega
      go_wp2_with (go_at_call 29; refine (P _ hkw).mono ?_; rintro e z ⟨rfl, hz⟩)
      exact ⟨⟨m + 1, by omega, by simp, key_kept hz hkw, keepB hb hz⟩, by simp only [intOf]; omega⟩
    · obtain rfl : m = 2 := by omega
      go_wp2
      go_ret
      exact ⟨rfl, hb⟩
theorem chained_any (g K : Nat) (k f s : ByteArray) (back : Bool) (hK : kindN k.size = K) (h1 : 1 ≤ K) (hs : s.size ≤ 8000) (w : World) (hk : Key w g K k.data.toList) :
    Calls Try.prog 14 #[.pointer (some ⟨g, 0, none⟩), .string k, .string f, .string s, .bool back] w fun e w' => e = .returned (.bool true) ∧ Below w.heap.size w w' := by
  have hkl : kindN k.data.toList.length = K ∧ 1 ≤ K := ⟨by rw [len_size]; exact hK, h1⟩
  have BAD : (((f.size : Int) != 8) || ((s.size : Int) % 8 != 0)) = true → ∀ bk u, Calls Try.prog 35 #[.string k, .string f, .string s, .bool bk] u (RetE ⟨#[]⟩ 31 u) := fun q bk u => (chain_bad k f s bk q (by omega) u).mono (fun e w' h => ⟨h.1, h.2 ▸ Below.refl _ _⟩)
  by_cases hf : f.size = 8
  · have qf : ((f.size : Int) != 8) = false := by simp only [bne_eq_false_iff_eq]; omega
    by_cases h8 : s.size % 8 = 0
    · have hN : s.size = 8 * (s.size / 8) := by omega
      cases back
      · refine chained_false g K k.data.toList k f s _ 0 (by decide) (by decide) w hk (fun u => chain_fore k f s (good_len hK h1) hf (s.size / 8) hN (by omega) u) ?_
        intro u hu
        have h := Cha_good f s g K (s.size / 8) k.data.toList u hf hN (by omega) hkl hu
        rw [chainL, len_size] at h
        exact h
      · refine chained_true g K k.data.toList k f s _ 0 (by decide) (by decide) w hk (fun u => chain_back k f s (good_len hK h1) hf (s.size / 8) hN (by omega) u) ?_
        intro u hu
        have h := Unc_good f s g K (s.size / 8) k.data.toList u hf hN (by omega) hkl hu
        rw [unchL, len_size] at h
        exact h
    · have q : ((s.size : Int) % 8 != 0) = true := by simp only [bne_iff_ne]; omega
      have qq : (((f.size : Int) != 8) || ((s.size : Int) % 8 != 0)) = true := by rw [q]; simp
      cases back
      · exact chained_false g K k.data.toList k f s _ 31 (by decide) (by decide) w hk (BAD qq false) (fun u hu => Cha_bad f s g u (by omega) qf h8 (by omega))
      · exact chained_true g K k.data.toList k f s _ 31 (by decide) (by decide) w hk (BAD qq true) (fun u hu => Unc_bad f s g u (by omega) qf h8 (by omega))
  · have qf : ((f.size : Int) != 8) = true := by simp only [bne_iff_ne]; omega
    have qq : (((f.size : Int) != 8) || ((s.size : Int) % 8 != 0)) = true := by rw [qf]; rfl
    cases back
    · exact chained_false g K k.data.toList k f s _ 31 (by decide) (by decide) w hk (BAD qq false) (fun u hu => Cha_first f s g u qf)
    · exact chained_true g K k.data.toList k f s _ 31 (by decide) (by decide) w hk (BAD qq true) (fun u hu => Unc_first f s g u qf)
theorem kind_le (n : Nat) : kindN n ≤ 3 := by
  unfold kindN
  split
  · omega
  · split
    · omega
    · split <;> omega
end Go.Proofs.Ytlnnhhnnkdfddaa.Cn
