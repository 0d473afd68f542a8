/- under, over. -/
import Derived.Test.YtlnnhhnnkdfddabBl
import Derived.Test.YtlnnhhnnkdfddabCk
import Derived.Test.YtlnnhhnnkdfddabPc
namespace Go.Proofs.Ytlnnhhnnkdfddab.Un
set_option linter.unusedVariables false
open Go.RowKit Pla Cb Tk Wd Nw Bk Aw Eb Et Pc Bl
open Lib0 (bs bs_length bs_append owns_len run_str own_ge below_app below_app0 ret_str)
theorem xor255 (x : UInt8) : bits .xor .u8 (x.toNat : Int) 255 = ((x ^^^ 255).toNat : Int) := by
  have := u8_xor_nat x.toNat 255 x.toNat_lt (by decide)
  rw [UInt8.toNat_xor]; exact this
theorem ovr_snoc (s : ByteArray) (k : Nat) (h : k < s.size) : bs ((ovr s.data.toList).take (k + 1)) = bs ((ovr s.data.toList).take k) ++ [.int .u8 ((s[k] ^^^ 255).toNat : Int)] := by
  have hl : k < (ovr s.data.toList).length := by rw [ovr_len]; simpa using h
  rw [List.take_succ_eq_append_getElem hl, bs_append]
  congr 1
  simp [ovr, bs]; rfl
set_option maxRecDepth 100000 in
set_option maxHeartbeats 1600000 in
theorem over_any (s : ByteArray) (hs : s.size ≤ 1000) (w : World) :
    Calls Try.prog 12 #[.string s] w fun e w' => e = .returned (.string ⟨(ovr s.data.toList).toArray⟩) ∧ Below w.heap.size w w' := by
  obtain ⟨i0, hi, hz0, hz1, hz2⟩ := info_parts info
  go_enter Try.func12, Try.ntmps12
  go_wp2
  go_loopw [3, 4] (fun v c wr => ∃ k : Nat, k ≤ s.size ∧ c = .int .i64 (k : Int) ∧ wr.ownsRow w.heap.size 5 1 v k (bs ((ovr s.data.toList).take k)) ∧ Below w.heap.size w wr) (fun _ c _ => s.size + 1 - (intOf c).toNat)
  case atStart => exact ⟨0, Nat.zero_le _, rfl, World.ownsRow_nil _ _ _ _, Below.refl _ _⟩
  case round =>
    obtain ⟨k, hk, rfl, hown, hbw⟩ := hrel
    have hbs := hbw.size
    by_cases hlt : k < s.size
    · have h1 : (0 : Int) ≤ (k : Int) := by omega
      have h2 : (k : Int) < (s.size : Int) := by omega
      have u1 := xor255 s[k]
      have HN : Hid (bs ((ovr s.data.toList).take (k + 1)) = bs ((ovr s.data.toList).take k) ++ [.int .u8 ((s[k] ^^^ 255).toNat : Int)]) := ovr_snoc s k hlt
      go_wp2_with (at_builtin; refine wpList_append_lies _ rfl _ _ _ rfl w.heap.size 5 i0 _ 1 1 Try.underlying29 hi hz0 hz1 hz2 rfl (by omega) _ k _ rfl (hown.alloc _) ⟨wr.heap.size, 0, none⟩ 1 1 _ rfl (by rfl) (World.news_of_block (heap_alloc_new wr _)) (by simp [Value.oneCell']) (by omega) (by unfold maxLen; omega) (by omega) (by first | omega | (simp <;> omega)) (wr.heap.size + 1) (by simp) ?_; intro gg cap w1 hown1 hgrow hat hlt1)
      exact ⟨⟨k + 1, by omega, by simp, owns_len hown1 rfl (by omega) HN.out.symm, below_app0 hbw hbs hown hgrow⟩, by simp only [intOf]; omega⟩
    · have hcv := run_str (P := Try.prog) (src := 29) (dst := 9) Try.underlying29 Try.underlying5 Try.underlying9 hown
      have h3 : ¬ (k : Int) < (s.size : Int) := by omega
      rw [List.take_of_length_le (by rw [ovr_len, len_size]; omega)] at hcv
      go_wp2
      go_ret
      exact ⟨rfl, hbw⟩
set_option maxRecDepth 100000 in
set_option maxHeartbeats 1600000 in
theorem under_any (key t : ByteArray) (K N : Nat) (hK : Hid (kindN key.size = K)) (h1 : 1 ≤ K) (h3 : K ≤ 3) (hN : Hid (t.size = 8 * N)) (hN2 : N ≤ 1000) (w : World) :
    Calls Try.prog 11 #[.string key, .string t] w fun e w' => e = .returned (.string ⟨(mapB (enc key.data.toList) t.data.toList).toArray⟩) ∧ Below w.heap.size w w' := by
  have NE := new_good key K hK h1 h3
  have EN := fun g u (hk : Key u g K key.data.toList) => Enc_good t g K N key.data.toList u hN (by have := hN.out; omega) (⟨by rw [len_size]; exact hK, h1⟩ : kindN key.data.toList.length = K ∧ 1 ≤ K) hk
  generalize (mapB (enc key.data.toList) t.data.toList).toArray = L at *
  clear hK hN
  go_enter Try.func11, Try.ntmps11
  go_wp2_with (first
    | (go_at_call 16; refine (NE _).mono ?_; rintro e x ⟨g, rfl, hg, hx, hbx⟩)
    | (go_at_call 17; refine (EN g _ (Bl.keyOf hx)).mono ?_; rintro e y ⟨rfl, hy⟩))
  exact bodyPost_ret (v := .string ⟨L⟩) (by simp [results, Try.results11, go_sem]) rfl ⟨rfl, keepB hbx hy⟩
end Go.Proofs.Ytlnnhhnnkdfddab.Un
