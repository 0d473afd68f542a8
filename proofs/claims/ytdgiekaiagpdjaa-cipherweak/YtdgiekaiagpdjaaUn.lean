/- under, over. -/
import Derived.Test.YtdgiekaiagpdjaaBl
import Derived.Test.YtdgiekaiagpdjaaCk
import Derived.Test.YtdgiekaiagpdjaaPc
namespace Go.Proofs.Ytdgiekaiagpdjaa.Un
set_option linter.unusedVariables false
open Go.RowKit Pla Cb Tk Wd Nw Bk Aw Eb Et Pc Bl
open Lib0 (bs bs_length bs_append owns_len run_str own_ge below_app below_app0 ret_str)
theorem xor255 (x : UInt8) : bits .xor .u8 (x.toNat : Int) 255 = ((x ^^^ 255).toNat : Int) := by
  have := u8_xor_nat x.toNat 255 x.toNat_lt (by decide)
  rw [UInt8.toNat_xor]; exact this
theorem ovr_snoc (s : ByteArray) (k : Nat) (h : k < s.size) : bs ((ovr s.data.toList).take (k + 1)) = bs ((ovr s.data.toList).take k) ++ [.int .u8 ((s[k] ^^^ 255).toNat : Int)] := by
  have hl : k < (ovr s.data.toList).length := by rw [ovr_len]; simpa using h
  rw [List.take_succ_eq_append_getElem hl, bs_append]
  congr 1
  simp [ovr, bs]; rfl
set_option maxRecDepth 100000 in
set_option maxHeartbeats 1600000 in
theorem under_any (key t : ByteArray) (K N : Nat) (hK : Hid (kindN key.size = K)) (h1 : 1 ≤ K) (h3 : K ≤ 3) (hN : Hid (t.size = 8 * N)) (hN2 : N ≤ 1000) (w : World) :
    Calls Try.prog 7 #[.string key, .string t] w fun e w' => e = .returned (.string ⟨(mapB (enc key.data.toList) t.data.toList).toArray⟩) ∧ Below w.heap.size w w' := by
  have NE := new_good key K hK h1 h3
  have EN := fun g u (hk : Key u g K key.data.toList) => Enc_good t g K N key.data.toList u hN (by have := hN.out; omega) (⟨by rw [len_size]; exact hK, h1⟩ : kindN key.data.toList.length = K ∧ 1 ≤ K) hk
  generalize (mapB (enc key.data.toList) t.data.toList).toArray = L at *
  clear hK hN
  go_enter Try.func7, Try.ntmps7
  go_wp2_with (first
    | (go_at_call 10; refine (NE _).mono ?_; rintro e x ⟨g, rfl, hg, hx, hbx⟩)
    | (go_at_call 11; refine (EN g _ (Bl.keyOf hx)).mono ?_; rintro e y ⟨rfl, hy⟩))
  exact bodyPost_ret (v := .string ⟨L⟩) (by simp [results, Try.results7, go_sem]) rfl ⟨rfl, keepB hbx hy⟩
end Go.Proofs.Ytdgiekaiagpdjaa.Un
