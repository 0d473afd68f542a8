/- Plain: what is read is written again. -/
import Derived.Test.YtkleoklcaalogaaDv
import Derived.Test.YtkleoklcaalogaaEo
namespace Go.Proofs.Ytkleoklcaalogaa.Ag
set_option linter.unusedVariables false
open Go.RowKit Pla Bm Bn Br Bv Bw Bx Hf Wr Wt En Eo Rd Rs Rb De Dv
theorem bitsN_split (v : Nat → Nat) (t : Nat) : ∀ m, bitsN v (t + m) = 256 ^ m * bitsN v t + bitsN (fun i => v (t + i)) m
  | 0 => by simp [bitsN]
  | m + 1 => by
    rw [show t + (m + 1) = (t + m) + 1 by omega, bitsN, bitsN_split v t m, bitsN, Nat.pow_succ, Nat.mul_add, ← Nat.mul_assoc, Nat.mul_comm 256 (256 ^ m)]
    omega
theorem hb_bits (v : Nat → Nat) (hv : ∀ i, v i < 256) (i : Nat) (h : i < 8) : Hf.hb (bitsN v 8) i = v i := by
  have e := bitsN_split v (i + 1) (7 - i)
  rw [show i + 1 + (7 - i) = 8 by omega] at e
  have l := bitsN_lt (fun j => v (i + 1 + j)) (fun j => hv _) (7 - i)
  have p : (2 : Nat) ^ (56 - 8 * i) = 256 ^ (7 - i) := by rw [show 56 - 8 * i = 8 * (7 - i) by omega, Nat.pow_mul]
  have hi := hv i
  rw [Hf.hb, p, e, Nat.mul_add_div (Nat.pow_pos (by decide)), Nat.div_eq_of_lt l, Nat.add_zero, bitsN]
  omega
theorem chr_wv (enc : Int) (c : Nat) (hc : c < 256) (h : 0 ≤ wv enc c) : chr enc (wv enc c).toNat = c := by
  unfold wv chr at *
  by_cases h4 : enc = 4
  · rw [if_pos h4] at *
    by_cases a : 240 ≤ c ∧ c ≤ 249
    · rw [if_pos a, if_pos (by omega)]; omega
    · rw [if_neg a] at *
      by_cases b : 193 ≤ c ∧ c ≤ 198
      · rw [if_pos b, if_neg (by omega)]; omega
      · rw [if_neg b] at h; omega
  · rw [if_neg h4] at *
    by_cases a : 48 ≤ c ∧ c ≤ 57
    · rw [if_pos a, if_pos (by omega)]; omega
    · rw [if_neg a] at *
      by_cases b : 65 ≤ c ∧ c ≤ 70
      · rw [if_pos b, if_neg (by omega)]; omega
      · rw [if_neg b] at h; omega
theorem scan_good (enc : Int) (s : ByteArray) : ∀ (k i : Nat), scan enc s k i = none → ∀ j, i ≤ j → j < i + k → 0 ≤ wl enc s j
  | 0, i, _, j, h1, h2 => by omega
  | k + 1, i, h, j, h1, h2 => by
    rw [scan] at h
    by_cases a : i = s.size
    · rw [if_pos a] at h; cases h
    · rw [if_neg a] at h
      by_cases b : wl enc s i < 0
      · rw [if_pos b] at h; cases h
      · rw [if_neg b] at h
        by_cases e : j = i
        · subst e; omega
        · exact scan_good enc s k (i + 1) h j (by omega) (by omega)
theorem take_map (s : ByteArray) (n : Nat) (h : n ≤ s.size) : (List.range n).map (fun i => UInt8.ofNat (s.data[i]!).toNat) = s.data.toList.take n := by
  apply List.ext_getElem
  · rw [List.length_map, List.length_range, List.length_take, Array.length_toList]
    have : s.data.size = s.size := rfl
    omega
  · intro i h1 h2
    have hi : i < n := by simpa using h1
    have hs : i < s.data.size := by have : s.data.size = s.size := rfl; omega
    rw [List.getElem_map, List.getElem_range, List.getElem_take, Array.getElem_toList, getElem!_pos s.data i hs, UInt8.ofNat_toNat]
theorem wr_read (enc : Int) (s : ByteArray) (hw : widthN enc ≠ 0) (h : (rhV enc s).2.1 = 0) : wrL enc (Hf.hb (bitsN (rhV enc s).1 8)) = s.data.toList.take (widthN enc) := by
  have hok := rhV_ok enc s hw h
  have hv := rhV_lt enc s
  rcases width_cases enc hw with ⟨h5, e⟩ | ⟨h5, e⟩
  · rw [e] at hok ⊢
    rw [wrL, if_pos h5, ← take_map s 8 hok.1]
    apply List.map_congr_left
    intro i hi
    rw [hb_bits _ hv i (List.mem_range.1 hi), rhV, if_pos h5, rbV, if_neg (by omega)]
    rfl
  · rw [e] at hok ⊢
    rw [wrL, if_neg h5, ← take_map s 16 hok.1]
    apply List.map_congr_left
    intro j hj
    have hj := List.mem_range.1 hj
    have hn : scan enc s 16 0 = none := by
      cases hq : scan enc s 16 0 with
      | none => rfl
      | some x =>
        obtain ⟨e', p⟩ := x
        have := scan_some enc s 16 0 e' p hq
        rw [rhV, if_neg h5, rsV, hq] at h; simp at h; omega
    have hg := scan_good enc s 16 0 hn j (by omega) (by omega)
    have hnb : nib (Hf.hb (bitsN (rhV enc s).1 8)) j = nb enc s j := by
      have l1 := nb_lt enc s (2 * (j / 2))
      have l2 := nb_lt enc s (2 * (j / 2) + 1)
      have hvj : (rhV enc s).1 (j / 2) = 16 * nb enc s (2 * (j / 2)) + nb enc s (2 * (j / 2) + 1) := by
        rw [rhV, if_neg h5, rsV, hn]
        show hU enc s 16 (j / 2) = _
        rw [hU, if_pos (by omega)]
      rw [nib, hb_bits _ hv (j / 2) (by omega), hvj]
      by_cases p : j % 2 = 0
      · rw [if_pos p, show 2 * (j / 2) = j by omega] at *; omega
      · rw [if_neg p, show 2 * (j / 2) + 1 = j by omega] at *; omega
    rw [hnb, nb, wl, chr_wv enc _ (UInt8.toNat_lt _) hg]
theorem scan_le (enc : Int) (s : ByteArray) : ∀ (k i : Nat) (e : Int) (p : Nat), i ≤ s.size → scan enc s k i = some (e, p) → p ≤ s.size
  | 0, i, e, p, _, h => by cases h
  | k + 1, i, e, p, hi, h => by
    rw [scan] at h
    by_cases h1 : i = s.size
    · rw [if_pos h1] at h; simp at h; omega
    · rw [if_neg h1] at h
      by_cases h2 : wl enc s i < 0
      · rw [if_pos h2] at h; simp at h; omega
      · rw [if_neg h2] at h
        exact scan_le enc s k (i + 1) e p (by omega) h
/-- what Decode takes, Encode writes again -/
theorem dec_enc (enc : Int) (s : ByteArray) (hw : widthN enc ≠ 0) (h : (decV enc s).2.2.1 = 0) :
    encV enc (decV enc s).1 (decV enc s).2.1 = (s.data.toList.take (decV enc s).2.2.2, 0) ∧ rightB (decV enc s).1 (decV enc s).2.1 = true ∧ (decV enc s).1 < 18446744073709551616 ∧ (decV enc s).2.1 < 18446744073709551616 := by
  have hv := rhV_lt enc s
  have hF := bitsN_64 _ hv
  have hv2 := rhV_lt enc (s.extract (widthN enc) s.size)
  have hF2 := bitsN_64 _ hv2
  unfold decV at *
  rw [if_neg hw] at *
  by_cases h1 : (rhV enc s).2.1 ≠ 0
  · rw [if_pos h1] at h; exact absurd h h1
  · rw [if_neg h1] at *
    have h1' := Classical.not_not.1 h1
    have w1 := wr_read enc s hw h1'
    by_cases h2 : bitsN (rhV enc s).1 8 < 9223372036854775808
    · rw [if_pos h2] at *
      have hr : rightB (bitsN (rhV enc s).1 8) 0 = true := by simp [rightB, h2]
      refine ⟨?_, hr, hF, by show (0 : Nat) < _; decide⟩
      show encV enc (bitsN (rhV enc s).1 8) 0 = (s.data.toList.take (widthN enc), 0)
      rw [encV, if_neg (by simp [hw, hr]), encL, if_pos rfl, w1]
    · rw [if_neg h2] at *
      by_cases h3 : (rhV enc (s.extract (widthN enc) s.size)).2.1 ≠ 0
      · rw [if_pos h3] at h; exact absurd h h3
      · rw [if_neg h3] at *
        have h3' := Classical.not_not.1 h3
        by_cases h4 : bitsN (rhV enc (s.extract (widthN enc) s.size)).1 8 ≥ 9223372036854775808 ∨ bitsN (rhV enc (s.extract (widthN enc) s.size)).1 8 = 0
        · rw [if_pos h4] at h; simp at h
        · rw [if_neg h4]
          have w2 := wr_read enc (s.extract (widthN enc) s.size) hw h3'
          have hok := rhV_ok enc (s.extract (widthN enc) s.size) hw h3'
          rw [ByteArray.size_extract] at hok
          generalize bitsN (rhV enc s).1 8 = G at *
          generalize bitsN (rhV enc (s.extract (widthN enc) s.size)).1 8 = S at *
          have hr : rightB (G - 9223372036854775808) S = true := by
            simp only [rightB, Bool.and_eq_true, decide_eq_true_eq]; omega
          refine ⟨?_, hr, by show G - _ < _; omega, hF2⟩
          show encV enc (G - 9223372036854775808) S = (s.data.toList.take (2 * widthN enc), 0)
          rw [encV, if_neg (by simp [hw, hr]), encL, if_neg (by omega), show G - 9223372036854775808 + 9223372036854775808 = G by omega, w1, w2]
          have hx : (s.extract (widthN enc) s.size).data.toList = (s.data.toList.drop (widthN enc)) := by
            simp [ByteArray.data_extract, Array.toList_extract]
            rw [List.take_of_length_le (by simp)]
          rw [hx, show 2 * widthN enc = widthN enc + widthN enc by omega, List.take_add]
theorem dec_bad (enc : Int) (s : ByteArray) (h : (decV enc s).2.2.1 ≠ 0) : (decV enc s).1 = 0 ∧ (decV enc s).2.1 = 0 := by
  unfold decV at *
  (repeat' split at *) <;> simp_all
theorem dec_place (enc : Int) (s : ByteArray) : (decV enc s).2.2.2 ≤ s.size := by
  unfold decV
  by_cases hw : widthN enc = 0
  · rw [if_pos hw]; exact Nat.zero_le _
  · rw [if_neg hw]
    have pl : ∀ t : ByteArray, (rhV enc t).2.2 ≤ t.size := fun t => by
      rcases width_cases enc hw with ⟨h5, e⟩ | ⟨h5, e⟩
      · rw [rhV, if_pos h5, rbV]; split
        · exact Nat.le_refl _
        · exact Nat.zero_le _
      · rw [rhV, if_neg h5, rsV]
        cases hq : scan enc t 16 0 with
        | none => exact Nat.zero_le _
        | some x => obtain ⟨e', p⟩ := x; exact scan_le enc t 16 0 e' p (Nat.zero_le _) hq
    by_cases h1 : (rhV enc s).2.1 ≠ 0
    · rw [if_pos h1]; exact pl s
    · rw [if_neg h1]
      have hok := rhV_ok enc s hw (Classical.not_not.1 h1)
      by_cases h2 : bitsN (rhV enc s).1 8 < 9223372036854775808
      · rw [if_pos h2]; exact hok.1
      · rw [if_neg h2]
        have pt := pl (s.extract (widthN enc) s.size)
        rw [ByteArray.size_extract] at pt
        by_cases h3 : (rhV enc (s.extract (widthN enc) s.size)).2.1 ≠ 0
        · rw [if_pos h3]; show widthN enc + _ ≤ _; omega
        · rw [if_neg h3]
          have hok2 := rhV_ok enc (s.extract (widthN enc) s.size) hw (Classical.not_not.1 h3)
          rw [ByteArray.size_extract] at hok2
          split
          · exact hok.1
          · show 2 * widthN enc ≤ _; omega
end Go.Proofs.Ytkleoklcaalogaa.Ag
