/- Number and Write, the program's. -/
import Derived.Test.YtmgnmkolijaidaaDoorPck
import Derived.Lib.ItoaNum
import Derived.Lib.Repeat
namespace Go.Proofs.YtmgnmkolijaidaaDoor.Num
open Go.RowKit Lib0 Chars Pck
def stepN (n : Int) (c : UInt8) : Int := 10 * n + ((c.toNat : Int) - 48)
def numV (l : List UInt8) : Int := l.foldl stepN 0
def numR (l : List UInt8) : Int × Int := if l.length = 0 ∨ 18 < l.length then (0, 1) else if fuL dig l < l.length then (0, 11) else (numV l, 0)
theorem numV_snoc (l : List UInt8) (c : UInt8) : numV (l ++ [c]) = 10 * numV l + ((c.toNat : Int) - 48) := by simp [numV, stepN]
theorem dig_bd (c : UInt8) (h : dig c = true) : 48 ≤ c.toNat ∧ c.toNat ≤ 57 := of_decide_eq_true h
theorem all_at0 {p : UInt8 → Bool} (s : ByteArray) (ha : s.data.toList.all p = true) (k : Nat) (h : k < s.size) : p s[k] = true :=
  List.all_eq_true.1 ha s[k] (by show s.data[k] ∈ s.data.toList; simp)
theorem numV_bd (s : ByteArray) (ha : s.data.toList.all dig = true) : ∀ k, k ≤ s.size → 0 ≤ numV (s.data.toList.take k) ∧ numV (s.data.toList.take k) < 10 ^ k
  | 0, _ => by simp [numV]
  | k + 1, h => by
    have ih := numV_bd s ha k (by omega)
    have hd := dig_bd _ (all_at0 s ha k (by omega))
    rw [take_snoc s k (by omega), numV_snoc, Int.pow_succ]
    omega
theorem pow_le18 (k : Nat) (h : k ≤ 18) : (10 : Int) ^ k ≤ 1000000000000000000 := by
  have h1 : (10 : Nat) ^ k ≤ 10 ^ 18 := Nat.pow_le_pow_right (by omega) h
  have h2 : ((10 ^ k : Nat) : Int) = (10 : Int) ^ k := by simp
  have h3 : (10 : Nat) ^ 18 = 1000000000000000000 := by decide
  omega
theorem pow_le17 (k : Nat) (h : k ≤ 17) : (10 : Int) ^ k ≤ 100000000000000000 := by
  have h1 : (10 : Nat) ^ k ≤ 10 ^ 17 := Nat.pow_le_pow_right (by omega) h
  have h2 : ((10 ^ k : Nat) : Int) = (10 : Int) ^ k := by simp
  have h3 : (10 : Nat) ^ 17 = 100000000000000000 := by decide
  omega
theorem not_empty (s : ByteArray) (h : 0 < s.size) : s.toList.isEmpty = false := by
  rw [ByteArray.toList_eq]
  cases he : s.data.toList
  · have := len_eq s; rw [he] at this; simp at this; omega
  · rfl
theorem ret_ii {a b c d : Int} (h : a = b) (h2 : c = d) : Ending.returned (.tuple #[.int .i64 a, .int .i64 c]) = .returned (.tuple #[.int .i64 b, .int .i64 d]) := by rw [h, h2]
set_option maxRecDepth 100000 in
set_option maxHeartbeats 800000 in
theorem number_any (s : ByteArray) (w : World) (hm : s.size ≤ maxLen) :
    Calls Tryd.prog 8 #[.string s] w fun e w' => e = .returned (.tuple #[.int .i64 (numR s.data.toList).1, .int .i64 (numR s.data.toList).2]) ∧ w' = w := by
  have hl := len_eq s
  unfold maxLen at hm
  by_cases h1 : s.size = 0 ∨ 18 < s.size
  · have HE : Hid (numR s.data.toList = (0, 1)) := by show _ = _; unfold numR; rw [if_pos (by omega)]
    rcases h1 with h1 | h1
    · have hs0 : s = ⟨#[]⟩ := by
        apply ByteArray.ext
        exact Array.eq_empty_of_size_eq_zero h1
      rw [HE.out]
      subst hs0
      clear HE hl h1
      go_enter Tryd.func8, Tryd.ntmps8
      go_wp2
      go_ret2
      exact ⟨rfl, rfl⟩
    · have h2 : (18 : Int) < (s.size : Int) := by omega
      have h3 : s.toList.isEmpty = false := not_empty s (by omega)
      rw [HE.out]
      clear HE hl
      go_enter Tryd.func8, Tryd.ntmps8
      go_wp2
      go_ret2
      exact ⟨rfl, rfl⟩
  · have h2 : ¬ (18 : Int) < (s.size : Int) := by omega
    have h3 : s.toList.isEmpty = false := not_empty s (by omega)
    by_cases hf : fuL dig s.data.toList < s.size
    · have HE : Hid (numR s.data.toList = (0, 11)) := by show _ = _; unfold numR; rw [if_neg (by omega), if_pos (by omega)]
      have hf2 : (fuL dig s.data.toList : Int) < (s.size : Int) := by omega
      have h18 : s.size ≤ 18 := by omega
      clear hf hl
      go_enter Tryd.func8, Tryd.ntmps8
      go_wp2_with fail
      refine (fu_dig s _ (by omega)).mono ?_
      rintro e w' ⟨rfl, rfl⟩
      go_wp2
      go_ret2
      exact ⟨by rw [HE.out]; rfl, rfl⟩
    · have HE : Hid (numR s.data.toList = (numV s.data.toList, 0)) := by show _ = _; unfold numR; rw [if_neg (by omega), if_neg (by omega)]
      have HA : Hid (s.data.toList.all dig = true) := fuL_eq _ _ (by have := fuL_le dig s.data.toList; omega)
      have hf2 : ¬ (fuL dig s.data.toList : Int) < (s.size : Int) := by omega
      have h18 : s.size ≤ 18 := by omega
      clear hf hl
      go_enter Tryd.func8, Tryd.ntmps8
      go_wp2_with fail
      refine (fu_dig s _ (by omega)).mono ?_
      rintro e w' ⟨rfl, rfl⟩
      go_wp2
      go_loop [4, 20] (fun n i => ∃ k : Nat, k ≤ s.size ∧ i = .int .i64 k ∧ n = .int .i64 (numV (s.data.toList.take k))) (fun _ i => s.size - (intOf i).toNat)
      case atStart => exact ⟨0, Nat.zero_le _, rfl, rfl⟩
      case round =>
        obtain ⟨k, hk, rfl, rfl⟩ := hrel
        have hb := numV_bd s HA.out k hk
        have hb1 := hb.1
        by_cases hlt : k < s.size
        · have hp := pow_le17 k (by omega)
          have hb2 : numV (s.data.toList.take k) < 100000000000000000 := by omega
          clear hb hp
          have hd := dig_bd _ (all_at0 s HA.out k hlt)
          have d1 : (48 : Int) ≤ (s[k].toNat : Int) := by omega
          have d2 : (s[k].toNat : Int) ≤ 57 := by omega
          clear hd
          have HS : Hid (numV (s.data.toList.take (k + 1)) = 10 * numV (s.data.toList.take k) + ((s[k].toNat : Int) - 48)) := by show _ = _; rw [take_snoc s k hlt, numV_snoc]
          generalize numV (s.data.toList.take k) = v at *
          go_wp2
          go_round
          case rel => exact ⟨k + 1, by omega, by go_num, by rw [HS.out]⟩
          case measure => simp [intOf]; omega
        · go_wp2
          go_ret2
          exact ⟨by rw [HE.out]; exact ret_ii (by rw [take_all s k (by omega)]) rfl, rfl⟩
/-- a number in just so many digits -/
def dgs : Nat → Nat → List UInt8
  | 0, _ => []
  | w + 1, n => dgs w (n / 10) ++ [UInt8.ofNat (48 + n % 10)]
theorem dgs_length : ∀ w n, (dgs w n).length = w
  | 0, _ => rfl
  | w + 1, n => by simp [dgs, dgs_length w]
theorem dgs_zero : ∀ w, dgs w 0 = List.replicate w 48
  | 0 => rfl
  | w + 1 => by rw [dgs, dgs_zero w, List.replicate_succ']; rfl
theorem dec_len (u : Nat) : (Lib.decDigits u).length = Lib.nDigits u := by rw [Lib.decDigits_eq]; simp
theorem nd_le : ∀ (w u : Nat), 1 ≤ w → u < 10 ^ w → Lib.nDigits u ≤ w
  | 0, _, h, _ => by omega
  | w + 1, u, _, h => by
    by_cases h1 : u < 10
    · rw [Lib.nDigits_small h1]; omega
    · rw [Lib.nDigits_big h1]
      have hw : 1 ≤ w := by
        rcases Nat.eq_zero_or_pos w with rfl | h2
        · simp at h; omega
        · exact h2
      have := nd_le w (u / 10) hw (by rw [Nat.pow_succ] at h; omega)
      omega
theorem nd_gt (w u : Nat) (h : ¬ u < 10 ^ w) : w < Lib.nDigits u := by
  have h1 := Lib.lt_pow_nDigits u
  rcases Nat.lt_or_ge w (Lib.nDigits u) with h2 | h2
  · exact h2
  · have : 10 ^ Lib.nDigits u ≤ 10 ^ w := Nat.pow_le_pow_right (by omega) h2
    omega
theorem dec_big (u : Nat) (h : ¬ u < 10) : Lib.decDigits u = Lib.decDigits (u / 10) ++ [UInt8.ofNat (48 + u % 10)] := by rw [Lib.decDigits, dif_neg h]
theorem dgs_pad : ∀ (w u : Nat), 1 ≤ w → u < 10 ^ w → dgs w u = List.replicate (w - Lib.nDigits u) 48 ++ Lib.decDigits u
  | 0, _, h, _ => by omega
  | w + 1, u, _, h => by
    by_cases h1 : u < 10
    · rw [dgs, show u / 10 = 0 by omega, dgs_zero, Lib.nDigits_small h1, Lib.decDigits, dif_pos h1, Nat.mod_eq_of_lt h1]; rfl
    · have hw : 1 ≤ w := by
        rcases Nat.eq_zero_or_pos w with rfl | h2
        · simp at h; omega
        · exact h2
      rw [dgs, dgs_pad w (u / 10) hw (by rw [Nat.pow_succ] at h; omega), Lib.nDigits_big h1, dec_big u h1, List.append_assoc, show w + 1 - (Lib.nDigits (u / 10) + 1) = w - Lib.nDigits (u / 10) by omega]
/-- what Write answers -/
def writeR (n width : Int) : List UInt8 × Int := if n < 0 ∨ width < 1 ∨ 18 < width then ([], 1) else if n.toNat < 10 ^ width.toNat then (dgs width.toNat n.toNat, 0) else ([], 13)
theorem rep_one (c : Nat) : Lib.repeatL [48] c = List.replicate c 48 := by
  induction c with
  | zero => rfl
  | succ c ih => rw [Lib.repeatL, ih, List.replicate_succ]; rfl
theorem below_grow (w : World) (k : Nat) (os : Array Obj) : Below w.heap.size w (Go.Sort.grow (w.drewN k) os) := by
  have h1 : Below w.heap.size w (w.drewN k) := below_drewN (Below.refl _ _) k
  have hk : (w.drewN k).heap = w.heap := World.heap_drewN w k
  refine h1.trans ⟨rfl, rfl, rfl, by simp [Go.Sort.grow], fun j hj => ?_⟩
  show ((w.drewN k).heap ++ os)[j]? = _
  rw [Array.getElem?_append_left (by rw [hk]; exact hj)]
set_option maxRecDepth 100000 in
theorem write_any (n width : Int) (w : World) (hn : n ≤ 9223372036854775807) (hT : Lib.TabIs Tryd.prog w "internal/strconv.uint64pow10" .u64 Lib.pow10Tab) :
    Calls Tryd.prog 7 #[.int .i64 n, .int .i64 width] w fun e w' => e = .returned (.tuple #[.string ⟨(writeR n width).1.toArray⟩, .int .i64 (writeR n width).2]) ∧ Below w.heap.size w w' := by
  by_cases h1 : n < 0 ∨ width < 1 ∨ 18 < width
  · have HE : Hid (writeR n width = ([], 1)) := by show _ = _; unfold writeR; rw [if_pos h1]
    clear hT
    by_cases g1 : n < 0
    · clear h1
      go_enter Tryd.func7, Tryd.ntmps7
      go_wp2
      go_ret2
      exact ⟨by rw [HE.out]; rfl, Below.refl _ _⟩
    · by_cases g2 : width < 1
      · clear h1
        go_enter Tryd.func7, Tryd.ntmps7
        go_wp2
        go_ret2
        exact ⟨by rw [HE.out]; rfl, Below.refl _ _⟩
      · have g3 : 18 < width := by omega
        clear h1
        go_enter Tryd.func7, Tryd.ntmps7
        go_wp2
        go_ret2
        exact ⟨by rw [HE.out]; rfl, Below.refl _ _⟩
  · obtain ⟨u, rfl⟩ : ∃ u : Nat, n = (u : Int) := ⟨n.toNat, by omega⟩
    obtain ⟨m, rfl⟩ : ∃ m : Nat, width = (m : Int) := ⟨width.toNat, by omega⟩
    have m1 : 1 ≤ m := by omega
    have m2 : m ≤ 18 := by omega
    have HT : Hid (Lib.TabIs Tryd.prog w "internal/strconv.uint64pow10" .u64 Lib.pow10Tab) := hT
    have hi : Lib.itoa (u : Int) = Lib.decDigits u := by unfold Lib.itoa; rw [if_neg (by omega)]; simp
    have HI : Hid _ := hi
    obtain ⟨d, Hd, hds⟩ : ∃ d, Hid (ByteArray.mk (Lib.decDigits u).toArray = d) ∧ d.size = Lib.nDigits u := ⟨_, rfl, by rw [← dec_len]; simp [ByteArray.size]⟩
    have hnp := Lib.nDigits_pos u
    by_cases h2 : u < 10 ^ m
    · have hle := nd_le m u m1 h2
      have HE : Hid (writeR (u : Int) (m : Int) = (dgs m u, 0)) := by show _ = _; unfold writeR; rw [if_neg h1, if_pos (by simpa using h2)]; simp
      have HP : Hid (dgs m u = List.replicate (m - Lib.nDigits u) 48 ++ Lib.decDigits u) := dgs_pad m u m1 h2
      clear h1 h2 hT hi
      have hlt : ¬ (m : Int) < (d.size : Int) := by omega
      have hsub : (m : Int) - (d.size : Int) = ((m - d.size : Nat) : Int) := by omega
      have HSU : Hid _ := hsub
      clear hsub
      generalize hN : Lib.nDigits u = N at *
      go_enter Tryd.func7, Tryd.ntmps7
      go_wp2_with fail
      refine (Tryd.strconv_Itoa (u : Int) (by omega) hn _ HT.out).mono ?_
      rintro e w' ⟨rfl, k, os, hw⟩
      have hb : Below w.heap.size w w' := hw ▸ below_grow w k os
      clear hw
      rw [HI.out, Hd.out]
      go_wp2_with fail
      rw [show ((m : Int) - (N : Int)) = ((m - N : Nat) : Int) by omega]
      refine (Tryd.strings_Repeat (ByteArray.mk #[48]) (m - N) _ (by omega) (by show 1 * (m - N) ≤ _; omega)).mono ?_
      rintro e w1 ⟨rfl, hb1⟩
      rw [show (ByteArray.mk #[48]).data.toList = [48] from rfl, rep_one]
      have HX : Hid ((ByteArray.mk (List.replicate (m - N) 48).toArray) ++ d = ByteArray.mk (dgs m u).toArray) := by
        show _ = _
        rw [HP.out, ← Hd.out]
        apply ByteArray.ext
        simp
      have hr : (ByteArray.mk (List.replicate (m - N) 48).toArray).size ≤ 18 := by simp [ByteArray.size]; omega
      have hd18 : d.size ≤ 18 := by omega
      generalize (ByteArray.mk (List.replicate (m - N) 48).toArray) = r at *
      go_wp2
      go_ret2
      exact ⟨by rw [HE.out]; exact ret_ss HX.out rfl, hb.trans (hb1.mono hb.size)⟩
    · have hlt0 := nd_gt m u h2
      have HE : Hid (writeR (u : Int) (m : Int) = ([], 13)) := by show _ = _; unfold writeR; rw [if_neg h1, if_neg (by simpa using h2)]
      clear h1 h2 hT hi
      have hlt : (m : Int) < (d.size : Int) := by omega
      generalize hN : Lib.nDigits u = N at *
      go_enter Tryd.func7, Tryd.ntmps7
      go_wp2_with fail
      refine (Tryd.strconv_Itoa (u : Int) (by omega) hn _ HT.out).mono ?_
      rintro e w' ⟨rfl, k, os, hw⟩
      have hb : Below w.heap.size w w' := hw ▸ below_grow w k os
      clear hw
      rw [HI.out, Hd.out]
      go_wp2
      go_ret2
      exact ⟨by rw [HE.out]; rfl, hb⟩
end Go.Proofs.YtmgnmkolijaidaaDoor.Num
