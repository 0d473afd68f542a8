/- digits.Write. -/
import Derived.Test.YteaanenhefbkjaaDoorKb
import Derived.Test.YteaanenhefbkjaaDoorShelf
import Derived.Lib.ItoaNum
import Derived.Lib.Repeat
namespace Go.Proofs.YteaanenhefbkjaaDoor.Wd
set_option linter.unusedVariables false
open Go.RowKit Lib0 Kb
theorem ret_ss {a b : ByteArray} {x y : Value} (h : a = b) (h2 : x = y) : Ending.returned (.tuple #[.string a, x]) = .returned (.tuple #[.string b, y]) := by rw [h, h2]
def dgs : Nat → Nat → List UInt8
  | 0, _ => []
  | w + 1, n => dgs w (n / 10) ++ [UInt8.ofNat (48 + n % 10)]
theorem dgs_length : ∀ w n, (dgs w n).length = w
  | 0, _ => rfl
  | w + 1, n => by simp [dgs, dgs_length w]
theorem dgs_zero : ∀ w, dgs w 0 = List.replicate w 48
  | 0 => rfl
  | w + 1 => by rw [dgs, dgs_zero w, List.replicate_succ']; rfl
theorem dec_len (u : Nat) : (Lib.decDigits u).length = Lib.nDigits u := by rw [Lib.decDigits_eq]; simp
theorem nd_le : ∀ (w u : Nat), 1 ≤ w → u < 10 ^ w → Lib.nDigits u ≤ w
  | 0, _, h, _ => by omega
  | w + 1, u, _, h => by
    by_cases h1 : u < 10
    · rw [Lib.nDigits_small h1]; omega
    · rw [Lib.nDigits_big h1]
      have hw : 1 ≤ w := by
        rcases Nat.eq_zero_or_pos w with rfl | h2
        · simp at h; omega
        · exact h2
      have := nd_le w (u / 10) hw (by rw [Nat.pow_succ] at h; omega)
      omega
theorem nd_gt (w u : Nat) (h : ¬ u < 10 ^ w) : w < Lib.nDigits u := by
  have h1 := Lib.lt_pow_nDigits u
  rcases Nat.lt_or_ge w (Lib.nDigits u) with h2 | h2
  · exact h2
  · have : 10 ^ Lib.nDigits u ≤ 10 ^ w := Nat.pow_le_pow_right (by omega) h2
    omega
theorem dec_big (u : Nat) (h : ¬ u < 10) : Lib.decDigits u = Lib.decDigits (u / 10) ++ [UInt8.ofNat (48 + u % 10)] := by rw [Lib.decDigits, dif_neg h]
theorem dgs_pad : ∀ (w u : Nat), 1 ≤ w → u < 10 ^ w → dgs w u = List.replicate (w - Lib.nDigits u) 48 ++ Lib.decDigits u
  | 0, _, h, _ => by omega
  | w + 1, u, _, h => by
    by_cases h1 : u < 10
    · rw [dgs, show u / 10 = 0 by omega, dgs_zero, Lib.nDigits_small h1, Lib.decDigits, dif_pos h1, Nat.mod_eq_of_lt h1]; rfl
    · have hw : 1 ≤ w := by
        rcases Nat.eq_zero_or_pos w with rfl | h2
        · simp at h; omega
        · exact h2
      rw [dgs, dgs_pad w (u / 10) hw (by rw [Nat.pow_succ] at h; omega), Lib.nDigits_big h1, dec_big u h1, List.append_assoc, show w + 1 - (Lib.nDigits (u / 10) + 1) = w - Lib.nDigits (u / 10) by omega]
/-- what Write answers -/
def writeR (n width : Int) : List UInt8 × Int := if n < 0 ∨ width < 1 ∨ 18 < width then ([], 1) else if n.toNat < 10 ^ width.toNat then (dgs width.toNat n.toNat, 0) else ([], 13)
theorem rep_one (c : Nat) : Lib.repeatL [48] c = List.replicate c 48 := by
  induction c with
  | zero => rfl
  | succ c ih => rw [Lib.repeatL, ih, List.replicate_succ]; rfl
theorem below_grow (w : World) (k : Nat) (os : Array Obj) : Below w.heap.size w (Go.Sort.grow (w.drewN k) os) := by
  have h1 : Below w.heap.size w (w.drewN k) := below_drewN (Below.refl _ _) k
  have hk : (w.drewN k).heap = w.heap := World.heap_drewN w k
  refine h1.trans ⟨rfl, rfl, rfl, by simp [Go.Sort.grow], fun j hj => ?_⟩
  show ((w.drewN k).heap ++ os)[j]? = _
  rw [Array.getElem?_append_left (by rw [hk]; exact hj)]
set_option maxRecDepth 100000 in
theorem write_any (n width : Int) (w : World) (hn : n ≤ 9223372036854775807) (hT : Lib.TabIs Tryd.prog w "internal/strconv.uint64pow10" .u64 Lib.pow10Tab) :
    Calls Tryd.prog 24 #[.int .i64 n, .int .i64 width] w fun e w' => e = .returned (.tuple #[.string ⟨(writeR n width).1.toArray⟩, .int .i64 (writeR n width).2]) ∧ Below w.heap.size w w' := by
  by_cases h1 : n < 0 ∨ width < 1 ∨ 18 < width
  · have HE : Hid (writeR n width = ([], 1)) := by show _ = _; unfold writeR; rw [if_pos h1]
    clear hT
    by_cases g1 : n < 0
    · clear h1
      go_enter Tryd.func24, Tryd.ntmps24
      go_wp2
      go_ret2
      exact ⟨by rw [HE.out]; rfl, Below.refl _ _⟩
    · by_cases g2 : width < 1
      · clear h1
        go_enter Tryd.func24, Tryd.ntmps24
        go_wp2
        go_ret2
        exact ⟨by rw [HE.out]; rfl, Below.refl _ _⟩
      · have g3 : 18 < width := by omega
        clear h1
        go_enter Tryd.func24, Tryd.ntmps24
        go_wp2
        go_ret2
        exact ⟨by rw [HE.out]; rfl, Below.refl _ _⟩
  · obtain ⟨u, rfl⟩ : ∃ u : Nat, n = (u : Int) := ⟨n.toNat, by omega⟩
    obtain ⟨m, rfl⟩ : ∃ m : Nat, width = (m : Int) := ⟨width.toNat, by omega⟩
    have m1 : 1 ≤ m := by omega
    have m2 : m ≤ 18 := by omega
    have HT : Hid (Lib.TabIs Tryd.prog w "internal/strconv.uint64pow10" .u64 Lib.pow10Tab) := hT
    have hi : Lib.itoa (u : Int) = Lib.decDigits u := by unfold Lib.itoa; rw [if_neg (by omega)]; simp
    have HI : Hid _ := hi
    obtain ⟨d, Hd, hds⟩ : ∃ d, Hid (ByteArray.mk (Lib.decDigits u).toArray = d) ∧ d.size = Lib.nDigits u := ⟨_, rfl, by rw [← dec_len]; simp [ByteArray.size]⟩
    have hnp := Lib.nDigits_pos u
    by_cases h2 : u < 10 ^ m
    · have hle := nd_le m u m1 h2
      have HE : Hid (writeR (u : Int) (m : Int) = (dgs m u, 0)) := by show _ = _; unfold writeR; rw [if_neg h1, if_pos (by simpa using h2)]; simp
      have HP : Hid (dgs m u = List.replicate (m - Lib.nDigits u) 48 ++ Lib.decDigits u) := dgs_pad m u m1 h2
      clear h1 h2 hT hi
      have hlt : ¬ (m : Int) < (d.size : Int) := by omega
      have hsub : (m : Int) - (d.size : Int) = ((m - d.size : Nat) : Int) := by omega
      have HSU : Hid _ := hsub
      clear hsub
      generalize hN : Lib.nDigits u = N at *
      go_enter Tryd.func24, Tryd.ntmps24
      go_wp2_with fail
      refine (Tryd.strconv_Itoa (u : Int) (by omega) hn _ HT.out).mono ?_
      rintro e w' ⟨rfl, k, os, hw⟩
      have hb : Below w.heap.size w w' := hw ▸ below_grow w k os
      clear hw
      rw [HI.out, Hd.out]
      go_wp2_with fail
      rw [show ((m : Int) - (N : Int)) = ((m - N : Nat) : Int) by omega]
      refine (Tryd.strings_Repeat (ByteArray.mk #[48]) (m - N) _ (by omega) (by show 1 * (m - N) ≤ _; omega)).mono ?_
      rintro e w1 ⟨rfl, hb1⟩
      rw [show (ByteArray.mk #[48]).data.toList = [48] from rfl, rep_one]
      have HX : Hid ((ByteArray.mk (List.replicate (m - N) 48).toArray) ++ d = ByteArray.mk (dgs m u).toArray) := by
        show _ = _
        rw [HP.out, ← Hd.out]
        apply ByteArray.ext
        simp
      have hr : (ByteArray.mk (List.replicate (m - N) 48).toArray).size ≤ 18 := by simp [ByteArray.size]; omega
      have hd18 : d.size ≤ 18 := by omega
      generalize (ByteArray.mk (List.replicate (m - N) 48).toArray) = r at *
      go_wp2
      go_ret2
      exact ⟨by rw [HE.out]; exact ret_ss HX.out rfl, hb.trans (hb1.mono hb.size)⟩
    · have hlt0 := nd_gt m u h2
      have HE : Hid (writeR (u : Int) (m : Int) = ([], 13)) := by show _ = _; unfold writeR; rw [if_neg h1, if_neg (by simpa using h2)]
      clear h1 h2 hT hi
      have hlt : (m : Int) < (d.size : Int) := by omega
      generalize hN : Lib.nDigits u = N at *
      go_enter Tryd.func24, Tryd.ntmps24
      go_wp2_with fail
      refine (Tryd.strconv_Itoa (u : Int) (by omega) hn _ HT.out).mono ?_
      rintro e w' ⟨rfl, k, os, hw⟩
      have hb : Below w.heap.size w w' := hw ▸ below_grow w k os
      clear hw
      rw [HI.out, Hd.out]
      go_wp2
      go_ret2
      exact ⟨by rw [HE.out]; rfl, hb⟩
end Go.Proofs.YteaanenhefbkjaaDoor.Wd
