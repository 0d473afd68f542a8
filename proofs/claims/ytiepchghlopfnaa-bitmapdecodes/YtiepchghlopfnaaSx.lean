/- The document's sixteenth, and its read. -/
import Derived.Test.YtiepchghlopfnaaRh
import Derived.Test.YtiepchghlopfnaaDv
import Derived.Test.YtiepchghlopfnaaEq
namespace Go.Proofs.Ytiepchghlopfnaa.Sx
set_option linter.unusedVariables false
open Go.RowKit Pla Bm Br Bv Bw Bx Hf Wr Wt Rh Rd Rs
theorem wv_chr (enc : Int) (n : Nat) (h : n < 16) : wv enc (chr enc n) = (n : Int) := by
  unfold wv chr
  by_cases h4 : enc = 4
  · simp only [h4, if_true]
    by_cases hn : n < 10
    · rw [if_pos hn, if_pos (by omega)]; omega
    · rw [if_neg hn, if_neg (by omega), if_pos (by omega)]; omega
  · simp only [h4, if_false]
    by_cases hn : n < 10
    · rw [if_pos hn, if_pos (by omega)]; omega
    · rw [if_neg hn, if_neg (by omega), if_pos (by omega)]; omega
theorem chr_back (enc : Int) (c : Nat) (h : 0 ≤ wv enc c) : chr enc (wv enc c).toNat = c ∧ (wv enc c).toNat < 16 := by
  unfold wv chr at *
  by_cases h4 : enc = 4
  · simp only [h4, if_true] at *
    by_cases a : 240 ≤ c ∧ c ≤ 249
    · rw [if_pos a, if_pos (by omega)]; omega
    · rw [if_neg a] at *
      by_cases b : 193 ≤ c ∧ c ≤ 198
      · rw [if_pos b, if_neg (by omega)]; omega
      · rw [if_neg b] at h; omega
  · simp only [h4, if_false] at *
    by_cases a : 48 ≤ c ∧ c ≤ 57
    · rw [if_pos a, if_pos (by omega)]; omega
    · rw [if_neg a] at *
      by_cases b : 65 ≤ c ∧ c ≤ 70
      · rw [if_pos b, if_neg (by omega)]; omega
      · rw [if_neg b] at h; omega
set_option maxRecDepth 100000 in
set_option maxHeartbeats 1600000 in
theorem sixteenth_any (enc : Int) (he : enc = 1 ∨ enc = 4) (c : UInt8) (w : World) :
    Calls Try.prog 62 #[.int .i64 enc, .int .u8 (c.toNat : Int)] w fun e w' => e = .returned (.int .i64 (wv enc c.toNat)) ∧ w' = w := by
  have CH : Hid (∀ n : Nat, n < 16 → ∀ w, Calls Try.prog 59 #[.int .i64 enc, .int .i64 (n : Int)] w fun e w' => e = .returned (.int .u8 ((chr enc n : Nat) : Int)) ∧ w' = w) := fun n hn w => character_any enc he n hn w
  clear he
  go_enter Try.func62, Try.ntmps62
  go_wp2_with fail
  go_loopw [5] (fun i wr => ∃ j : Nat, j ≤ 16 ∧ i = .int .i64 (j : Int) ∧ Hid (∀ n, n < j → chr enc n ≠ c.toNat) ∧ wr = w) (fun i _ => 17 - (intOf i).toNat)
  case atStart => exact ⟨0, by omega, rfl, fun n h => absurd h (Nat.not_lt_zero n), rfl⟩
  case round =>
    obtain ⟨j, hj, rfl, HJ, rfl⟩ := hrel
    by_cases hj2 : j < 16
    · have q : (j : Int) < 16 := by omega
      have pc := CH.out j hj2
      by_cases hcj : chr enc j = c.toNat
      · have HV : Hid (wv enc c.toNat = (j : Int)) := by show _ = _; rw [← hcj]; exact wv_chr enc j hj2
        rw [hcj] at pc
        clear hcj
        go_wp2_with (go_at_call 59; refine (pc _).mono ?_; rintro e y ⟨rfl, rfl⟩)
        go_ret
        exact ⟨by rw [HV.out]; rfl, rfl⟩
      · have qc : (((chr enc j : Nat) : Int) == (c.toNat : Int)) = false := beq_eq_false_iff_ne.mpr (by omega)
        have HJ2 : Hid (∀ n, n < j + 1 → chr enc n ≠ c.toNat) := fun n hn => by
          by_cases e : n = j
          · subst e; exact hcj
          · exact HJ.out n (by omega)
        generalize chr enc j = d at *
        clear hcj
        go_wp2_with (go_at_call 59; refine (pc _).mono ?_; rintro e y ⟨rfl, rfl⟩)
        exact ⟨⟨j + 1, by omega, by simp, HJ2, trivial⟩, by simp only [intOf]; omega⟩
    · obtain rfl : j = 16 := by omega
      have HV : Hid (wv enc c.toNat = -1) := by
        show _ = _
        have bd := wv_bd enc c.toNat
        rcases Int.lt_or_le (wv enc c.toNat) 0 with h | h
        · omega
        · exact absurd (chr_back enc c.toNat h).1 (HJ.out _ (chr_back enc c.toNat h).2)
      go_wp2_with fail
      go_ret
      exact ⟨by rw [HV.out]; rfl, rfl⟩
end Go.Proofs.Ytiepchghlopfnaa.Sx
