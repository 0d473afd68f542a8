/- Both Decodes are alike. -/
import Derived.Test.YtiepchghlopfnaaRc
import Derived.Test.YtiepchghlopfnaaRo
namespace Go.Proofs.Ytiepchghlopfnaa.Dl
set_option linter.unusedVariables false
open Go.RowKit Pla Bm Bn Br Bv Bw Bx Hf Wr Wt Rh Re Rd Rs Rb De Dv Sx Rr Dq Rc Ak
theorem known_of {enc : Int} (h : widthN enc ≠ 0) : knownB enc = true := by
  cases hk : knownB enc
  · exact absurd ((Eq.known_width enc).2 hk) h
  · rfl
theorem zero_half (b : Nat) : ∀ k, halfN (fun _ => false) b k = 0 := Ro.half_zero b
theorem f1_first (enc : Int) (hw : widthN enc ≠ 0) (s : ByteArray) (h : (rhV enc s).2.1 = 0) : halfN (f1 enc s) 0 64 = bitsN (rhV enc s).1 8 := by
  have := bits_like enc hw s 0 0 (fun _ => false) (Nat.zero_le _) (by rw [tl_zero]; exact h)
  rw [tl_zero] at this
  exact this
theorem f1_second (enc : Int) (hw : widthN enc ≠ 0) (s : ByteArray) : halfN (f1 enc s) 64 64 = 0 := by
  rw [← zero_half 64 64]
  refine halfN_congr 64 fun i h1 h2 => ?_
  have e : stp enc * widthN enc = 64 := by
    rcases width_cases enc hw with ⟨h5, e⟩ | ⟨h5, e⟩
    · rw [e, stp, if_pos h5]
    · rw [e, stp, if_neg h5]
  exact fRow_out enc s 0 0 (stp enc) _ (widthN enc) i (by omega)
theorem f2_first (enc : Int) (s : ByteArray) (i : Nat) (hi : i ≤ 64) : f2 enc s i = f1 enc s i := fRow_out enc s (widthN enc) 64 (stp enc) _ (widthN enc) i (by omega)
theorem bit_of_half (f : Nat → Bool) (b : Nat) : f (b + 1) = (halfN f b 64).testBit 63 := by rw [halfN_bit]; simp
theorem first_bit (f : Nat → Bool) (b : Nat) : f (b + 1) = decide (9223372036854775808 ≤ halfN f b 64) := by
  rw [bit_of_half f b, bit63 _ (halfN_lt64 f b)]
theorem mr_half (f : Nat → Bool) (h : f 65 = false) : mr f 63 = !decide (halfN f 64 64 = 0) := by
  cases hm : mr f 63
  · have : halfN f 64 64 = 0 := by
      apply Nat.eq_of_testBit_eq
      intro i
      rw [halfN_bit, Nat.zero_testBit]
      by_cases hi : i < 64
      · rw [decide_eq_true hi, Bool.true_and]
        by_cases h63 : i = 63
        · subst h63; exact h
        · cases hx : f (64 + (64 - i))
          · rfl
          · have := (Eq.mr_iff f 63).2 ⟨62 - i, by omega, by rw [show 66 + (62 - i) = 64 + (64 - i) by omega]; exact hx⟩
            rw [hm] at this; cases this
      · rw [decide_eq_false hi]; rfl
    rw [decide_eq_true this]; rfl
  · obtain ⟨i, hi, hx⟩ := (Eq.mr_iff f 63).1 hm
    have : halfN f 64 64 ≠ 0 := fun e => by
      have hb := halfN_bit f 64 64 (62 - i)
      rw [e, Nat.zero_testBit, decide_eq_true (show 62 - i < 64 by omega), Bool.true_and, show 64 + (64 - (62 - i)) = 66 + i by omega, hx] at hb
      cases hb
    rw [decide_eq_false this]; rfl
theorem clear_first (f : Nat → Bool) (h : 9223372036854775808 ≤ halfN f 0 64) : halfN (upd f 1 false) 0 64 = halfN f 0 64 - 9223372036854775808 := by
  have hl := halfN_lt64 f 0
  have e : halfN f 0 64 - 9223372036854775808 = fld (halfN f 0 64) := by rw [fld_mod]; omega
  rw [e]
  refine half_first (fld_lt hl) fun i h1 h2 => ?_
  rw [fld_bit, halfN_bit]
  by_cases hi : i = 1
  · subst hi; rw [upd_same, decide_eq_false (show ¬ 64 - 1 < 63 by omega), Bool.and_false]
  · rw [upd_ne _ _ hi, decide_eq_true (show 64 - i < 64 by omega), decide_eq_true (show 64 - i < 63 by omega), show 0 + (64 - (64 - i)) = i by omega]; simp
theorem both (enc : Int) (s : ByteArray) (hs : s.size ≤ maxLen) : ∃ (r : Nat → Bool) (e : Int) (n : Nat),
    (∀ w, Calls Try.prog 35 #[.int .i64 enc, .string s] w fun x w' => x = .returned (.tuple #[.agg (rowC r), .int .i64 e, .int .i64 (n : Int)]) ∧ Below w.heap.size w w') ∧
    (decV enc s).1 = halfN r 0 64 ∧ (decV enc s).2.1 = halfN r 64 64 ∧ (decV enc s).2.2.1 = e ∧ (decV enc s).2.2.2 = n := by
  unfold decV
  by_cases hw : widthN enc = 0
  · rw [if_pos hw]
    exact ⟨_, 1, 0, fun w => rc_w enc s ((Eq.known_width enc).1 hw) w, (zero_half 0 64).symm, (zero_half 64 64).symm, rfl, rfl⟩
  · rw [if_neg hw]
    have hk := known_of hw
    rcases read_like enc hw s 0 (Nat.zero_le _) with ⟨a1, a2⟩ | ⟨e1, p, a1, a2, a3, a4⟩
    · rw [tl_zero] at a2
      rw [if_neg (by simp [a2])]
      have b1 := f1_first enc hw s a2
      have hok := rhV_ok enc s hw a2
      have c1 : f1 enc s 1 = decide (9223372036854775808 ≤ bitsN (rhV enc s).1 8) := by rw [← b1]; exact first_bit (f1 enc s) 0
      by_cases h2 : bitsN (rhV enc s).1 8 < 9223372036854775808
      · rw [if_pos h2]
        rw [decide_eq_false (by omega)] at c1
        exact ⟨f1 enc s, 0, widthN enc, fun w => rc_b enc s hs hk a1 c1 w, b1.symm, (f1_second enc hw s).symm, rfl, rfl⟩
      · rw [if_neg h2]
        rw [decide_eq_true (by omega)] at c1
        rcases read_like enc hw s (widthN enc) hok.1 with ⟨d1, d2⟩ | ⟨e2, p, d1, d2, d3, d4⟩
        · have d2' : (rhV enc (s.extract (widthN enc) s.size)).2.1 = 0 := d2
          rw [if_neg (by simp [d2'])]
          have b2 : halfN (f2 enc s) 64 64 = bitsN (rhV enc (s.extract (widthN enc) s.size)).1 8 := bits_like enc hw s (widthN enc) 64 (f1 enc s) hok.1 d2
          have c2 : f2 enc s 65 = decide (9223372036854775808 ≤ bitsN (rhV enc (s.extract (widthN enc) s.size)).1 8) := by rw [← b2]; exact first_bit (f2 enc s) 64
          by_cases h3 : bitsN (rhV enc (s.extract (widthN enc) s.size)).1 8 ≥ 9223372036854775808
          · rw [if_pos (Or.inl h3)]
            rw [decide_eq_true h3] at c2
            exact ⟨_, 20, widthN enc, fun w => rc_d1 enc s hs hk a1 c1 d1 c2 w, (zero_half 0 64).symm, (zero_half 64 64).symm, rfl, rfl⟩
          · rw [decide_eq_false h3] at c2
            have hm := mr_half (f2 enc s) c2
            rw [b2] at hm
            by_cases h4 : bitsN (rhV enc (s.extract (widthN enc) s.size)).1 8 = 0
            · rw [if_pos (Or.inr h4)]
              rw [decide_eq_true h4] at hm
              exact ⟨_, 20, widthN enc, fun w => rc_d2 enc s hs hk a1 c1 d1 c2 hm w, (zero_half 0 64).symm, (zero_half 64 64).symm, rfl, rfl⟩
            · rw [if_neg (by omega)]
              rw [decide_eq_false h4] at hm
              have g1 : halfN (f2 enc s) 0 64 = bitsN (rhV enc s).1 8 := by
                rw [← b1]; exact halfN_congr 64 fun i h1 h2 => f2_first enc s i (by omega)
              refine ⟨upd (f2 enc s) 1 false, 0, 2 * widthN enc, fun w => rc_e enc s hs hk a1 c1 d1 c2 hm w, ?_, ?_, rfl, rfl⟩
              · show bitsN (rhV enc s).1 8 - 9223372036854775808 = _
                rw [clear_first _ (by rw [g1]; omega), g1]
              · show bitsN (rhV enc (s.extract (widthN enc) s.size)).1 8 = _
                rw [← b2]
                exact halfN_congr 64 fun i h1 h2 => (upd_ne _ _ (by omega)).symm
        · have d2' : (rhV enc (s.extract (widthN enc) s.size)).2.1 = e2 := d2
          have d3' : widthN enc + (rhV enc (s.extract (widthN enc) s.size)).2.2 = p := d3
          rw [if_pos (by rw [d2']; exact d4)]
          exact ⟨_, e2, p, fun w => rc_c enc s hs hk a1 c1 e2 p d1 d4 w, (zero_half 0 64).symm, (zero_half 64 64).symm, d2', d3'⟩
    · rw [tl_zero] at a2 a3
      rw [if_pos (by rw [a2]; exact a4)]
      exact ⟨_, e1, p, fun w => rc_a enc s hs hk e1 p a1 a4 w, (zero_half 0 64).symm, (zero_half 64 64).symm, a2, by show (rhV enc s).2.2 = p; omega⟩
end Go.Proofs.Ytiepchghlopfnaa.Dl
