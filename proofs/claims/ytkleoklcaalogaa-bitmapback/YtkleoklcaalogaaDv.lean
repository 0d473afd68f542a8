/- Decode, whole. -/
import Derived.Test.YtkleoklcaalogaaDe
namespace Go.Proofs.Ytkleoklcaalogaa.Dv
set_option linter.unusedVariables false
open Go.RowKit Pla Bm Br Bv Bw Bx Hf Wr Wt Rd Rs Rb De
theorem scan_none (enc : Int) (s : ByteArray) : ∀ (k i : Nat), i ≤ s.size → scan enc s k i = none → i + k ≤ s.size
  | 0, i, hi, _ => by omega
  | k + 1, i, hi, h => by
    rw [scan] at h
    by_cases h1 : i = s.size
    · rw [if_pos h1] at h; cases h
    · rw [if_neg h1] at h
      by_cases h2 : wl enc s i < 0
      · rw [if_pos h2] at h; cases h
      · rw [if_neg h2] at h
        have := scan_none enc s k (i + 1) (by omega) h
        omega
theorem scan_some (enc : Int) (s : ByteArray) : ∀ (k i : Nat) (e : Int) (p : Nat), scan enc s k i = some (e, p) → (e = 10 ∨ e = 11) ∧ p < i + k
  | 0, i, e, p, h => by cases h
  | k + 1, i, e, p, h => by
    rw [scan] at h
    by_cases h1 : i = s.size
    · rw [if_pos h1] at h; simp at h; omega
    · rw [if_neg h1] at h
      by_cases h2 : wl enc s i < 0
      · rw [if_pos h2] at h; simp at h; omega
      · rw [if_neg h2] at h
        have := scan_some enc s k (i + 1) e p h
        omega
theorem rsV_lt (enc : Int) (s : ByteArray) (i : Nat) : (rsV enc s).1 i < 256 := by
  unfold rsV
  split
  · show (0 : Nat) < 256; decide
  · show hU enc s 16 i < 256
    unfold hU
    have h1 := nb_lt enc s (2 * i)
    have h2 := nb_lt enc s (2 * i + 1)
    (repeat' split) <;> omega
theorem rbV_lt (s : ByteArray) (i : Nat) : (rbV s).1 i < 256 := by
  unfold rbV
  split
  · show (0 : Nat) < 256; decide
  · exact UInt8.toNat_lt _
theorem rhV_lt (enc : Int) (s : ByteArray) (i : Nat) : (rhV enc s).1 i < 256 := by
  unfold rhV; split
  · exact rbV_lt s i
  · exact rsV_lt enc s i
theorem width_cases (enc : Int) (h : widthN enc ≠ 0) : (enc = 5 ∧ widthN enc = 8) ∨ (enc ≠ 5 ∧ widthN enc = 16) := by
  unfold widthN at *; (repeat' split at *) <;> simp_all
theorem rhV_ok (enc : Int) (s : ByteArray) (hw : widthN enc ≠ 0) (h : (rhV enc s).2.1 = 0) : widthN enc ≤ s.size ∧ (rhV enc s).2.2 = 0 := by
  rcases width_cases enc hw with ⟨h5, e⟩ | ⟨h5, e⟩
  · rw [rhV, if_pos h5] at *
    rw [e]
    unfold rbV at *
    by_cases hs : s.size < 8
    · rw [if_pos hs] at h; simp at h
    · rw [if_neg hs]; exact ⟨by omega, rfl⟩
  · rw [rhV, if_neg h5] at *
    rw [e]
    unfold rsV at *
    cases hq : scan enc s 16 0 with
    | some x =>
      obtain ⟨e, p⟩ := x
      have := scan_some enc s 16 0 e p hq
      rw [hq] at h; simp at h; omega
    | none =>
      have := scan_none enc s 16 0 (by omega) hq
      simp; omega
theorem rhV_place (enc : Int) (s : ByteArray) : (rhV enc s).2.2 ≤ 16 := by
  unfold rhV; split
  · unfold rbV; split
    · show s.size ≤ 16; omega
    · show 0 ≤ 16; decide
  · unfold rsV
    cases hq : scan enc s 16 0 with
    | some x =>
      obtain ⟨e, p⟩ := x
      have := scan_some enc s 16 0 e p hq
      show p ≤ 16; omega
    | none => show 0 ≤ 16; decide
theorem bitsN_64 (v : Nat → Nat) (hv : ∀ i, v i < 256) : bitsN v 8 < 18446744073709551616 := bitsN_lt v hv 8
set_option maxRecDepth 100000 in
set_option maxHeartbeats 800000 in
theorem dec_w (enc : Int) (s : ByteArray) (h0 : widthN enc = 0) (w : World) :
    Calls Try.prog 20 #[.int .i64 enc, .string s] w fun e w' => e = .returned (.tuple #[.agg #[.int .u64 0, .int .u64 0], .int .i64 1, .int .i64 0]) ∧ Below w.heap.size w w' := by
  go_enter Try.func20, Try.ntmps20
  go_wp2_with (go_at_call 33; refine (width_any _ _).mono ?_; rintro e x ⟨rfl, rfl⟩; rw [h0])
  exact bodyPost_ret (v := .tuple #[.agg #[.int .u64 0, .int .u64 0], .int .i64 1, .int .i64 0]) (by simp [results, Try.results20, go_sem]) rfl ⟨rfl, below_one w _⟩
theorem decode_any (enc : Int) (s : ByteArray) (hs : s.size ≤ maxLen) (w : World) :
    Calls Try.prog 20 #[.int .i64 enc, .string s] w fun e w' => e = .returned (.tuple #[.agg #[.int .u64 ((decV enc s).1 : Int), .int .u64 ((decV enc s).2.1 : Int)], .int .i64 (decV enc s).2.2.1, .int .i64 ((decV enc s).2.2.2 : Int)]) ∧ Below w.heap.size w w' := by
  by_cases h0 : widthN enc = 0
  · rw [decV, if_pos h0]; exact dec_w enc s h0 w
  · have qw : ((widthN enc : Int) == 0) = false := beq_eq_false_iff_ne.mpr (by omega)
    have lw : (widthN enc : Int) ≤ 16 := by rcases width_cases enc h0 with ⟨_, e⟩ | ⟨_, e⟩ <;> omega
    have pw := fun w => width_any enc w
    have p1 := fun w => readHalf_any enc s hs w
    have p2 := fun w => bits_any (rhV enc s).1 (rhV_lt enc s) w
    have o1 := byC_one 8 (rhV enc s).1
    have s1 := byC_size 8 (rhV enc s).1
    have z1 := h8 (rhV enc s).1
    rw [decV, if_neg h0]
    by_cases h1 : (rhV enc s).2.1 ≠ 0
    · rw [if_pos h1]
      exact dec_a enc s _ _ _ _ pw qw p1 z1 s1 o1 (beq_eq_false_iff_ne.mpr h1) w
    · rw [if_neg h1]
      have h1' : (rhV enc s).2.1 = 0 := Classical.not_not.1 h1
      have hF := bitsN_64 (rhV enc s).1 (rhV_lt enc s)
      have hA := and_hi _ hF
      have hok := rhV_ok enc s h0 h1'
      rw [h1'] at p1
      by_cases h2 : bitsN (rhV enc s).1 8 < 9223372036854775808
      · rw [if_pos h2]
        rw [if_pos h2] at hA
        exact dec_b enc s _ _ _ _ pw qw p1 p2 z1 s1 o1 hA w
      · rw [if_neg h2]
        rw [if_neg h2] at hA
        have hts : (s.extract (widthN enc) s.size).size ≤ maxLen := by rw [ByteArray.size_extract]; unfold maxLen at *; omega
        have p3 := fun w => readHalf_any enc (s.extract (widthN enc) s.size) hts w
        have hp := rhV_place enc (s.extract (widthN enc) s.size)
        have hv2 := rhV_lt enc (s.extract (widthN enc) s.size)
        have p4 := fun w => bits_any (rhV enc (s.extract (widthN enc) s.size)).1 hv2 w
        have o2 := byC_one 8 (rhV enc (s.extract (widthN enc) s.size)).1
        have s2 := byC_size 8 (rhV enc (s.extract (widthN enc) s.size)).1
        have z2 := h8 (rhV enc (s.extract (widthN enc) s.size)).1
        have hF2 := bitsN_64 (rhV enc (s.extract (widthN enc) s.size)).1 hv2
        have hA2 := and_hi _ hF2
        by_cases h3 : (rhV enc (s.extract (widthN enc) s.size)).2.1 ≠ 0
        · rw [if_pos h3]
          have := dec_c enc s _ _ _ _ _ _ _ _ pw qw lw p1 p2 p3 z1 s1 o1 z2 s2 o2 hA (beq_eq_false_iff_ne.mpr h3) rfl (by omega) (by omega) w
          simpa using this
        · rw [if_neg h3]
          have h3' := Classical.not_not.1 h3
          rw [h3'] at p3
          by_cases h4 : bitsN (rhV enc (s.extract (widthN enc) s.size)).1 8 ≥ 9223372036854775808
          · rw [if_pos (Or.inl h4)]
            rw [if_neg (by omega)] at hA2
            exact dec_d1 enc s _ _ _ _ _ _ _ _ pw qw lw p1 p2 p3 p4 z1 s1 o1 z2 s2 o2 hA hA2 rfl (by omega) w
          · rw [if_pos (by omega)] at hA2
            by_cases h5 : bitsN (rhV enc (s.extract (widthN enc) s.size)).1 8 = 0
            · rw [if_pos (Or.inr h5)]
              exact dec_d2 enc s _ _ _ _ _ _ _ _ pw qw lw p1 p2 p3 p4 z1 s1 o1 z2 s2 o2 hA hA2 (beq_iff_eq.mpr (by omega)) rfl (by omega) w
            · rw [if_neg (by omega)]
              have h6 := andNot_hi _ hF
              have e6 : fld (bitsN (rhV enc s).1 8) = bitsN (rhV enc s).1 8 - 9223372036854775808 := by rw [fld_mod]; omega
              rw [e6] at h6
              have := dec_e enc s _ _ _ _ _ _ _ _ pw qw lw p1 p2 p3 p4 z1 s1 o1 z2 s2 o2 _ hA h6 hA2 (beq_eq_false_iff_ne.mpr (by omega)) rfl (by omega) w
              simpa using this
end Go.Proofs.Ytkleoklcaalogaa.Dv
