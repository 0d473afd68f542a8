/- The document's read. -/
import Derived.Test.YtiepchghlopfnaaSx
namespace Go.Proofs.Ytiepchghlopfnaa.Rr
set_option linter.unusedVariables false
open Go.RowKit Pla Bm Br Bv Bw Bx Hf Wr Wt Rh Rd Rs Sx
/-- what stands at a place: a byte, or a sixteenth's worth -/
def valN (enc : Int) (s : ByteArray) (p : Nat) : Int := if enc = 5 then ((s.data[p]!).toNat : Int) else wl enc s p
/-- so many truths from a place on, out of a number -/
def setB (f : Nat → Bool) (k step v : Nat) : Nat → Nat → Bool := fun t i => if k ≤ i ∧ i < k + t then v.testBit (step - 1 - (i - k)) else f i
/-- the row behind so many pieces -/
def fRow (enc : Int) (s : ByteArray) (at_ b step : Nat) (f : Nat → Bool) : Nat → Nat → Bool
  | 0 => f
  | j + 1 => setB (fRow enc s at_ b step f j) (b + step * j + 1) step (valN enc s (at_ + j)).toNat step
/-- what is wrong first -/
def scanD (enc : Int) (s : ByteArray) : Nat → Nat → Option (Int × Nat)
  | 0, _ => none
  | k + 1, i => if s.size ≤ i then some (10, s.size) else if valN enc s i < 0 then some (11, i) else scanD enc s k (i + 1)
def rdE (r : Option (Int × Nat)) : Int := match r with | some (e, _) => e | none => 0
def rdP (r : Option (Int × Nat)) (n : Nat) : Nat := match r with | some (_, p) => p | none => n
theorem setB_step (f : Nat → Bool) (k step v t : Nat) (hk : k + t < 129) : (rowC (setB f k step v t)).setIfInBounds (k + t) (.bool (v.testBit (step - 1 - t))) = rowC (setB f k step v (t + 1)) := by
  rw [rowC_set _ _ _ hk]
  refine rowC_ext fun i _ => ?_
  by_cases e : i = k + t
  · subst e
    rw [upd_same, setB, if_pos (by omega), show k + t - k = t by omega]
  · rw [upd_ne _ _ e, setB, setB]
    by_cases c : k ≤ i ∧ i < k + t
    · rw [if_pos c, if_pos (by omega)]
    · rw [if_neg c, if_neg (by omega)]
theorem setB_zero (f : Nat → Bool) (k step v : Nat) : rowC f = rowC (setB f k step v 0) := rowC_ext fun i _ => by rw [setB, if_neg (by omega)]
theorem bit_i (v k : Nat) : (((v : Int) / 2 ^ k).tmod 2 == 1) = v.testBit k := bit_tm v k
set_option maxRecDepth 100000 in
set_option maxHeartbeats 3200000 in
theorem read_8_1 (s : ByteArray) (hs : s.size ≤ maxLen) (at_ : Nat) (ha : at_ ≤ 100) (f : Nat → Bool) (g : Nat) (w : World) (hg : w.heap[g]? = some (.cells (rowC f) 33 (0, 0))) :
    Calls Try.prog 56 #[.pointer (some ⟨g, 0, none⟩), .int .i64 5, .string s, .int .i64 (at_ : Int), .int .i64 1] w fun e w' => e = .returned (.tuple #[.int .i64 (rdE (scanD 5 s 8 at_)), .int .i64 (rdP (scanD 5 s 8 at_) (at_ + 8) : Int)]) ∧ Below g w w' ∧ (scanD 5 s 8 at_ = none → w'.heap[g]? = some (.cells (rowC (fRow 5 s at_ 0 8 f 8)) 33 (0, 0))) := by
  unfold maxLen at hs
  go_enter Try.func56, Try.ntmps56
  go_wp2_with fail
  go_loopw [3, 13] (fun a k wr => ∃ j : Nat, j ≤ 8 ∧ k = .int .i64 ((0 + 8 * j + 1 : Nat) : Int) ∧ a = .int .i64 ((at_ + j : Nat) : Int) ∧ Hid (scanD 5 s 8 at_ = scanD 5 s (8 - j) (at_ + j)) ∧ Hid (wr.heap[g]? = some (.cells (rowC (fRow 5 s at_ 0 8 f j)) 33 (0, 0))) ∧ Below g w wr) (fun _ k _ => 66 - (intOf k).toNat)
  case atStart => exact ⟨0, by omega, rfl, rfl, rfl, hg, Below.refl _ _⟩
  case round =>
    obtain ⟨j, hj, rfl, rfl, HS, G0, hb⟩ := hrel
    by_cases hj2 : j < 8
    · have HK0 : Hid (∃ K0, 0 + 8 * j = K0) := ⟨_, rfl⟩
      obtain ⟨K0, hK0⟩ := HK0.out
      have hK1 : (K0 : Int) + 1 ≤ 57 := by omega
      have hq : ((K0 + 1 : Nat) : Int) < 1 + 64 := by omega
      have HKK : Hid (0 + 8 * j = K0) := hK0
      have HF : Hid (fRow 5 s at_ 0 8 f (j + 1) = setB (fRow 5 s at_ 0 8 f j) (K0 + 1) 8 (valN 5 s (at_ + j)).toNat 8) := by
        show _ = _
        rw [fRow, hK0]
      have HJ : Hid (0 + 8 * (j + 1) + 1 = K0 + 1 + 8) := by show _ = _; omega
      rw [hK0]
      clear hK0 HK0 hj
      by_cases hsz : s.size ≤ at_ + j
      · have HR : Hid (scanD 5 s 8 at_ = some (10, s.size)) := by
          show _ = _
          rw [HS.out, show 8 - j = (7 - j) + 1 by omega, scanD, if_pos hsz]
        have q1 : (s.size : Int) ≤ ((at_ + j : Nat) : Int) := by omega
        clear HS
        go_wp2_with fail
        go_ret2
        exact ⟨by rw [HR.out]; rfl, hb, fun h => by rw [HR.out] at h; cases h⟩
      · have q1 : ((at_ + j : Nat) : Int) < (s.size : Int) := by omega
        have lt : at_ + j < s.size := by omega
        have q0 : (0 : Int) ≤ ((at_ + j : Nat) : Int) := by omega
        have qa : ((at_ + j : Nat) : Int) ≤ 200 := by omega
        obtain ⟨c, hc⟩ : ∃ c, c = s.data[at_ + j]! := ⟨_, rfl⟩
        have hix : ∀ w, (Instr.index 9 (.string s) (.int .i64 ((at_ + j : Nat) : Int))).run Try.prog w = .ok (.int .u8 (c.toNat : Int)) w := fun w => by
          rw [run_index_string w _ _ _ _ Try.underlying9, dif_pos ⟨by omega, by omega⟩, hc]
          rw [byte_at s (at_ + j) lt]
          rfl
        have cb := c.toNat_lt
        have ic : (c.toNat : Int) ≤ 255 := by omega
        have HV : Hid (valN 5 s (at_ + j) = (c.toNat : Int)) := by show _ = _; rw [valN, if_pos rfl, hc]
        clear hc
        obtain ⟨n, hn⟩ : ∃ n : Nat, at_ + j = n := ⟨_, rfl⟩
        have HN : Hid (at_ + j = n) := hn
        rw [hn] at q1 q0 qa hix HS HF HV ⊢
        clear hn
        have HS2 : Hid (scanD 5 s 8 at_ = scanD 5 s (8 - (j + 1)) (at_ + (j + 1))) := by
            show _ = _
            rw [HS.out, show 8 - j = (8 - (j + 1)) + 1 by omega, scanD, if_neg (by have := HN.out; omega), HV.out, if_neg (by omega), show n + 1 = at_ + (j + 1) by have := HN.out; omega]
        rw [HV.out] at HF
        simp only [Int.toNat_natCast] at HF
        · obtain ⟨v, hv⟩ : ∃ v : Nat, c.toNat = v := ⟨_, rfl⟩
          have iv : (v : Int) ≤ 255 := by omega
          rw [hv] at HF hix
          clear hv cb ic HS HV
          go_wp2_with fail
          obtain ⟨wo, hwo⟩ : ∃ wo : World, wo = wr := ⟨wr, rfl⟩
          rw [← hwo] at G0 hb ⊢
          clear hwo
          generalize hfj : fRow 5 s at_ 0 8 f j = fj at *
          have dA : (K0 : Int) + 1 < 65 := by omega
          have dB : ¬ s.size ≤ n := by have := HN.out; omega
          have dC : ¬ (v : Int) < 0 := by omega
          simp only [decide_eq_true dA, decide_eq_false dB, decide_eq_false dC]
          clear dA dB dC
          try rw [show ((K0 + 1 : Nat) : Int) = (K0 : Int) + 1 by omega]
          go_loopw [15] (fun i wi => ∃ t : Nat, t ≤ 8 ∧ i = .int .i64 (t : Int) ∧ Hid (wi.heap[g]? = some (.cells (rowC (setB fj (K0 + 1) 8 v t)) 33 (0, 0))) ∧ Below g w wi) (fun i _ => 9 - (intOf i).toNat)
          case atStart => exact ⟨0, by omega, rfl, by rw [← setB_zero]; exact G0.out, hb⟩
          case round =>
            obtain ⟨t, ht, rfl, GI, hbi⟩ := hrel
            by_cases ht2 : t < 8
            · have qt : (t : Int) < 8 := by omega
              have qt0 : (0 : Int) ≤ (t : Int) := by omega
              have k1 := row_cell GI.out (K0 + 1 + t) (by omega)
              have k2 : wr.frozen? ⟨g, K0 + 1 + t, none⟩ = false := frozen_of_row _ _ _ _ _ GI.out
              have HG : Hid ((wr.setCell ⟨g, K0 + 1 + t, none⟩ (.bool (v.testBit (7 - t)))).heap[g]? = some (.cells (rowC (setB fj (K0 + 1) 8 v (t + 1))) 33 (0, 0))) := by
                show _ = _
                rw [heap_setCell_same _ _ _ _ _ _ GI.out, setB_step _ _ _ _ _ (by omega)]
              have u1 := bit_i v (7 - t)
              have w1 : IntKind.i64.wrap ((K0 : Int) + 1 + (t : Int)) = (K0 : Int) + 1 + (t : Int) := by rw [IntKind.wrap_i64]; omega
              have w0 : IntKind.i64.wrap 7 = 7 := by decide
              have w6 : ((K0 : Int) + 1 + (t : Int)).toNat = K0 + 1 + t := by omega
              have w7 : (0 : Int) ≤ (K0 : Int) + 1 + (t : Int) := by omega
              have w2 : IntKind.i64.wrap (7 - (t : Int)) = 7 - (t : Int) := by rw [IntKind.wrap_i64]; omega
              have w3 : (7 - (t : Int)).toNat = 7 - t := by omega
              have w4 : (0 : Int) ≤ 7 - (t : Int) := by omega
              have w5 : (K0 : Int) + 1 + (t : Int) < 129 := by omega
              go_wp2_with fail
              go_region_with (fail)
              go_wp2
              exact ⟨⟨t + 1, by omega, by simp, HG.out, (hbi.setCell (Nat.le_refl _) _).drew⟩, by simp only [intOf]; omega⟩
            · obtain rfl : t = 8 := by omega
              go_wp2_with fail
              refine ⟨⟨j + 1, by omega, ?_, ?_, HS2, by rw [HF.out]; exact GI.out, hbi⟩, ?_⟩
              · congr 1; have := HJ.out; omega
              · congr 1; have := HN.out; omega
              · simp only [intOf]; have := HKK.out; omega
    · obtain rfl : j = 8 := by omega
      have HR : Hid (scanD 5 s 8 at_ = none) := by show _ = _; rw [HS.out]; rfl
      have qa : ((at_ + 8 : Nat) : Int) ≤ 200 := by omega
      clear HS
      go_wp2_with fail
      go_ret2
      exact ⟨by rw [HR.out]; rfl, hb, fun _ => G0.out⟩
set_option maxRecDepth 100000 in
set_option maxHeartbeats 3200000 in
theorem read_8_65 (s : ByteArray) (hs : s.size ≤ maxLen) (at_ : Nat) (ha : at_ ≤ 100) (f : Nat → Bool) (g : Nat) (w : World) (hg : w.heap[g]? = some (.cells (rowC f) 33 (0, 0))) :
    Calls Try.prog 56 #[.pointer (some ⟨g, 0, none⟩), .int .i64 5, .string s, .int .i64 (at_ : Int), .int .i64 65] w fun e w' => e = .returned (.tuple #[.int .i64 (rdE (scanD 5 s 8 at_)), .int .i64 (rdP (scanD 5 s 8 at_) (at_ + 8) : Int)]) ∧ Below g w w' ∧ (scanD 5 s 8 at_ = none → w'.heap[g]? = some (.cells (rowC (fRow 5 s at_ 64 8 f 8)) 33 (0, 0))) := by
  unfold maxLen at hs
  go_enter Try.func56, Try.ntmps56
  go_wp2_with fail
  go_loopw [3, 13] (fun a k wr => ∃ j : Nat, j ≤ 8 ∧ k = .int .i64 ((64 + 8 * j + 1 : Nat) : Int) ∧ a = .int .i64 ((at_ + j : Nat) : Int) ∧ Hid (scanD 5 s 8 at_ = scanD 5 s (8 - j) (at_ + j)) ∧ Hid (wr.heap[g]? = some (.cells (rowC (fRow 5 s at_ 64 8 f j)) 33 (0, 0))) ∧ Below g w wr) (fun _ k _ => 130 - (intOf k).toNat)
  case atStart => exact ⟨0, by omega, rfl, rfl, rfl, hg, Below.refl _ _⟩
  case round =>
    obtain ⟨j, hj, rfl, rfl, HS, G0, hb⟩ := hrel
    by_cases hj2 : j < 8
    · have HK0 : Hid (∃ K0, 64 + 8 * j = K0) := ⟨_, rfl⟩
      obtain ⟨K0, hK0⟩ := HK0.out
      have hK1 : (K0 : Int) + 1 ≤ 121 := by omega
      have hq : ((K0 + 1 : Nat) : Int) < 65 + 64 := by omega
      have HKK : Hid (64 + 8 * j = K0) := hK0
      have HF : Hid (fRow 5 s at_ 64 8 f (j + 1) = setB (fRow 5 s at_ 64 8 f j) (K0 + 1) 8 (valN 5 s (at_ + j)).toNat 8) := by
        show _ = _
        rw [fRow, hK0]
      have HJ : Hid (64 + 8 * (j + 1) + 1 = K0 + 1 + 8) := by show _ = _; omega
      rw [hK0]
      clear hK0 HK0 hj
      by_cases hsz : s.size ≤ at_ + j
      · have HR : Hid (scanD 5 s 8 at_ = some (10, s.size)) := by
          show _ = _
          rw [HS.out, show 8 - j = (7 - j) + 1 by omega, scanD, if_pos hsz]
        have q1 : (s.size : Int) ≤ ((at_ + j : Nat) : Int) := by omega
        clear HS
        go_wp2_with fail
        go_ret2
        exact ⟨by rw [HR.out]; rfl, hb, fun h => by rw [HR.out] at h; cases h⟩
      · have q1 : ((at_ + j : Nat) : Int) < (s.size : Int) := by omega
        have lt : at_ + j < s.size := by omega
        have q0 : (0 : Int) ≤ ((at_ + j : Nat) : Int) := by omega
        have qa : ((at_ + j : Nat) : Int) ≤ 200 := by omega
        obtain ⟨c, hc⟩ : ∃ c, c = s.data[at_ + j]! := ⟨_, rfl⟩
        have hix : ∀ w, (Instr.index 9 (.string s) (.int .i64 ((at_ + j : Nat) : Int))).run Try.prog w = .ok (.int .u8 (c.toNat : Int)) w := fun w => by
          rw [run_index_string w _ _ _ _ Try.underlying9, dif_pos ⟨by omega, by omega⟩, hc]
          rw [byte_at s (at_ + j) lt]
          rfl
        have cb := c.toNat_lt
        have ic : (c.toNat : Int) ≤ 255 := by omega
        have HV : Hid (valN 5 s (at_ + j) = (c.toNat : Int)) := by show _ = _; rw [valN, if_pos rfl, hc]
        clear hc
        obtain ⟨n, hn⟩ : ∃ n : Nat, at_ + j = n := ⟨_, rfl⟩
        have HN : Hid (at_ + j = n) := hn
        rw [hn] at q1 q0 qa hix HS HF HV ⊢
        clear hn
        have HS2 : Hid (scanD 5 s 8 at_ = scanD 5 s (8 - (j + 1)) (at_ + (j + 1))) := by
            show _ = _
            rw [HS.out, show 8 - j = (8 - (j + 1)) + 1 by omega, scanD, if_neg (by have := HN.out; omega), HV.out, if_neg (by omega), show n + 1 = at_ + (j + 1) by have := HN.out; omega]
        rw [HV.out] at HF
        simp only [Int.toNat_natCast] at HF
        · obtain ⟨v, hv⟩ : ∃ v : Nat, c.toNat = v := ⟨_, rfl⟩
          have iv : (v : Int) ≤ 255 := by omega
          rw [hv] at HF hix
          clear hv cb ic HS HV
          go_wp2_with fail
          obtain ⟨wo, hwo⟩ : ∃ wo : World, wo = wr := ⟨wr, rfl⟩
          rw [← hwo] at G0 hb ⊢
          clear hwo
          generalize hfj : fRow 5 s at_ 64 8 f j = fj at *
          have dA : (K0 : Int) + 1 < 129 := by omega
          have dB : ¬ s.size ≤ n := by have := HN.out; omega
          have dC : ¬ (v : Int) < 0 := by omega
          simp only [decide_eq_true dA, decide_eq_false dB, decide_eq_false dC]
          clear dA dB dC
          try rw [show ((K0 + 1 : Nat) : Int) = (K0 : Int) + 1 by omega]
          go_loopw [15] (fun i wi => ∃ t : Nat, t ≤ 8 ∧ i = .int .i64 (t : Int) ∧ Hid (wi.heap[g]? = some (.cells (rowC (setB fj (K0 + 1) 8 v t)) 33 (0, 0))) ∧ Below g w wi) (fun i _ => 9 - (intOf i).toNat)
          case atStart => exact ⟨0, by omega, rfl, by rw [← setB_zero]; exact G0.out, hb⟩
          case round =>
            obtain ⟨t, ht, rfl, GI, hbi⟩ := hrel
            by_cases ht2 : t < 8
            · have qt : (t : Int) < 8 := by omega
              have qt0 : (0 : Int) ≤ (t : Int) := by omega
              have k1 := row_cell GI.out (K0 + 1 + t) (by omega)
              have k2 : wr.frozen? ⟨g, K0 + 1 + t, none⟩ = false := frozen_of_row _ _ _ _ _ GI.out
              have HG : Hid ((wr.setCell ⟨g, K0 + 1 + t, none⟩ (.bool (v.testBit (7 - t)))).heap[g]? = some (.cells (rowC (setB fj (K0 + 1) 8 v (t + 1))) 33 (0, 0))) := by
                show _ = _
                rw [heap_setCell_same _ _ _ _ _ _ GI.out, setB_step _ _ _ _ _ (by omega)]
              have u1 := bit_i v (7 - t)
              have w1 : IntKind.i64.wrap ((K0 : Int) + 1 + (t : Int)) = (K0 : Int) + 1 + (t : Int) := by rw [IntKind.wrap_i64]; omega
              have w0 : IntKind.i64.wrap 7 = 7 := by decide
              have w6 : ((K0 : Int) + 1 + (t : Int)).toNat = K0 + 1 + t := by omega
              have w7 : (0 : Int) ≤ (K0 : Int) + 1 + (t : Int) := by omega
              have w2 : IntKind.i64.wrap (7 - (t : Int)) = 7 - (t : Int) := by rw [IntKind.wrap_i64]; omega
              have w3 : (7 - (t : Int)).toNat = 7 - t := by omega
              have w4 : (0 : Int) ≤ 7 - (t : Int) := by omega
              have w5 : (K0 : Int) + 1 + (t : Int) < 129 := by omega
              go_wp2_with fail
              go_region_with (fail)
              go_wp2
              exact ⟨⟨t + 1, by omega, by simp, HG.out, (hbi.setCell (Nat.le_refl _) _).drew⟩, by simp only [intOf]; omega⟩
            · obtain rfl : t = 8 := by omega
              go_wp2_with fail
              refine ⟨⟨j + 1, by omega, ?_, ?_, HS2, by rw [HF.out]; exact GI.out, hbi⟩, ?_⟩
              · congr 1; have := HJ.out; omega
              · congr 1; have := HN.out; omega
              · simp only [intOf]; have := HKK.out; omega
    · obtain rfl : j = 8 := by omega
      have HR : Hid (scanD 5 s 8 at_ = none) := by show _ = _; rw [HS.out]; rfl
      have qa : ((at_ + 8 : Nat) : Int) ≤ 200 := by omega
      clear HS
      go_wp2_with fail
      go_ret2
      exact ⟨by rw [HR.out]; rfl, hb, fun _ => G0.out⟩
set_option maxRecDepth 100000 in
set_option maxHeartbeats 3200000 in
theorem read_4_1 (enc : Int) (he : enc = 1 ∨ enc = 4) (s : ByteArray) (hs : s.size ≤ maxLen) (at_ : Nat) (ha : at_ ≤ 100) (f : Nat → Bool) (g : Nat) (w : World) (hg : w.heap[g]? = some (.cells (rowC f) 33 (0, 0))) :
    Calls Try.prog 56 #[.pointer (some ⟨g, 0, none⟩), .int .i64 enc, .string s, .int .i64 (at_ : Int), .int .i64 1] w fun e w' => e = .returned (.tuple #[.int .i64 (rdE (scanD enc s 16 at_)), .int .i64 (rdP (scanD enc s 16 at_) (at_ + 16) : Int)]) ∧ Below g w w' ∧ (scanD enc s 16 at_ = none → w'.heap[g]? = some (.cells (rowC (fRow enc s at_ 0 4 f 16)) 33 (0, 0))) := by
  unfold maxLen at hs
  have q5 : (enc == 5) = false := beq_eq_false_iff_ne.mpr (by omega)
  have h5 : enc ≠ 5 := by omega
  have CH : Hid (∀ c w, Calls Try.prog 62 #[.int .i64 enc, .int .u8 ((c : UInt8).toNat : Int)] w fun e w' => e = .returned (.int .i64 (wv enc c.toNat)) ∧ w' = w) := fun c w => sixteenth_any enc he c w
  clear he
  go_enter Try.func56, Try.ntmps56
  go_wp2_with fail
  go_loopw [3, 13] (fun a k wr => ∃ j : Nat, j ≤ 16 ∧ k = .int .i64 ((0 + 4 * j + 1 : Nat) : Int) ∧ a = .int .i64 ((at_ + j : Nat) : Int) ∧ Hid (scanD enc s 16 at_ = scanD enc s (16 - j) (at_ + j)) ∧ Hid (wr.heap[g]? = some (.cells (rowC (fRow enc s at_ 0 4 f j)) 33 (0, 0))) ∧ Below g w wr) (fun _ k _ => 66 - (intOf k).toNat)
  case atStart => exact ⟨0, by omega, rfl, rfl, rfl, hg, Below.refl _ _⟩
  case round =>
    obtain ⟨j, hj, rfl, rfl, HS, G0, hb⟩ := hrel
    by_cases hj2 : j < 16
    · have HK0 : Hid (∃ K0, 0 + 4 * j = K0) := ⟨_, rfl⟩
      obtain ⟨K0, hK0⟩ := HK0.out
      have hK1 : (K0 : Int) + 1 ≤ 61 := by omega
      have hq : ((K0 + 1 : Nat) : Int) < 1 + 64 := by omega
      have HKK : Hid (0 + 4 * j = K0) := hK0
      have HF : Hid (fRow enc s at_ 0 4 f (j + 1) = setB (fRow enc s at_ 0 4 f j) (K0 + 1) 4 (valN enc s (at_ + j)).toNat 4) := by
        show _ = _
        rw [fRow, hK0]
      have HJ : Hid (0 + 4 * (j + 1) + 1 = K0 + 1 + 4) := by show _ = _; omega
      rw [hK0]
      clear hK0 HK0 hj
      by_cases hsz : s.size ≤ at_ + j
      · have HR : Hid (scanD enc s 16 at_ = some (10, s.size)) := by
          show _ = _
          rw [HS.out, show 16 - j = (15 - j) + 1 by omega, scanD, if_pos hsz]
        have q1 : (s.size : Int) ≤ ((at_ + j : Nat) : Int) := by omega
        clear HS
        go_wp2_with fail
        go_ret2
        exact ⟨by rw [HR.out]; rfl, hb, fun h => by rw [HR.out] at h; cases h⟩
      · have q1 : ((at_ + j : Nat) : Int) < (s.size : Int) := by omega
        have lt : at_ + j < s.size := by omega
        have q0 : (0 : Int) ≤ ((at_ + j : Nat) : Int) := by omega
        have qa : ((at_ + j : Nat) : Int) ≤ 200 := by omega
        obtain ⟨c, hc⟩ : ∃ c, c = s.data[at_ + j]! := ⟨_, rfl⟩
        have hix : ∀ w, (Instr.index 9 (.string s) (.int .i64 ((at_ + j : Nat) : Int))).run Try.prog w = .ok (.int .u8 (c.toNat : Int)) w := fun w => by
          rw [run_index_string w _ _ _ _ Try.underlying9, dif_pos ⟨by omega, by omega⟩, hc]
          rw [byte_at s (at_ + j) lt]
          rfl
        have cb := c.toNat_lt
        have ic : (c.toNat : Int) ≤ 255 := by omega
        have HV : Hid (valN enc s (at_ + j) = wv enc c.toNat) := by show _ = _; rw [valN, if_neg h5, wl, hc]
        have pc := CH.out c
        have bd := wv_bd enc c.toNat
        clear hc
        obtain ⟨n, hn⟩ : ∃ n : Nat, at_ + j = n := ⟨_, rfl⟩
        have HN : Hid (at_ + j = n) := hn
        rw [hn] at q1 q0 qa hix HS HF HV ⊢
        clear hn
        generalize wv enc c.toNat = z at *
        by_cases hz0 : z < 0
        · have HR : Hid (scanD enc s 16 at_ = some (11, n)) := by
            show _ = _
            rw [HS.out, show 16 - j = (15 - j) + 1 by omega, scanD, if_neg (by have := HN.out; omega), HV.out, if_pos hz0]
          clear HS bd
          go_wp2_with (go_at_call 62; refine (pc _).mono ?_; rintro e y ⟨rfl, rfl⟩)
          go_ret2
          exact ⟨by rw [HR.out]; rfl, hb, fun h => by rw [HR.out] at h; cases h⟩
        · obtain ⟨v, hv⟩ : ∃ v : Nat, z = (v : Int) := ⟨z.toNat, by omega⟩
          have iv : (v : Int) ≤ 255 := by omega
          have HS2 : Hid (scanD enc s 16 at_ = scanD enc s (16 - (j + 1)) (at_ + (j + 1))) := by
            show _ = _
            rw [HS.out, show 16 - j = (16 - (j + 1)) + 1 by omega, scanD, if_neg (by have := HN.out; omega), HV.out, if_neg hz0, show n + 1 = at_ + (j + 1) by have := HN.out; omega]
          rw [HV.out, hv] at HF
          rw [hv] at pc
          clear hv hz0 bd HS HV
          simp only [Int.toNat_natCast] at HF
          go_wp2_with (go_at_call 62; refine (pc _).mono ?_; rintro e y ⟨rfl, rfl⟩)
          obtain ⟨wo, hwo⟩ : ∃ wo : World, wo = y := ⟨y, rfl⟩
          rw [← hwo] at G0 hb ⊢
          clear hwo
          generalize hfj : fRow enc s at_ 0 4 f j = fj at *
          have dA : (K0 : Int) + 1 < 65 := by omega
          have dB : ¬ s.size ≤ n := by have := HN.out; omega
          have dC : ¬ (v : Int) < 0 := by omega
          simp only [decide_eq_false dC]
          clear dA dB dC
          try rw [show ((K0 + 1 : Nat) : Int) = (K0 : Int) + 1 by omega]
          go_loopw [15] (fun i wi => ∃ t : Nat, t ≤ 4 ∧ i = .int .i64 (t : Int) ∧ Hid (wi.heap[g]? = some (.cells (rowC (setB fj (K0 + 1) 4 v t)) 33 (0, 0))) ∧ Below g w wi) (fun i _ => 5 - (intOf i).toNat)
          case atStart => exact ⟨0, by omega, rfl, by rw [← setB_zero]; exact G0.out, hb⟩
          case round =>
            obtain ⟨t, ht, rfl, GI, hbi⟩ := hrel
            by_cases ht2 : t < 4
            · have qt : (t : Int) < 4 := by omega
              have qt0 : (0 : Int) ≤ (t : Int) := by omega
              have k1 := row_cell GI.out (K0 + 1 + t) (by omega)
              have k2 : wr.frozen? ⟨g, K0 + 1 + t, none⟩ = false := frozen_of_row _ _ _ _ _ GI.out
              have HG : Hid ((wr.setCell ⟨g, K0 + 1 + t, none⟩ (.bool (v.testBit (3 - t)))).heap[g]? = some (.cells (rowC (setB fj (K0 + 1) 4 v (t + 1))) 33 (0, 0))) := by
                show _ = _
                rw [heap_setCell_same _ _ _ _ _ _ GI.out, setB_step _ _ _ _ _ (by omega)]
              have u1 := bit_i v (3 - t)
              have w1 : IntKind.i64.wrap ((K0 : Int) + 1 + (t : Int)) = (K0 : Int) + 1 + (t : Int) := by rw [IntKind.wrap_i64]; omega
              have w0 : IntKind.i64.wrap 3 = 3 := by decide
              have w6 : ((K0 : Int) + 1 + (t : Int)).toNat = K0 + 1 + t := by omega
              have w7 : (0 : Int) ≤ (K0 : Int) + 1 + (t : Int) := by omega
              have w2 : IntKind.i64.wrap (3 - (t : Int)) = 3 - (t : Int) := by rw [IntKind.wrap_i64]; omega
              have w3 : (3 - (t : Int)).toNat = 3 - t := by omega
              have w4 : (0 : Int) ≤ 3 - (t : Int) := by omega
              have w5 : (K0 : Int) + 1 + (t : Int) < 129 := by omega
              go_wp2_with fail
              go_region_with (fail)
              go_wp2
              exact ⟨⟨t + 1, by omega, by simp, HG.out, (hbi.setCell (Nat.le_refl _) _).drew⟩, by simp only [intOf]; omega⟩
            · obtain rfl : t = 4 := by omega
              go_wp2_with fail
              refine ⟨⟨j + 1, by omega, ?_, ?_, HS2, by rw [HF.out]; exact GI.out, hbi⟩, ?_⟩
              · congr 1; have := HJ.out; omega
              · congr 1; have := HN.out; omega
              · simp only [intOf]; have := HKK.out; omega
    · obtain rfl : j = 16 := by omega
      have HR : Hid (scanD enc s 16 at_ = none) := by show _ = _; rw [HS.out]; rfl
      have qa : ((at_ + 16 : Nat) : Int) ≤ 200 := by omega
      clear HS
      go_wp2_with fail
      go_ret2
      exact ⟨by rw [HR.out]; rfl, hb, fun _ => G0.out⟩
set_option maxRecDepth 100000 in
set_option maxHeartbeats 3200000 in
theorem read_4_65 (enc : Int) (he : enc = 1 ∨ enc = 4) (s : ByteArray) (hs : s.size ≤ maxLen) (at_ : Nat) (ha : at_ ≤ 100) (f : Nat → Bool) (g : Nat) (w : World) (hg : w.heap[g]? = some (.cells (rowC f) 33 (0, 0))) :
    Calls Try.prog 56 #[.pointer (some ⟨g, 0, none⟩), .int .i64 enc, .string s, .int .i64 (at_ : Int), .int .i64 65] w fun e w' => e = .returned (.tuple #[.int .i64 (rdE (scanD enc s 16 at_)), .int .i64 (rdP (scanD enc s 16 at_) (at_ + 16) : Int)]) ∧ Below g w w' ∧ (scanD enc s 16 at_ = none → w'.heap[g]? = some (.cells (rowC (fRow enc s at_ 64 4 f 16)) 33 (0, 0))) := by
  unfold maxLen at hs
  have q5 : (enc == 5) = false := beq_eq_false_iff_ne.mpr (by omega)
  have h5 : enc ≠ 5 := by omega
  have CH : Hid (∀ c w, Calls Try.prog 62 #[.int .i64 enc, .int .u8 ((c : UInt8).toNat : Int)] w fun e w' => e = .returned (.int .i64 (wv enc c.toNat)) ∧ w' = w) := fun c w => sixteenth_any enc he c w
  clear he
  go_enter Try.func56, Try.ntmps56
  go_wp2_with fail
  go_loopw [3, 13] (fun a k wr => ∃ j : Nat, j ≤ 16 ∧ k = .int .i64 ((64 + 4 * j + 1 : Nat) : Int) ∧ a = .int .i64 ((at_ + j : Nat) : Int) ∧ Hid (scanD enc s 16 at_ = scanD enc s (16 - j) (at_ + j)) ∧ Hid (wr.heap[g]? = some (.cells (rowC (fRow enc s at_ 64 4 f j)) 33 (0, 0))) ∧ Below g w wr) (fun _ k _ => 130 - (intOf k).toNat)
  case atStart => exact ⟨0, by omega, rfl, rfl, rfl, hg, Below.refl _ _⟩
  case round =>
    obtain ⟨j, hj, rfl, rfl, HS, G0, hb⟩ := hrel
    by_cases hj2 : j < 16
    · have HK0 : Hid (∃ K0, 64 + 4 * j = K0) := ⟨_, rfl⟩
      obtain ⟨K0, hK0⟩ := HK0.out
      have hK1 : (K0 : Int) + 1 ≤ 125 := by omega
      have hq : ((K0 + 1 : Nat) : Int) < 65 + 64 := by omega
      have HKK : Hid (64 + 4 * j = K0) := hK0
      have HF : Hid (fRow enc s at_ 64 4 f (j + 1) = setB (fRow enc s at_ 64 4 f j) (K0 + 1) 4 (valN enc s (at_ + j)).toNat 4) := by
        show _ = _
        rw [fRow, hK0]
      have HJ : Hid (64 + 4 * (j + 1) + 1 = K0 + 1 + 4) := by show _ = _; omega
      rw [hK0]
      clear hK0 HK0 hj
      by_cases hsz : s.size ≤ at_ + j
      · have HR : Hid (scanD enc s 16 at_ = some (10, s.size)) := by
          show _ = _
          rw [HS.out, show 16 - j = (15 - j) + 1 by omega, scanD, if_pos hsz]
        have q1 : (s.size : Int) ≤ ((at_ + j : Nat) : Int) := by omega
        clear HS
        go_wp2_with fail
        go_ret2
        exact ⟨by rw [HR.out]; rfl, hb, fun h => by rw [HR.out] at h; cases h⟩
      · have q1 : ((at_ + j : Nat) : Int) < (s.size : Int) := by omega
        have lt : at_ + j < s.size := by omega
        have q0 : (0 : Int) ≤ ((at_ + j : Nat) : Int) := by omega
        have qa : ((at_ + j : Nat) : Int) ≤ 200 := by omega
        obtain ⟨c, hc⟩ : ∃ c, c = s.data[at_ + j]! := ⟨_, rfl⟩
        have hix : ∀ w, (Instr.index 9 (.string s) (.int .i64 ((at_ + j : Nat) : Int))).run Try.prog w = .ok (.int .u8 (c.toNat : Int)) w := fun w => by
          rw [run_index_string w _ _ _ _ Try.underlying9, dif_pos ⟨by omega, by omega⟩, hc]
          rw [byte_at s (at_ + j) lt]
          rfl
        have cb := c.toNat_lt
        have ic : (c.toNat : Int) ≤ 255 := by omega
        have HV : Hid (valN enc s (at_ + j) = wv enc c.toNat) := by show _ = _; rw [valN, if_neg h5, wl, hc]
        have pc := CH.out c
        have bd := wv_bd enc c.toNat
        clear hc
        obtain ⟨n, hn⟩ : ∃ n : Nat, at_ + j = n := ⟨_, rfl⟩
        have HN : Hid (at_ + j = n) := hn
        rw [hn] at q1 q0 qa hix HS HF HV ⊢
        clear hn
        generalize wv enc c.toNat = z at *
        by_cases hz0 : z < 0
        · have HR : Hid (scanD enc s 16 at_ = some (11, n)) := by
            show _ = _
            rw [HS.out, show 16 - j = (15 - j) + 1 by omega, scanD, if_neg (by have := HN.out; omega), HV.out, if_pos hz0]
          clear HS bd
          go_wp2_with (go_at_call 62; refine (pc _).mono ?_; rintro e y ⟨rfl, rfl⟩)
          go_ret2
          exact ⟨by rw [HR.out]; rfl, hb, fun h => by rw [HR.out] at h; cases h⟩
        · obtain ⟨v, hv⟩ : ∃ v : Nat, z = (v : Int) := ⟨z.toNat, by omega⟩
          have iv : (v : Int) ≤ 255 := by omega
          have HS2 : Hid (scanD enc s 16 at_ = scanD enc s (16 - (j + 1)) (at_ + (j + 1))) := by
            show _ = _
            rw [HS.out, show 16 - j = (16 - (j + 1)) + 1 by omega, scanD, if_neg (by have := HN.out; omega), HV.out, if_neg hz0, show n + 1 = at_ + (j + 1) by have := HN.out; omega]
          rw [HV.out, hv] at HF
          rw [hv] at pc
          clear hv hz0 bd HS HV
          simp only [Int.toNat_natCast] at HF
          go_wp2_with (go_at_call 62; refine (pc _).mono ?_; rintro e y ⟨rfl, rfl⟩)
          obtain ⟨wo, hwo⟩ : ∃ wo : World, wo = y := ⟨y, rfl⟩
          rw [← hwo] at G0 hb ⊢
          clear hwo
          generalize hfj : fRow enc s at_ 64 4 f j = fj at *
          have dA : (K0 : Int) + 1 < 129 := by omega
          have dB : ¬ s.size ≤ n := by have := HN.out; omega
          have dC : ¬ (v : Int) < 0 := by omega
          simp only [decide_eq_false dC]
          clear dA dB dC
          try rw [show ((K0 + 1 : Nat) : Int) = (K0 : Int) + 1 by omega]
          go_loopw [15] (fun i wi => ∃ t : Nat, t ≤ 4 ∧ i = .int .i64 (t : Int) ∧ Hid (wi.heap[g]? = some (.cells (rowC (setB fj (K0 + 1) 4 v t)) 33 (0, 0))) ∧ Below g w wi) (fun i _ => 5 - (intOf i).toNat)
          case atStart => exact ⟨0, by omega, rfl, by rw [← setB_zero]; exact G0.out, hb⟩
          case round =>
            obtain ⟨t, ht, rfl, GI, hbi⟩ := hrel
            by_cases ht2 : t < 4
            · have qt : (t : Int) < 4 := by omega
              have qt0 : (0 : Int) ≤ (t : Int) := by omega
              have k1 := row_cell GI.out (K0 + 1 + t) (by omega)
              have k2 : wr.frozen? ⟨g, K0 + 1 + t, none⟩ = false := frozen_of_row _ _ _ _ _ GI.out
              have HG : Hid ((wr.setCell ⟨g, K0 + 1 + t, none⟩ (.bool (v.testBit (3 - t)))).heap[g]? = some (.cells (rowC (setB fj (K0 + 1) 4 v (t + 1))) 33 (0, 0))) := by
                show _ = _
                rw [heap_setCell_same _ _ _ _ _ _ GI.out, setB_step _ _ _ _ _ (by omega)]
              have u1 := bit_i v (3 - t)
              have w1 : IntKind.i64.wrap ((K0 : Int) + 1 + (t : Int)) = (K0 : Int) + 1 + (t : Int) := by rw [IntKind.wrap_i64]; omega
              have w0 : IntKind.i64.wrap 3 = 3 := by decide
              have w6 : ((K0 : Int) + 1 + (t : Int)).toNat = K0 + 1 + t := by omega
              have w7 : (0 : Int) ≤ (K0 : Int) + 1 + (t : Int) := by omega
              have w2 : IntKind.i64.wrap (3 - (t : Int)) = 3 - (t : Int) := by rw [IntKind.wrap_i64]; omega
              have w3 : (3 - (t : Int)).toNat = 3 - t := by omega
              have w4 : (0 : Int) ≤ 3 - (t : Int) := by omega
              have w5 : (K0 : Int) + 1 + (t : Int) < 129 := by omega
              go_wp2_with fail
              go_region_with (fail)
              go_wp2
              exact ⟨⟨t + 1, by omega, by simp, HG.out, (hbi.setCell (Nat.le_refl _) _).drew⟩, by simp only [intOf]; omega⟩
            · obtain rfl : t = 4 := by omega
              go_wp2_with fail
              refine ⟨⟨j + 1, by omega, ?_, ?_, HS2, by rw [HF.out]; exact GI.out, hbi⟩, ?_⟩
              · congr 1; have := HJ.out; omega
              · congr 1; have := HN.out; omega
              · simp only [intOf]; have := HKK.out; omega
    · obtain rfl : j = 16 := by omega
      have HR : Hid (scanD enc s 16 at_ = none) := by show _ = _; rw [HS.out]; rfl
      have qa : ((at_ + 16 : Nat) : Int) ≤ 200 := by omega
      clear HS
      go_wp2_with fail
      go_ret2
      exact ⟨by rw [HR.out]; rfl, hb, fun _ => G0.out⟩
end Go.Proofs.Ytiepchghlopfnaa.Rr
