/- The document's Sum. -/
import Derived.Test.YtabmpngliphdpaaDoorJb
namespace Go.Proofs.YtabmpngliphdpaaDoor.Jc
set_option linter.unusedVariables false
set_option linter.unusedSimpArgs false
open Go.RowKit Lib0 Kb Ja Jb
attribute [local go_sem] Oper.semAt_some
theorem bit_lt (c : Nat) (h : c < 4294967296) : bit c < 4294967296 := by
  unfold bit
  refine lt_xor (by omega) ?_
  split <;> decide
theorem bitK_lt (k : Nat) : ∀ c, c < 4294967296 → bitK k c < 4294967296 := by
  induction k with
  | zero => intro c h; exact h
  | succ k ih => intro c h; exact ih _ (bit_lt c h)
set_option maxRecDepth 100000 in
set_option maxHeartbeats 3200000 in
theorem sumr_any (s : ByteArray) (w : World) (hs : s.size ≤ 4611686018427387904) : Calls Tryd.prog 10 #[.string s] w fun e w' => e = .returned (.int .u32 (sumN s.data.toList : Int)) ∧ w' = w := by
  have q0 : (s.size : Int) ≤ 9223372036854775807 := by omega
  go_enter Tryd.func10, Tryd.ntmps10
  go_wp2_with fail
  go_loopw [3, 4, 5, 6] (fun cv iv _ _ wr => ∃ (i c : Nat), iv = .int .i64 (i : Int) ∧ cv = .int .u32 (c : Int) ∧ Hid (i ≤ s.size ∧ c = fold (s.data.toList.take i)) ∧ wr = w) (fun _ iv _ _ _ => s.size + 1 - (intOf iv).toNat)
  case atStart => exact ⟨0, 4294967295, rfl, rfl, ⟨by omega, by simp [fold]⟩, rfl⟩
  case round =>
    obtain ⟨i, c, rfl, rfl, HI, rfl⟩ := hrel
    have hc : c < 4294967296 := by rw [HI.out.2]; exact fold_lt _
    by_cases hlt : i < s.size
    · have hn := fold_next s i hlt
      have hB := s[i].toNat_lt
      obtain ⟨B, hBB⟩ : ∃ B, s[i].toNat = B := ⟨_, rfl⟩
      change _ = bitK 8 (fold _ ^^^ s[i].toNat) at hn
      rw [hBB, ← HI.out.2] at hn
      have HN : Hid (bitK 8 (c ^^^ B) = fold (s.data.toList.take (i + 1))) := hn.symm
      have f0 : (s[i].toNat : Int) % 4294967296 = (B : Int) := by rw [hBB]; omega
      rw [hBB] at hB
      have q1 : (i : Int) < (s.size : Int) := by omega
      have q2 : (0 : Int) ≤ (i : Int) := by omega
      have q3 : (i : Int) + 1 ≤ 9223372036854775807 := by omega
      have HLT : Hid (i < s.size) := hlt
      have f1 := u32_xor_nat c B hc (by omega)
      have hx1 := lt_xor hc (show B < 4294967296 by omega)
      obtain ⟨x1, hx⟩ : ∃ x1, c ^^^ B = x1 := ⟨_, rfl⟩
      rw [hx] at f1 hx1 HN
      have HX1 : Hid (x1 < 4294967296) := hx1
      obtain ⟨wq, ew⟩ : ∃ x, x = wr := ⟨_, rfl⟩
      subst ew
      clear hn hBB hB hx hx1 hc
      go_wp2_with fail
      go_loopw [3, 5, 6] (fun cv kv _ wr => ∃ (k d : Nat), kv = .int .i64 (k : Int) ∧ cv = .int .u32 (d : Int) ∧ Hid (k ≤ 8 ∧ d < 4294967296 ∧ bitK (8 - k) d = bitK 8 x1) ∧ wr = wq) (fun _ kv _ _ => 9 - (intOf kv).toNat)
      case atStart => exact ⟨0, x1, rfl, rfl, ⟨by omega, HX1.out, rfl⟩, rfl⟩
      case round =>
        obtain ⟨k, d, rfl, rfl, HK, rfl⟩ := hrel
        by_cases hk : k < 8
        · have hd := HK.out.2.1
          have HNB : Hid (bit d < 4294967296 ∧ bitK (8 - (k + 1)) (bit d) = bitK 8 x1) := by
            refine ⟨bit_lt d hd, ?_⟩
            rw [← HK.out.2.2, show 8 - k = (8 - (k + 1)) + 1 by omega, bitK]
          have HK8 : Hid (k < 8) := hk
          have q4 : (k : Int) < 8 := by omega
          have q5 : (k : Int) + 1 ≤ 9223372036854775807 := by omega
          have g4 : (d : Int) / 2 = ((d / 2 : Nat) : Int) := by omega
          by_cases h2 : d % 2 = 1
          · have g1 : (d : Int) % 2 = 1 := by omega
            have g3 := u32_xor_nat (d / 2) 3988292384 (by omega) (by decide)
            have hb : bit d = d / 2 ^^^ 3988292384 := by unfold bit; rw [if_pos h2]; rfl
            rw [← hb] at g3
            obtain ⟨e, he⟩ : ∃ e, bit d = e := ⟨_, rfl⟩
            obtain ⟨p, hp⟩ : ∃ p, d / 2 = p := ⟨_, rfl⟩
            rw [he] at g3 HNB
            rw [hp] at g3 g4
            have g6 : bits .xor .u32 (p : Int) 3988292384 = (e : Int) := g3
            have g5 : (p : Int) % 4294967296 = (p : Int) := by omega
            clear hd hk h2 hb he hp
            go_wp2_with fail
            refine ⟨⟨k + 1, e, by simp, rfl, ⟨by have := HK8.out; omega, HNB.out⟩, trivial⟩, ?_⟩
            have := HK8.out
            simp only [intOf]; omega
          · have g1 : (d : Int) % 2 = 0 := by omega
            have hb : bit d = d / 2 := by unfold bit; rw [if_neg h2, Nat.xor_zero]
            rw [hb] at HNB
            obtain ⟨p, hp⟩ : ∃ p, d / 2 = p := ⟨_, rfl⟩
            rw [hp] at g4 HNB
            have g5 : (p : Int) % 4294967296 = (p : Int) := by omega
            clear hd hk h2 hb hp
            go_wp2_with fail
            refine ⟨⟨k + 1, p, by simp, rfl, ⟨by have := HK8.out; omega, HNB.out⟩, trivial⟩, ?_⟩
            have := HK8.out
            simp only [intOf]; omega
        · obtain rfl : k = 8 := by have := HK.out.1; omega
          have HN2 : Hid (d = fold (s.data.toList.take (i + 1))) := by
            have := HK.out.2.2
            show d = _
            rw [← HN.out, ← this]; rfl
          clear hk
          go_wp2_with fail
          refine ⟨⟨i + 1, d, by simp, rfl, ⟨by have := HLT.out; omega, HN2.out⟩, trivial⟩, ?_⟩
          have := HLT.out
          simp only [intOf]; omega
    · have hi : i = s.size := by have := HI.out.1; omega
      have HE : Hid (bits .xor .u32 (c : Int) 4294967295 = (sumN s.data.toList : Int)) := by
        show _ = _
        have e : c = fold s.data.toList := by rw [HI.out.2, hi, fold_end]
        have h9 := u32_xor_nat c 4294967295 hc (by decide)
        unfold sumN
        rw [← e, ← h9]; rfl
      have q1 : (s.size : Int) ≤ (i : Int) := by omega
      clear hi hlt
      go_wp2_with fail
      go_ret
      exact ⟨by rw [← HE.out]; rfl, rfl⟩
end Go.Proofs.YtabmpngliphdpaaDoor.Jc
