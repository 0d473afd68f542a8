/- journal.Sum. -/
import Derived.Test.YtabmpngliphdpaaDoorJa
import Derived.Laws.BitsAllLaws
namespace Go.Proofs.YtabmpngliphdpaaDoor.Jb
set_option linter.unusedVariables false
set_option linter.unusedSimpArgs false
open Go.RowKit Lib0 Kb Ja
attribute [local go_sem] Oper.semAt_some
def step (c : Nat) (b : UInt8) : Nat := bitK 8 (c ^^^ b.toNat)
def fold (l : List UInt8) : Nat := l.foldl step 4294967295
/-- the check sum -/
def sumN (l : List UInt8) : Nat := fold l ^^^ 4294967295
theorem lt_xor {a b : Nat} (ha : a < 4294967296) (hb : b < 4294967296) : a ^^^ b < 4294967296 := Nat.xor_lt_two_pow (n := 32) ha hb
theorem haN_lt (r : Nat) (h : r < 16) : haN r < 4294967296 := by
  have : ∀ r, r < 16 → haN r < 4294967296 := by decide
  exact this r h
theorem nib_lt (c : Nat) (h : c < 4294967296) : nib c < 4294967296 := lt_xor (by omega) (haN_lt _ (Nat.mod_lt _ (by decide)))
theorem bitK_add (a b c : Nat) : bitK (a + b) c = bitK b (bitK a c) := by
  induction a generalizing c with
  | zero => rw [Nat.zero_add]; rfl
  | succ a ih => rw [Nat.add_right_comm, bitK, bitK, ih]
theorem step_nib (c : Nat) (b : UInt8) : step c b = nib (nib (c ^^^ b.toNat)) := by
  unfold step
  rw [show 8 = 4 + 4 from rfl, bitK_add, nib_bit, nib_bit]
theorem step_lt (c : Nat) (b : UInt8) (h : c < 4294967296) : step c b < 4294967296 := by
  rw [step_nib]
  exact nib_lt _ (nib_lt _ (lt_xor h (by have := b.toNat_lt; omega)))
theorem fold_snoc (l : List UInt8) (b : UInt8) : fold (l ++ [b]) = step (fold l) b := by simp [fold]
theorem fold_lt (l : List UInt8) : fold l < 4294967296 := by
  have : ∀ (l : List UInt8) (c : Nat), c < 4294967296 → l.foldl step c < 4294967296 := by
    intro l
    induction l with
    | nil => intro c h; exact h
    | cons b l ih => intro c h; exact ih _ (step_lt c b h)
  exact this l _ (by decide)
theorem fold_next (s : ByteArray) (i : Nat) (h : i < s.size) : fold (s.data.toList.take (i + 1)) = step (fold (s.data.toList.take i)) s[i] := by
  have hl : i < s.data.toList.length := by rw [Array.length_toList]; exact h
  rw [List.take_succ_eq_append_getElem hl, fold_snoc]
  rfl
theorem fold_end (s : ByteArray) : fold (s.data.toList.take s.size) = fold s.data.toList := by
  rw [List.take_of_length_le (by rw [Array.length_toList]; exact Nat.le_refl _)]
theorem mod16 (x : Nat) (h : x < 4294967296) : bits .and .u32 (x : Int) 15 = ((x % 16 : Nat) : Int) := by
  have := u32_and_nat x 15 h (by decide)
  rw [show (15 : Int) = ((15 : Nat) : Int) from rfl, this, show (15 : Nat) = 2 ^ 4 - 1 from rfl, Nat.and_two_pow_sub_one_eq_mod]
theorem flip_sub (c : Nat) (h : c < 4294967296) : c ^^^ 4294967295 = 4294967295 - c := by
  apply Nat.eq_of_testBit_eq
  intro i
  rw [Nat.testBit_xor, show 4294967295 - c = 2 ^ 32 - (c + 1) by omega, Nat.testBit_two_pow_sub_succ h, show (4294967295 : Nat) = 2 ^ 32 - 1 from rfl, Nat.testBit_two_pow_sub_one]
  by_cases hi : i < 32
  · simp [hi]
  · have : c.testBit i = false := Nat.testBit_lt_two_pow (Nat.lt_of_lt_of_le (show c < 2 ^ 32 from h) (Nat.pow_le_pow_right (n := 2) (by decide) (show 32 ≤ i by omega)))
    simp [hi, this]
theorem gH : Tryd.prog.globalNamed "turnstile/journal.halves" = some 0 := by kernel_rfl
theorem hal_cell {w : World} (h : Hal w) (r : Nat) (hr : r < 16) : w.cell? ⟨0, r, none⟩ = some (.int .u32 (haN r : Int)) := by
  have h9 := Lib.TabIs.cell h gH r hr
  rw [h9]
  have : ∀ r, r < 16 → haL.getD r 0 = ((haN r : Nat) : Int) := by decide
  rw [this r hr]
set_option maxRecDepth 100000 in
set_option maxHeartbeats 3200000 in
theorem sum_any (s : ByteArray) (w : World) (hs : s.size ≤ 4611686018427387904) (hT : Hal w) : Calls Tryd.prog 9 #[.string s] w fun e w' => e = .returned (.int .u32 (sumN s.data.toList : Int)) ∧ w' = w := by
  have q0 : (s.size : Int) ≤ 9223372036854775807 := by omega
  have HT : Hid (Hal w) := hT
  clear hT
  go_enter Tryd.func9, Tryd.ntmps9
  go_wp2_with fail
  go_loopw [3, 4, 7] (fun cv _ iv wr => ∃ (i c : Nat), iv = .int .i64 (i : Int) ∧ cv = .int .u32 (c : Int) ∧ Hid (i ≤ s.size ∧ c = fold (s.data.toList.take i)) ∧ wr = w) (fun _ _ iv _ => s.size + 1 - (intOf iv).toNat)
  case atStart => exact ⟨0, 4294967295, rfl, rfl, ⟨by omega, by simp [fold]⟩, rfl⟩
  case round =>
    obtain ⟨i, c, rfl, rfl, HI, rfl⟩ := hrel
    have hc : c < 4294967296 := by rw [HI.out.2]; exact fold_lt _
    by_cases hlt : i < s.size
    · have hn := fold_next s i hlt
      have hB := s[i].toNat_lt
      obtain ⟨B, hBB⟩ : ∃ B, s[i].toNat = B := ⟨_, rfl⟩
      rw [step_nib, hBB, ← HI.out.2] at hn
      have HN : Hid (nib (nib (c ^^^ B)) = fold (s.data.toList.take (i + 1))) := hn.symm
      have f0 : (s[i].toNat : Int) % 4294967296 = (B : Int) := by rw [hBB]; omega
      rw [hBB] at hB
      have q1 : (i : Int) < (s.size : Int) := by omega
      have q2 : (0 : Int) ≤ (i : Int) := by omega
      have q3 : (i : Int) + 1 ≤ 9223372036854775807 := by omega
      have HLT : Hid (i < s.size) := hlt
      have f1 := u32_xor_nat c B hc (by omega)
      have hx1 := lt_xor hc (show B < 4294967296 by omega)
      obtain ⟨x1, hx⟩ : ∃ x1, c ^^^ B = x1 := ⟨_, rfl⟩
      rw [hx] at f1 hx1 HN
      have f2 := mod16 x1 hx1
      have hr1 : x1 % 16 < 16 := Nat.mod_lt _ (by decide)
      have c1 := hal_cell HT.out (x1 % 16) hr1
      have f3 := u32_xor_nat (x1 / 16) (haN (x1 % 16)) (by omega) (haN_lt _ hr1)
      have f4 : (x1 : Int) / 16 = ((x1 / 16 : Nat) : Int) := by omega
      have hx2 := nib_lt x1 hx1
      rw [show x1 / 16 ^^^ haN (x1 % 16) = nib x1 from rfl] at f3
      obtain ⟨h1, hh1⟩ : ∃ h, haN (x1 % 16) = h := ⟨_, rfl⟩
      obtain ⟨r1, hrr⟩ : ∃ h, x1 % 16 = h := ⟨_, rfl⟩
      obtain ⟨p1, hpp⟩ : ∃ h, x1 / 16 = h := ⟨_, rfl⟩
      obtain ⟨x2, hxx⟩ : ∃ h, nib x1 = h := ⟨_, rfl⟩
      rw [hh1] at c1 f3
      rw [hrr] at c1 f2 hr1
      rw [hpp] at f3 f4
      rw [hxx] at f3 hx2 HN
      have g2 := mod16 x2 hx2
      have hr2 : x2 % 16 < 16 := Nat.mod_lt _ (by decide)
      have c2 := hal_cell HT.out (x2 % 16) hr2
      have g3 := u32_xor_nat (x2 / 16) (haN (x2 % 16)) (by omega) (haN_lt _ hr2)
      have g4 : (x2 : Int) / 16 = ((x2 / 16 : Nat) : Int) := by omega
      rw [show x2 / 16 ^^^ haN (x2 % 16) = nib x2 from rfl] at g3
      obtain ⟨h2, hh2⟩ : ∃ h, haN (x2 % 16) = h := ⟨_, rfl⟩
      obtain ⟨r2, hrr2⟩ : ∃ h, x2 % 16 = h := ⟨_, rfl⟩
      obtain ⟨p2, hpp2⟩ : ∃ h, x2 / 16 = h := ⟨_, rfl⟩
      obtain ⟨x3, hxx3⟩ : ∃ h, nib x2 = h := ⟨_, rfl⟩
      rw [hh2] at c2 g3
      rw [hrr2] at c2 g2 hr2
      rw [hpp2] at g3 g4
      rw [hxx3] at g3 HN
      have q4 : (r1 : Int) < 16 := by omega
      have q5 : (0 : Int) ≤ (r1 : Int) := by omega
      have q6 : (r2 : Int) < 16 := by omega
      have q7 : (0 : Int) ≤ (r2 : Int) := by omega
      clear hn hBB hB hx hx1 hx2 hh1 hrr hpp hxx hh2 hrr2 hpp2 hxx3 hr1 hr2 hc
      go_wp2_with fail
      refine ⟨⟨i + 1, x3, by simp, rfl, ⟨by have := HLT.out; omega, HN.out⟩, trivial⟩, ?_⟩
      have := HLT.out
      simp only [intOf]; omega
    · have hi : i = s.size := by have := HI.out.1; omega
      have HE : Hid (bits .xor .u32 IntKind.u32.max (c : Int) = (sumN s.data.toList : Int)) := by
        show _ = _
        have e : c = fold s.data.toList := by rw [HI.out.2, hi, fold_end]
        have h9 := u32_xor_nat 4294967295 c (by decide) hc
        unfold sumN
        rw [← e, Nat.xor_comm, ← h9]; rfl
      have q1 : (s.size : Int) ≤ (i : Int) := by omega
      clear hi hlt
      go_wp2_with fail
      go_ret
      exact ⟨by rw [← HE.out]; rfl, rfl⟩
end Go.Proofs.YtabmpngliphdpaaDoor.Jb
