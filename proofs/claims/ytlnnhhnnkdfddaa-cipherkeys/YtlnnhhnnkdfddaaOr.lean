/- The document's Odd. -/
import Derived.Test.YtlnnhhnnkdfddaaWk
import Derived.Test.YtlnnhhnnkdfddaaRs
namespace Go.Proofs.Ytlnnhhnnkdfddaa.Or
set_option linter.unusedVariables false
open Go.RowKit Pla Cb Tk Sm Wd Nw Bk Eb Et Xo Od
open Lib0 (bs bs_length bs_append owns_len run_str own_ge below_app below_app0)
/-- the ones among the bits 1 to k - 1 -/
def onesU (c : Nat) : Nat → Nat
  | 0 => 0
  | k + 1 => onesU c k + (c.testBit (k + 1)).toNat
theorem onesU_le (c : Nat) : ∀ k, onesU c k ≤ k
  | 0 => Nat.le_refl _
  | k + 1 => by have := onesU_le c k; have : (c.testBit (k + 1)).toNat ≤ 1 := by cases c.testBit (k + 1) <;> decide
                rw [onesU]; omega
theorem odd_val : ∀ c : Fin 256, (oddC (UInt8.ofNat c.val)).toNat = c.val - c.val % 2 + (1 - onesU c.val 7 % 2) := by decide +kernel
theorem odd_is (c : UInt8) : (oddC c).toNat = c.toNat - c.toNat % 2 + (1 - onesU c.toNat 7 % 2) := by
  have h := odd_val ⟨c.toNat, c.toNat_lt⟩
  rw [show UInt8.ofNat (⟨c.toNat, c.toNat_lt⟩ : Fin 256).val = c from UInt8.ofNat_toNat] at h
  exact h
theorem odd_snoc (s : ByteArray) (j : Nat) (h : j < s.size) : bs ((oddL s.data.toList).take (j + 1)) = bs ((oddL s.data.toList).take j) ++ [.int .u8 ((oddC s[j]).toNat : Int)] := by
  have hl : j < (oddL s.data.toList).length := by rw [oddL_len]; simpa using h
  rw [List.take_succ_eq_append_getElem hl, bs_append]
  have e : (oddL s.data.toList)[j] = oddC s[j] := by
    simp only [oddL, List.getElem_map]; rfl
  rw [e]; rfl
theorem wrap8 (n : Nat) (h : n < 256) : IntKind.u8.wrap (n : Int) = (n : Int) := by rw [IntKind.wrap_u8']; omega
theorem wrap64n (n : Nat) (h : n < 256) : IntKind.i64.wrap (n : Int) = (n : Int) := by rw [IntKind.wrap_i64]; omega
set_option maxRecDepth 100000 in
set_option maxHeartbeats 3200000 in
theorem odd_ref (s : ByteArray) (hs : s.size ≤ 100000) (w : World) :
    Calls Try.prog 19 #[.string s] w fun e w' => e = .returned (.string ⟨(oddL s.data.toList).toArray⟩) ∧ Below w.heap.size w w' := by
  obtain ⟨i0, hi, hz0, hz1, hz2⟩ := info_parts Aw.info
  go_enter Try.func19, Try.ntmps19
  go_wp2
  go_loopw [3, 4, 5, 6] (fun v c n kk wr => ∃ j : Nat, j ≤ s.size ∧ c = .int .i64 (j : Int) ∧ wr.ownsRow w.heap.size 5 1 v j (bs ((oddL s.data.toList).take j)) ∧ Below w.heap.size w wr) (fun _ c _ _ _ => s.size + 1 - (intOf c).toNat)
  case atStart => exact ⟨0, Nat.zero_le _, rfl, World.ownsRow_nil _ _ _ _, Below.refl _ _⟩
  case round =>
    obtain ⟨j, hj, rfl, hown, hbw⟩ := hrel
    rename World => w9
    have hbs := hbw.size
    by_cases hlt : j < s.size
    · have q0 : (0 : Int) ≤ (j : Int) := by omega
      have q1 : (j : Int) < (s.size : Int) := by omega
      have HB : Hid (bs ((oddL s.data.toList).take (j + 1)) = bs ((oddL s.data.toList).take j) ++ [.int .u8 ((oddC s[j]).toNat : Int)]) := odd_snoc s j hlt
      have HO : Hid ((oddC s[j]).toNat = s[j].toNat - s[j].toNat % 2 + (1 - onesU s[j].toNat 7 % 2)) := odd_is s[j]
      have x0 : (0 : Int) ≤ (s[j].toNat : Int) := by omega
      have x1 : (s[j].toNat : Int) ≤ 255 := by have := s[j].toNat_lt; omega
      generalize (oddC s[j]).toNat = ov at *
      go_wp2
      go_loopw [5, 6] (fun n kk wr => ∃ k : Nat, k ≤ 7 ∧ kk = .int .i64 ((k : Int) + 1) ∧ n = .int .i64 (onesU s[j].toNat k : Int) ∧ wr = w9) (fun _ kk _ => 9 - (intOf kk).toNat)
      case atStart => exact ⟨0, by omega, rfl, rfl, rfl⟩
      case round =>
        obtain ⟨k, hk, rfl, rfl, rfl⟩ := hrel
        by_cases hk2 : k < 7
        · have r0 : (0 : Int) ≤ (k : Int) := by omega
          have r1 : (k : Int) + 1 < 8 := by omega
          have u1 := Rs.bit_at s[j].toNat (k + 1)
          have u2 : ((s[j].toNat : Int) / 2 ^ (k + 1)).tmod 2 = (((s[j].toNat.testBit (k + 1)).toNat : Nat) : Int) := by rw [Int.tmod_eq_emod_of_nonneg (Int.ediv_nonneg x0 (Int.pow_nonneg (by decide))), u1]
          have HS : Hid (onesU s[j].toNat (k + 1) = onesU s[j].toNat k + (s[j].toNat.testBit (k + 1)).toNat) := rfl
          have ol := onesU_le s[j].toNat k
          have bl : (s[j].toNat.testBit (k + 1)).toNat ≤ 1 := by cases s[j].toNat.testBit (k + 1) <;> decide
          generalize (s[j].toNat.testBit (k + 1)).toNat = bb at *
          generalize onesU s[j].toNat k = oo at *
          have o1 : (oo : Int) ≤ 7 := by omega
          have o2 : (bb : Int) ≤ 1 := by omega
          clear hown HB HO ol bl
          go_wp2
          exact ⟨⟨k + 1, hk2, by congr 1, by rw [HS.out]; simp, trivial⟩, by simp only [intOf]; omega⟩
        · obtain rfl : k = 7 := by omega
          have ol := onesU_le s[j].toNat 7
          have hv : (ov : Int) = (s[j].toNat : Int) - (s[j].toNat : Int) % 2 + (1 - (onesU s[j].toNat 7 : Int) % 2) := by rw [HO.out]; omega
          have HV : Hid ((ov : Int) = (s[j].toNat : Int) - (s[j].toNat : Int) % 2 + (1 - (onesU s[j].toNat 7 : Int) % 2)) := hv
          clear hv HO
          generalize onesU s[j].toNat 7 = oo at *
          obtain ⟨y, hy⟩ : ∃ y : Nat, y = s[j].toNat % 2 := ⟨_, rfl⟩
          obtain ⟨z, hz⟩ : ∃ z : Nat, z = s[j].toNat - y := ⟨_, rfl⟩
          obtain ⟨p, hp⟩ : ∃ p : Nat, p = oo % 2 := ⟨_, rfl⟩
          obtain ⟨q, hq⟩ : ∃ q : Nat, q = 1 - p := ⟨_, rfl⟩
          have hvv := HV.out
          have e1 : (s[j].toNat : Int).tmod 2 = (y : Int) := by rw [Int.tmod_eq_emod_of_nonneg x0]; omega
          have e2 : (s[j].toNat : Int) - (y : Int) = (z : Int) := by omega
          have e3 : (oo : Int).tmod 2 = (p : Int) := by rw [Int.tmod_eq_emod_of_nonneg (by omega)]; omega
          have e4 : (1 : Int) - (p : Int) = (q : Int) := by omega
          have e5 : (z : Int) + (q : Int) = (ov : Int) := by omega
          have b1 : (y : Int) ≤ 1 := by omega
          have b2 : (z : Int) ≤ 255 := by omega
          have b3 : (p : Int) ≤ 1 := by omega
          have b4 : (q : Int) ≤ 1 := by omega
          have b5 : (ov : Int) ≤ 255 := by omega
          have HW : Hid (IntKind.u8.wrap (IntKind.u8.wrap (z : Int) + IntKind.u8.wrap (IntKind.i64.wrap (q : Int))) = (ov : Int)) :=
            (by rw [wrap8 z (by omega), wrap64n q (by omega), wrap8 q (by omega), show (z : Int) + (q : Int) = ((ov : Nat) : Int) by omega, wrap8 ov (by omega)] : IntKind.u8.wrap (IntKind.u8.wrap (z : Int) + IntKind.u8.wrap (IntKind.i64.wrap (q : Int))) = (ov : Int))
          clear ol hvv HV hy hz hp hq
          go_wp2_with fail
          go_region_held3 (fun _ => True) (trivial)
            ((refine step_append_lies _ (by rfl) _ _ _ (by rfl) w.heap.size 5 i0 _ 1 1 Try.underlying57 hi hz0 hz1 hz2 rfl (by omega) u3 j _ (by rfl) ((hown.alloc _).drew) ⟨wr.heap.size, 0, none⟩ 1 1 _ (by rfl) (by rfl) (World.news_of_block (heap_alloc_new wr _)) (by simp [Value.oneCell']) (by omega) (by unfold maxLen; omega) (by omega) (by simp; omega) (wr.heap.size + 1) (by simp) ?_; intro gg cap w1 hown1 hgrow hat hlt1))
          all_goals
            go_wp2
            exact ⟨⟨j + 1, hlt, by congr 1, owns_len hown1 rfl (by omega) (by rw [HW.out]; exact HB.out.symm), below_app hbw hbs hown hgrow⟩, by simp only [intOf]; omega⟩
    · obtain rfl : j = s.size := by omega
      rw [List.take_of_length_le (by rw [oddL_len]; simp)] at hown
      have hcv := run_str (P := Try.prog) (src := 57) (dst := 9) Try.underlying57 Try.underlying5 Try.underlying9 hown
      have q1 : ¬ (s.size : Int) < (s.size : Int) := by omega
      go_wp2
      go_ret
      exact ⟨rfl, hbw⟩
end Go.Proofs.Ytlnnhhnnkdfddaa.Or
