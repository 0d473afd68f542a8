/- OnesCount64, Len. -/
import Derived.Test.YtkleoklcaalogaaPop
import Derived.Test.YtkleoklcaalogaaBn
import Derived.Deep.QuietTactic

namespace Go.Proofs.Ytkleoklcaalogaa.On
set_option linter.unusedVariables false
open Go.RowKit Pla Bm Bn Pop
theorem m0 : M 85 8 = 6148914691236517205 := by decide
theorem m1 : M 51 8 = 3689348814741910323 := by decide
theorem m2 : M 15 8 = 1085102592571150095 := by decide
theorem s12_lt (x : Nat) : s1 8 x < 18446744073709551616 := by
  have a : x / 2 &&& M 85 8 ≤ M 85 8 := Nat.and_le_right
  have b : x &&& M 85 8 ≤ M 85 8 := Nat.and_le_right
  rw [m0] at *
  rw [s1, m0]; omega
theorem s2_lt (x : Nat) : s2 8 x ≤ 7378697629483820646 := by
  have a : x / 4 &&& M 51 8 ≤ M 51 8 := Nat.and_le_right
  have b : x &&& M 51 8 ≤ M 51 8 := Nat.and_le_right
  rw [m1] at *
  rw [s2, m1]; omega
theorem and127 (c : Nat) (h : c < 9223372036854775808) : bits .and .i64 (c : Int) 127 = ((c % 128 : Nat) : Int) := by
  have e : c &&& 127 = c % 128 := Nat.and_two_pow_sub_one_eq_mod c 7
  rw [← e]
  show IntKind.i64.wrap ((BitVec.ofInt 64 (c : Int) &&& BitVec.ofInt 64 ((127 : Nat) : Int)).toNat : Int) = _
  rw [BitVec.toNat_and, ofInt_u64 c (by omega), ofInt_u64 127 (by decide), IntKind.wrap_i64]
  have : c &&& 127 ≤ 127 := Nat.and_le_right
  omega
set_option maxRecDepth 100000 in
set_option maxHeartbeats 1600000 in
theorem ones_any (x : Nat) (hx : x < 18446744073709551616) (w : World) :
    Calls Try.prog 29 #[.int .u64 (x : Int)] w fun e w' => e = .returned (.int .i64 (popN 64 x : Int)) ∧ w' = w := by
  obtain ⟨a1, ha1⟩ : ∃ a, x / 2 &&& 6148914691236517205 = a := ⟨_, rfl⟩
  obtain ⟨b1, hb1⟩ : ∃ a, x &&& 6148914691236517205 = a := ⟨_, rfl⟩
  have hs1 : s1 8 x = a1 + b1 := by rw [s1, m0, ha1, hb1]
  have l1 := s12_lt x
  rw [hs1] at l1
  obtain ⟨a2, ha2⟩ : ∃ a, (a1 + b1) / 4 &&& 3689348814741910323 = a := ⟨_, rfl⟩
  obtain ⟨b2, hb2⟩ : ∃ a, (a1 + b1) &&& 3689348814741910323 = a := ⟨_, rfl⟩
  have hs2 : s2 8 (a1 + b1) = a2 + b2 := by rw [s2, m1, ha2, hb2]
  have l2 := s2_lt (a1 + b1)
  rw [hs2] at l2
  obtain ⟨p, hp⟩ : ∃ a, (a2 + b2) / 16 + (a2 + b2) &&& 1085102592571150095 = a := ⟨_, rfl⟩
  have hs3 : byts 8 x = p := by rw [← s_all, hs1, hs2, s3, m2, hp]
  have hcnt := count x (p + p / 256) (p + p / 256 + (p + p / 256) / 65536) (p + p / 256 + (p + p / 256) / 65536 + (p + p / 256 + (p + p / 256) / 65536) / 4294967296) (by rw [hs3]) rfl rfl
  have pl : p ≤ 1085102592571150095 := by rw [← hp]; exact Nat.and_le_right
  have e1 : bits .and .u64 ((x : Int) / 2) 6148914691236517205 = (a1 : Int) := by
    rw [← ha1]; exact u64_and_nat (x / 2) 6148914691236517205 (by omega) (by decide)
  have e2 : bits .and .u64 (x : Int) 6148914691236517205 = (b1 : Int) := by
    rw [← hb1]; exact u64_and_nat x 6148914691236517205 hx (by decide)
  have e3 : bits .and .u64 (((a1 : Int) + (b1 : Int)) / 4) 3689348814741910323 = (a2 : Int) := by
    rw [← ha2]; exact u64_and_nat ((a1 + b1) / 4) 3689348814741910323 (by omega) (by decide)
  have e4 : bits .and .u64 ((a1 : Int) + (b1 : Int)) 3689348814741910323 = (b2 : Int) := by
    rw [← hb2]; exact u64_and_nat (a1 + b1) 3689348814741910323 (by omega) (by decide)
  have e5 : bits .and .u64 (((a2 : Int) + (b2 : Int)) / 16 + ((a2 : Int) + (b2 : Int))) 1085102592571150095 = (p : Int) := by
    rw [← hp]; exact u64_and_nat ((a2 + b2) / 16 + (a2 + b2)) 1085102592571150095 (by omega) (by decide)
  obtain ⟨q, hq⟩ : ∃ q, p + p / 256 = q := ⟨_, rfl⟩
  rw [hq] at hcnt
  obtain ⟨r, hr⟩ : ∃ r, q + q / 65536 = r := ⟨_, rfl⟩
  rw [hr] at hcnt
  have e6 : (p : Int) + (p : Int) / 256 = (q : Int) := by omega
  have e7 : (q : Int) + (q : Int) / 65536 = (r : Int) := by omega
  have e8 : bits .and .i64 ((r : Int) + (r : Int) / 4294967296) 127 = (popN 64 x : Int) := by
    have h := and127 (r + r / 4294967296) (by omega)
    rw [hcnt.2.2.2] at h
    exact h
  have i1 : (a1 : Int) + (b1 : Int) ≤ 18446744073709551615 := by omega
  have i2 : (a2 : Int) + (b2 : Int) ≤ 7378697629483820646 := by omega
  have i3 : (p : Int) ≤ 1085102592571150095 := by omega
  have i4 : (q : Int) ≤ 1100000000000000000 := by omega
  have i5 : (r : Int) ≤ 1100100000000000000 := by omega
  have i6 : (x : Int) ≤ 18446744073709551615 := by omega
  generalize popN 64 x = n at *
  clear ha1 hb1 hs1 l1 ha2 hb2 hs2 l2 hp hs3 hcnt pl hq hr hx
  go_enter Try.func29, Try.ntmps29
  go_wp2
  go_ret
  exact ⟨rfl, rfl⟩
def lenN (F S : Nat) : Nat := popN 64 (fld F) + popN 64 (fld S)
set_option maxRecDepth 100000 in
set_option maxHeartbeats 1600000 in
theorem len_any (F S : Nat) (hF : F < 18446744073709551616) (hS : S < 18446744073709551616) (w : World) :
    Calls Try.prog 15 #[.agg #[.int .u64 (F : Int), .int .u64 (S : Int)]] w fun e w' => e = .returned (.int .i64 (lenN F S : Int)) ∧ Below w.heap.size w w' := by
  have p1 := fun w => fields_any F S hF hS w
  have p2 := fun w => ones_any (fld F) (fld_lt hF) w
  have p3 := fun w => ones_any (fld S) (fld_lt hS) w
  have l1 := popN_le 64 (fld F)
  have l2 := popN_le 64 (fld S)
  unfold lenN
  generalize popN 64 (fld F) = n at *
  generalize popN 64 (fld S) = m at *
  generalize fld F = A at *
  generalize fld S = B at *
  have i1 : (n : Int) ≤ 64 := by omega
  have i2 : (m : Int) ≤ 64 := by omega
  clear l1 l2 hF hS
  go_enter Try.func15, Try.ntmps15
  go_wp2_with (go_at_call 24; refine (p1 _).mono ?_; rintro e x ⟨rfl, hb⟩)
  go_quiet (first
    | (go_at_call_of 29 (Value.int IntKind.u64 (A : Int)); exact Calls.quiet_of_same (p2 _))
    | (go_at_call_of 29 (Value.int IntKind.u64 (B : Int)); exact Calls.quiet_of_same (p3 _)))
  go_wp2
  go_ret
  exact ⟨by simp; rw [IntKind.wrap_i64]; omega, keepB (keepB (below_one w _) hb) (below_drewN (below_one x _) _)⟩
end Go.Proofs.Ytkleoklcaalogaa.On
