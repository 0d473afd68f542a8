/- Numbers: the map's iterator. -/
import Derived.RangeFuncNested
import Derived.RangeFuncBound
import Derived.RangeFuncCalls
import Derived.RangeFuncLeaves
import Derived.Shelf.Abstract
import Derived.Shelf.RegionOpen
import Derived.WalkKit
import Derived.OwnWalkIn
import Derived.TacticsInMore
import Derived.LoopNIn
import Derived.LoopIn
import Derived.Test.YtkleoklcaalogaaBn
import Derived.Test.YtkleoklcaalogaaNp
import Derived.Test.YtkleoklcaalogaaShelf
namespace Go.Proofs.Ytkleoklcaalogaa.Ni
set_option linter.unusedVariables false
open Go.RowKit Go.Shelf Pla Bm Bn
attribute [local go_sem] Oper.semAt_some
abbrev fv (b : Nat) : Value := .func (.func 25) #[] #[.pointer (some ⟨b, 0, Option.none⟩)]
set_option maxRecDepth 100000 in
set_option maxHeartbeats 1600000 in
theorem numbers_any (F S : Nat) (hF : F < 18446744073709551616) (hS : S < 18446744073709551616) (w : World) :
    Calls Try.prog 6 #[.agg #[.int .u64 (F : Int), .int .u64 (S : Int)]] w fun e w' => ∃ b, e = .returned (fv b) ∧ w'.heap[b]? = some (.cells #[.int .u64 (fld F : Int), .int .u64 (fld S : Int)] 24) ∧ Below w.heap.size w w' := by
  have p1 := fun w => fields_any F S hF hS w
  generalize fld F = A at *
  generalize fld S = B at *
  clear hF hS
  go_enter Try.func6, Try.ntmps6
  go_wp2_with (go_at_call 24; refine (p1 _).mono ?_; rintro e x ⟨rfl, hb⟩)
  go_ret
  exact ⟨x.heap.size, rfl, h1_0 x _, keepB (keepB (below_one w _) hb) (below_one x _)⟩
theorem sh_hi (n : Nat) (h1 : 1 ≤ n) (h : n ≤ 64) : (9223372036854775808 : Int) / 2 ^ (64 - n) = ((2 ^ (n - 1) : Nat) : Int) := by
  rw [shr_hi (64 - n) (by omega), show 63 - (64 - n) = n - 1 by omega]
theorem L_pre (F S k : Nat) : ∀ m, k ≤ m → Np.L F S k <+: Np.L F S m := fun m h => by
  induction m with
  | zero => rw [show k = 0 by omega]; exact List.prefix_rfl
  | succ m ih =>
    by_cases e : k = m + 1
    · rw [e]; exact List.prefix_rfl
    · refine (ih (by omega)).trans ?_
      cases hb : Np.bitAt F S m
      · rw [Np.L_miss hb]; exact List.prefix_rfl
      · rw [Np.L_hit hb]; exact List.prefix_append _ _
theorem run_half0 (a b : Value) (w : World) : (Instr.index 52 (.agg #[a, b]) (.int .i64 0)).run Try.prog w = .ok a w := by
  kernel_rfl
theorem run_half1 (a b : Value) (w : World) : (Instr.index 52 (.agg #[a, b]) (.int .i64 1)).run Try.prog w = .ok b w := by
  kernel_rfl
set_option maxRecDepth 100000 in
set_option maxHeartbeats 1600000 in
theorem goes_over (F S : Nat) (hF : F < 18446744073709551616) (hS : S < 18446744073709551616) (n : Nat) (hn : 1 ≤ n) (b n₀ : Nat) (w : World) (hb : w.heap[b]? = some (.cells #[.int .u64 (F : Int), .int .u64 (S : Int)] 24)) :
    SeqStopsK Fence.wide n Try.prog 25 #[.pointer (some ⟨b, 0, Option.none⟩)] (fun x : Int => #[Value.int .i64 x]) (Below n₀) (fun xs => xs = Np.L F S 128) (fun pre => pre <+: Np.L F S 128) 128 w := fun l J Jx W hW hJ hJx hY h0 => by
  obtain ⟨c0, c1, -, -⟩ := held2 hW hb
  have ix0 := run_half0
  have ix1 := run_half1
  refine callsIn_of_wp Try.func25 rfl trivial ?_ rfl
  simp only [Try.ntmps25, List.size_toArray, List.length_cons, List.length_nil, Nat.reduceAdd, Nat.reduceSub, Array.replicate_succ, Array.replicate_zero, List.push_toArray, List.append_toArray, List.nil_append, List.cons_append]
  gi_wp2
  gi_loopw [11] (fun vi wr => ∃ (i : Nat), i ≤ 2 ∧ vi = .int .i64 (i : Int) ∧ J (Np.L F S (64 * i)) wr) (fun vi _ => 3 - (intOf vi).toNat)
  case atStart => exact ⟨0, by omega, rfl, h0⟩
  case round =>
    obtain ⟨i, hi, rfl, hJs⟩ := hrel
    by_cases h2 : i < 2
    · rcases (by omega : i = 0 ∨ i = 1) with rfl | rfl
      · rw [show ((0 : Nat) : Int) = 0 from rfl]
        gi_wp2
        gi_loopw [4] (fun vr wr => ∃ (p r : Nat), p ≤ 64 ∧ r = F % 2 ^ (64 - p) ∧ vr = .int .u64 (r : Int) ∧ J (Np.L F S (64 * 0 + p)) wr) (fun vr _ => (intOf vr).toNat)
        case atStart => exact ⟨0, F, by omega, by simp only [Nat.sub_zero]; exact (Nat.mod_eq_of_lt hF).symm, rfl, hJs⟩
        case round =>
          obtain ⟨p, r, hp, hr, rfl, hJp⟩ := hrel
          by_cases h0 : r = 0
          · subst h0
            have e := Np.ended F S 0 p (by omega) hp hr.symm
            rw [e] at hJp
            clear hr hJs
            gi_wp2
            exact ⟨⟨1, by omega, rfl, hJp⟩, by simp only [intOf]; omega⟩
          · obtain ⟨a1, a2, a3, a4, a5, a6⟩ := Np.round F S 0 p r (by omega) hp hr h0
            have hlen : (Np.L F S (64 * 0 + p)).length < 128 := by have := Np.L_len F S (64 * 0 + p); have := Np.L_len F S (64 * 0 + (64 - Lib.bitLen r + 1)); rw [a4] at this; simp at this; omega
            have hrF : r ≤ F := by rw [hr]; exact Nat.mod_le _ _
            have r64 : r < 18446744073709551616 := by omega
            have LZ := fun y => Try.bits_LeadingZeros64 (r : Int) y (by omega) (by omega)
            rw [Int.toNat_natCast] at LZ
            obtain ⟨a, ha⟩ : ∃ a, a = 64 - Lib.bitLen r := ⟨_, rfl⟩
            rw [show 64 - (Lib.bitLen r : Int) = (a : Int) by omega] at LZ
            obtain ⟨P, hP⟩ : ∃ P : Nat, P = 2 ^ (Lib.bitLen r - 1) := ⟨_, rfl⟩
            have hP64 : P < 18446744073709551616 := by rw [hP]; exact Nat.lt_of_lt_of_le (Nat.pow_lt_pow_right (by decide) (show Lib.bitLen r - 1 < 64 by omega)) (by decide)
            have es : (9223372036854775808 : Int) / 2 ^ a = (P : Int) := by rw [ha, sh_hi _ a2 a3, hP]
            have en := u64_andNot_nat r P r64 hP64
            rw [show r &&& (18446744073709551615 - P) = less r P from rfl] at en
            have q0 : (0 : Int) ≤ (a : Int) := by omega
            have q1 : (a : Int) ≤ 63 := by omega
            have c : ((r : Int) != 0) = true := by simp; omega
            have HX : Hid (p ≤ a ∧ Np.L F S (64 * 0 + (a + 1)) = Np.L F S (64 * 0 + p) ++ [(a : Int) + 1] ∧ less r P = F % 2 ^ (64 - (a + 1)) ∧ less r P < r ∧ a + 1 ≤ 64) := by
              rw [← ha] at a1 a4 a5
              rw [← hP] at a5 a6
              exact ⟨a1, a4.trans (by rw [show (((64 * 0 + a : Nat) : Int) + 1) = (a : Int) + 1 by omega]), a5, a6, by omega⟩
            obtain ⟨fn, tmps, assign, body, hy, hR⟩ := hY _ ((a : Int) + 1) wr hJp hlen
            clear h0 hrF a1 a2 a3 a4 a5 a6 hP ha hr hp
            gi_wp2_with (refine ⟨trivial, ?_⟩; gi_at_call 26; refine (callsIn_wide.2 (LZ _)).mono ?_; rintro e y ⟨rfl, rfl⟩)
            refine hR.mono ?_
            rintro e W3 (⟨rfl, hJ3, hk3⟩ | ⟨rfl, hJx3⟩)
            · gi_wp2
              obtain ⟨h1, h2, h3, h4, h5⟩ := HX.out
              exact ⟨⟨a + 1, less r P, h5, h3, rfl, by rw [h2]; exact hJ3⟩, by simp only [intOf]; omega⟩
            · gi_wp2
              obtain ⟨h1, h2, h3, h4, h5⟩ := HX.out
              refine bodyPost_ret (results_none rfl _ _ _) rfl ?_
              exact ⟨⟨_, rfl⟩, .inr ⟨_, by rw [← h2]; exact L_pre F S _ _ (by omega), hJx3⟩⟩
      · rw [show ((1 : Nat) : Int) = 1 from rfl]
        gi_wp2
        gi_loopw [4] (fun vr wr => ∃ (p r : Nat), p ≤ 64 ∧ r = S % 2 ^ (64 - p) ∧ vr = .int .u64 (r : Int) ∧ J (Np.L F S (64 * 1 + p)) wr) (fun vr _ => (intOf vr).toNat)
        case atStart => exact ⟨0, S, by omega, by simp only [Nat.sub_zero]; exact (Nat.mod_eq_of_lt hS).symm, rfl, hJs⟩
        case round =>
          obtain ⟨p, r, hp, hr, rfl, hJp⟩ := hrel
          by_cases h0 : r = 0
          · subst h0
            have e := Np.ended F S 1 p (by omega) hp hr.symm
            rw [e] at hJp
            clear hr hJs
            gi_wp2
            exact ⟨⟨2, by omega, rfl, hJp⟩, by simp only [intOf]; omega⟩
          · obtain ⟨a1, a2, a3, a4, a5, a6⟩ := Np.round F S 1 p r (by omega) hp hr h0
            have hlen : (Np.L F S (64 * 1 + p)).length < 128 := by have := Np.L_len F S (64 * 1 + p); have := Np.L_len F S (64 * 1 + (64 - Lib.bitLen r + 1)); rw [a4] at this; simp at this; omega
            have hrF : r ≤ S := by rw [hr]; exact Nat.mod_le _ _
            have r64 : r < 18446744073709551616 := by omega
            have LZ := fun y => Try.bits_LeadingZeros64 (r : Int) y (by omega) (by omega)
            rw [Int.toNat_natCast] at LZ
            obtain ⟨a, ha⟩ : ∃ a, a = 64 - Lib.bitLen r := ⟨_, rfl⟩
            rw [show 64 - (Lib.bitLen r : Int) = (a : Int) by omega] at LZ
            obtain ⟨P, hP⟩ : ∃ P : Nat, P = 2 ^ (Lib.bitLen r - 1) := ⟨_, rfl⟩
            have hP64 : P < 18446744073709551616 := by rw [hP]; exact Nat.lt_of_lt_of_le (Nat.pow_lt_pow_right (by decide) (show Lib.bitLen r - 1 < 64 by omega)) (by decide)
            have es : (9223372036854775808 : Int) / 2 ^ a = (P : Int) := by rw [ha, sh_hi _ a2 a3, hP]
            have en := u64_andNot_nat r P r64 hP64
            rw [show r &&& (18446744073709551615 - P) = less r P from rfl] at en
            have q0 : (0 : Int) ≤ (a : Int) := by omega
            have q1 : (a : Int) ≤ 63 := by omega
            have c : ((r : Int) != 0) = true := by simp; omega
            have HX : Hid (p ≤ a ∧ Np.L F S (64 * 1 + (a + 1)) = Np.L F S (64 * 1 + p) ++ [64 + (a : Int) + 1] ∧ less r P = S % 2 ^ (64 - (a + 1)) ∧ less r P < r ∧ a + 1 ≤ 64) := by
              rw [← ha] at a1 a4 a5
              rw [← hP] at a5 a6
              exact ⟨a1, a4.trans (by rw [show (((64 * 1 + a : Nat) : Int) + 1) = 64 + (a : Int) + 1 by omega]), a5, a6, by omega⟩
            obtain ⟨fn, tmps, assign, body, hy, hR⟩ := hY _ (64 + (a : Int) + 1) wr hJp hlen
            clear h0 hrF a1 a2 a3 a4 a5 a6 hP ha hr hp
            gi_wp2_with (refine ⟨trivial, ?_⟩; gi_at_call 26; refine (callsIn_wide.2 (LZ _)).mono ?_; rintro e y ⟨rfl, rfl⟩)
            refine hR.mono ?_
            rintro e W3 (⟨rfl, hJ3, hk3⟩ | ⟨rfl, hJx3⟩)
            · gi_wp2
              obtain ⟨h1, h2, h3, h4, h5⟩ := HX.out
              exact ⟨⟨a + 1, less r P, h5, h3, rfl, by rw [h2]; exact hJ3⟩, by simp only [intOf]; omega⟩
            · gi_wp2
              obtain ⟨h1, h2, h3, h4, h5⟩ := HX.out
              refine bodyPost_ret (results_none rfl _ _ _) rfl ?_
              exact ⟨⟨_, rfl⟩, .inr ⟨_, by rw [← h2]; exact L_pre F S _ _ (by omega), hJx3⟩⟩
    · obtain rfl : i = 2 := by omega
      gi_wp2
      go_end0
      exact ⟨⟨_, rfl⟩, .inl ⟨_, rfl, hJs⟩⟩
end Go.Proofs.Ytkleoklcaalogaa.Ni
