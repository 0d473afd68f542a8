/- The map's iterator, where the body may know what numbers come. -/
import Derived.RangeFuncNested
import Derived.RangeFuncBound
import Derived.RangeFuncCalls
import Derived.RangeFuncLeaves
import Derived.Shelf.Abstract
import Derived.Shelf.RegionOpen
import Derived.WalkKit
import Derived.OwnWalkIn
import Derived.TacticsInMore
import Derived.LoopNIn
import Derived.LoopIn
import Derived.Test.YtkleoklcaalogaaBn
import Derived.Test.YtkleoklcaalogaaNp
import Derived.Test.YtkleoklcaalogaaShelf
import Derived.Test.YtkleoklcaalogaaNi
import Derived.Test.YtkleoklcaalogaaSt
import Derived.Test.YtkleoklcaalogaaOf
namespace Go.Proofs.Ytkleoklcaalogaa.Nk
set_option linter.unusedVariables false
open Go.RowKit Go.Shelf Pla Bm Bn Ni
attribute [local go_sem] Oper.semAt_some
abbrev I128 := { x : Int // 1 ≤ x ∧ x ≤ 128 }
def JL (J : List I128 → World → Prop) (l : List Int) (wr : World) : Prop := ∃ l' : List I128, l'.map (·.1) = l ∧ J l' wr
set_option maxRecDepth 100000 in
set_option maxHeartbeats 1600000 in
theorem goes_sub (F S : Nat) (hF : F < 18446744073709551616) (hS : S < 18446744073709551616) (n : Nat) (hn : 1 ≤ n) (b n₀ : Nat) (w : World) (hb : w.heap[b]? = some (.cells #[.int .u64 (F : Int), .int .u64 (S : Int)] 24)) :
    SeqStopsK Fence.wide n Try.prog 25 #[.pointer (some ⟨b, 0, Option.none⟩)] (fun x : I128 => #[Value.int .i64 x.1]) (Below n₀) (fun xs => xs.map (·.1) = Np.L F S 128) (fun pre => pre.map (·.1) <+: Np.L F S 128) 128 w := fun l J Jx W hW hJ hJx hY h0 => by
  obtain ⟨c0, c1, -, -⟩ := held2 hW hb
  have ix0 := run_half0
  have ix1 := run_half1
  refine callsIn_of_wp Try.func25 rfl trivial ?_ rfl
  simp only [Try.ntmps25, List.size_toArray, List.length_cons, List.length_nil, Nat.reduceAdd, Nat.reduceSub, Array.replicate_succ, Array.replicate_zero, List.push_toArray, List.append_toArray, List.nil_append, List.cons_append]
  gi_wp2
  gi_loopw [11] (fun vi wr => ∃ (i : Nat), i ≤ 2 ∧ vi = .int .i64 (i : Int) ∧ JL J (Np.L F S (64 * i)) wr) (fun vi _ => 3 - (intOf vi).toNat)
  case atStart => exact ⟨0, by omega, rfl, [], rfl, h0⟩
  case round =>
    obtain ⟨i, hi, rfl, hJs⟩ := hrel
    by_cases h2 : i < 2
    · rcases (by omega : i = 0 ∨ i = 1) with rfl | rfl
      · rw [show ((0 : Nat) : Int) = 0 from rfl]
        gi_wp2
        gi_loopw [4] (fun vr wr => ∃ (p r : Nat), p ≤ 64 ∧ r = F % 2 ^ (64 - p) ∧ vr = .int .u64 (r : Int) ∧ JL J (Np.L F S (64 * 0 + p)) wr) (fun vr _ => (intOf vr).toNat)
        case atStart => exact ⟨0, F, by omega, by simp only [Nat.sub_zero]; exact (Nat.mod_eq_of_lt hF).symm, rfl, hJs⟩
        case round =>
          obtain ⟨p, r, hp, hr, rfl, hJp⟩ := hrel
          by_cases h0 : r = 0
          · subst h0
            have e := Np.ended F S 0 p (by omega) hp hr.symm
            rw [e] at hJp
            clear hr hJs
            gi_wp2
            exact ⟨⟨1, by omega, rfl, hJp⟩, by simp only [intOf]; omega⟩
          · obtain ⟨a1, a2, a3, a4, a5, a6⟩ := Np.round F S 0 p r (by omega) hp hr h0
            have hlen : (Np.L F S (64 * 0 + p)).length < 128 := by have := Np.L_len F S (64 * 0 + p); have := Np.L_len F S (64 * 0 + (64 - Lib.bitLen r + 1)); rw [a4] at this; simp at this; omega
            have hrF : r ≤ F := by rw [hr]; exact Nat.mod_le _ _
            have r64 : r < 18446744073709551616 := by omega
            have LZ := fun y => Try.bits_LeadingZeros64 (r : Int) y (by omega) (by omega)
            rw [Int.toNat_natCast] at LZ
            obtain ⟨a, ha⟩ : ∃ a, a = 64 - Lib.bitLen r := ⟨_, rfl⟩
            rw [show 64 - (Lib.bitLen r : Int) = (a : Int) by omega] at LZ
            obtain ⟨P, hP⟩ : ∃ P : Nat, P = 2 ^ (Lib.bitLen r - 1) := ⟨_, rfl⟩
            have hP64 : P < 18446744073709551616 := by rw [hP]; exact Nat.lt_of_lt_of_le (Nat.pow_lt_pow_right (by decide) (show Lib.bitLen r - 1 < 64 by omega)) (by decide)
            have es : (9223372036854775808 : Int) / 2 ^ a = (P : Int) := by rw [ha, sh_hi _ a2 a3, hP]
            have en := u64_andNot_nat r P r64 hP64
            rw [show r &&& (18446744073709551615 - P) = less r P from rfl] at en
            have q0 : (0 : Int) ≤ (a : Int) := by omega
            have q1 : (a : Int) ≤ 63 := by omega
            have c : ((r : Int) != 0) = true := by simp; omega
            have HX : Hid (p ≤ a ∧ Np.L F S (64 * 0 + (a + 1)) = Np.L F S (64 * 0 + p) ++ [(a : Int) + 1] ∧ less r P = F % 2 ^ (64 - (a + 1)) ∧ less r P < r ∧ a + 1 ≤ 64) := by
              rw [← ha] at a1 a4 a5
              rw [← hP] at a5 a6
              exact ⟨a1, a4.trans (by rw [show (((64 * 0 + a : Nat) : Int) + 1) = (a : Int) + 1 by omega]), a5, a6, by omega⟩
            obtain ⟨l', hl', hJ'⟩ := hJp
            have HL : Hid (l'.map (·.1) = Np.L F S (64 * 0 + p)) := hl'
            have hxb : 1 ≤ (a : Int) + 1 ∧ (a : Int) + 1 ≤ 128 := by omega
            obtain ⟨fn, tmps, assign, body, hy, hR⟩ := hY l' ⟨(a : Int) + 1, hxb⟩ wr hJ' (by rw [← hl'] at hlen; simpa using hlen)
            dsimp only at hy
            clear hl' hlen
            clear h0 hrF a1 a2 a3 a4 a5 a6 hP ha hr hp
            gi_wp2_with (refine ⟨trivial, ?_⟩; gi_at_call 26; refine (callsIn_wide.2 (LZ _)).mono ?_; rintro e y ⟨rfl, rfl⟩)
            refine hR.mono ?_
            rintro e W3 (⟨rfl, hJ3, hk3⟩ | ⟨rfl, hJx3⟩)
            · gi_wp2
              obtain ⟨h1, h2, h3, h4, h5⟩ := HX.out
              exact ⟨⟨a + 1, less r P, h5, h3, rfl, by rw [h2, ← HL.out]; exact ⟨_, by simp, hJ3⟩⟩, by simp only [intOf]; omega⟩
            · gi_wp2
              obtain ⟨h1, h2, h3, h4, h5⟩ := HX.out
              refine bodyPost_ret (results_none rfl _ _ _) rfl ?_
              exact ⟨⟨_, rfl⟩, .inr ⟨_, by rw [List.map_append, HL.out]; exact (show _ from h2) ▸ L_pre F S _ _ (by omega), hJx3⟩⟩
      · rw [show ((1 : Nat) : Int) = 1 from rfl]
        gi_wp2
        gi_loopw [4] (fun vr wr => ∃ (p r : Nat), p ≤ 64 ∧ r = S % 2 ^ (64 - p) ∧ vr = .int .u64 (r : Int) ∧ JL J (Np.L F S (64 * 1 + p)) wr) (fun vr _ => (intOf vr).toNat)
        case atStart => exact ⟨0, S, by omega, by simp only [Nat.sub_zero]; exact (Nat.mod_eq_of_lt hS).symm, rfl, hJs⟩
        case round =>
          obtain ⟨p, r, hp, hr, rfl, hJp⟩ := hrel
          by_cases h0 : r = 0
          · subst h0
            have e := Np.ended F S 1 p (by omega) hp hr.symm
            rw [e] at hJp
            clear hr hJs
            gi_wp2
            exact ⟨⟨2, by omega, rfl, hJp⟩, by simp only [intOf]; omega⟩
          · obtain ⟨a1, a2, a3, a4, a5, a6⟩ := Np.round F S 1 p r (by omega) hp hr h0
            have hlen : (Np.L F S (64 * 1 + p)).length < 128 := by have := Np.L_len F S (64 * 1 + p); have := Np.L_len F S (64 * 1 + (64 - Lib.bitLen r + 1)); rw [a4] at this; simp at this; omega
            have hrF : r ≤ S := by rw [hr]; exact Nat.mod_le _ _
            have r64 : r < 18446744073709551616 := by omega
            have LZ := fun y => Try.bits_LeadingZeros64 (r : Int) y (by omega) (by omega)
            rw [Int.toNat_natCast] at LZ
            obtain ⟨a, ha⟩ : ∃ a, a = 64 - Lib.bitLen r := ⟨_, rfl⟩
            rw [show 64 - (Lib.bitLen r : Int) = (a : Int) by omega] at LZ
            obtain ⟨P, hP⟩ : ∃ P : Nat, P = 2 ^ (Lib.bitLen r - 1) := ⟨_, rfl⟩
            have hP64 : P < 18446744073709551616 := by rw [hP]; exact Nat.lt_of_lt_of_le (Nat.pow_lt_pow_right (by decide) (show Lib.bitLen r - 1 < 64 by omega)) (by decide)
            have es : (9223372036854775808 : Int) / 2 ^ a = (P : Int) := by rw [ha, sh_hi _ a2 a3, hP]
            have en := u64_andNot_nat r P r64 hP64
            rw [show r &&& (18446744073709551615 - P) = less r P from rfl] at en
            have q0 : (0 : Int) ≤ (a : Int) := by omega
            have q1 : (a : Int) ≤ 63 := by omega
            have c : ((r : Int) != 0) = true := by simp; omega
            have HX : Hid (p ≤ a ∧ Np.L F S (64 * 1 + (a + 1)) = Np.L F S (64 * 1 + p) ++ [64 + (a : Int) + 1] ∧ less r P = S % 2 ^ (64 - (a + 1)) ∧ less r P < r ∧ a + 1 ≤ 64) := by
              rw [← ha] at a1 a4 a5
              rw [← hP] at a5 a6
              exact ⟨a1, a4.trans (by rw [show (((64 * 1 + a : Nat) : Int) + 1) = 64 + (a : Int) + 1 by omega]), a5, a6, by omega⟩
            obtain ⟨l', hl', hJ'⟩ := hJp
            have HL : Hid (l'.map (·.1) = Np.L F S (64 * 1 + p)) := hl'
            have hxb : 1 ≤ 64 + (a : Int) + 1 ∧ 64 + (a : Int) + 1 ≤ 128 := by omega
            obtain ⟨fn, tmps, assign, body, hy, hR⟩ := hY l' ⟨64 + (a : Int) + 1, hxb⟩ wr hJ' (by rw [← hl'] at hlen; simpa using hlen)
            dsimp only at hy
            clear hl' hlen
            clear h0 hrF a1 a2 a3 a4 a5 a6 hP ha hr hp
            gi_wp2_with (refine ⟨trivial, ?_⟩; gi_at_call 26; refine (callsIn_wide.2 (LZ _)).mono ?_; rintro e y ⟨rfl, rfl⟩)
            refine hR.mono ?_
            rintro e W3 (⟨rfl, hJ3, hk3⟩ | ⟨rfl, hJx3⟩)
            · gi_wp2
              obtain ⟨h1, h2, h3, h4, h5⟩ := HX.out
              exact ⟨⟨a + 1, less r P, h5, h3, rfl, by rw [h2, ← HL.out]; exact ⟨_, by simp, hJ3⟩⟩, by simp only [intOf]; omega⟩
            · gi_wp2
              obtain ⟨h1, h2, h3, h4, h5⟩ := HX.out
              refine bodyPost_ret (results_none rfl _ _ _) rfl ?_
              exact ⟨⟨_, rfl⟩, .inr ⟨_, by rw [List.map_append, HL.out]; exact (show _ from h2) ▸ L_pre F S _ _ (by omega), hJx3⟩⟩
    · obtain rfl : i = 2 := by omega
      gi_wp2
      go_end0
      obtain ⟨l', hl', hJ'⟩ := hJs
      exact ⟨⟨_, rfl⟩, .inl ⟨l', hl', hJ'⟩⟩
theorem of_nil (w : World) : Calls Try.prog 17 #[.slice Option.none 0 0] w fun e w' => e = .returned (.tuple #[.agg #[.int .u64 0, .int .u64 0], .int .i64 0]) ∧ Below w.heap.size w w' := by
  go_enter Try.func17, Try.ntmps17
  go_wp2_with fail
  go_loopw [9] (fun ii wr => ii = .int .i64 0 ∧ Hid (wr.heap[w.heap.size]? = some (.cells #[.int .u64 0, .int .u64 0] 24 (0, 0))) ∧ Hid (wr.heap[w.heap.size + 1]? = some (.cells #[.int .u64 0, .int .u64 0] 24 (0, 0))) ∧ Below w.heap.size w wr) (fun _ _ => 1)
  case atStart => exact ⟨rfl, h2_0 w _ _, h2_1 w _ _, below_two w _ _⟩
  case round =>
    obtain ⟨rfl, G0, G1, hbw⟩ := hrel
    obtain ⟨c0, c1, f0, f1⟩ := held2 (Below.refl _ wr) G0.out
    obtain ⟨d0, d1, g0, g1⟩ := held2 (Below.refl _ wr) G1.out
    go_wp2_with fail
    exact bodyPost_ret (v := .tuple #[.agg #[.int .u64 0, .int .u64 0], .int .i64 0]) (by simp [results, Try.results17, go_sem, c0, c1]) rfl ⟨rfl, (hbw.setCell (Nat.le_refl _) _).setCell (Nat.le_refl _) _⟩
def lenOf (enc : Int) (sec : Bool) : Int := (if sec then 2 else 1) * (if enc = 5 then 8 else 16)
theorem length_any (enc : Int) (sec : Bool) (w : World) : Calls Try.prog 21 #[.int .i64 enc, .bool sec] w fun e w' => e = .returned (.int .i64 (lenOf enc sec)) ∧ w' = w := by
  by_cases h5 : enc = 5
  · subst h5
    cases sec
    all_goals
      go_enter Try.func21, Try.ntmps21
      go_wp2
      go_ret
      exact ⟨rfl, rfl⟩
  · have c : (enc == 5) = false := by simp [h5]
    cases sec
    all_goals
      go_enter Try.func21, Try.ntmps21
      go_wp2
      go_ret
      exact ⟨by simp [lenOf, h5], rfl⟩
end Go.Proofs.Ytkleoklcaalogaa.Nk
