/- stableCmpFunc, SortStableFunc. -/
import Derived.Test.YtaacocliclibgaaSz
import Derived.Test.YtaacocliclibgaaSv
namespace Go.Proofs.Ytaacocliclibgaa.Ss
set_option linter.unusedVariables false
open Go.RowKit Sl Kb So Sc Si Sr St Sy Sz Sv
set_option maxRecDepth 100000 in
set_option maxHeartbeats 3200000 in
theorem stable_any {w : World} {g n nb rb : Nat} {key : Nat → Int} (E : Env w g n nb rb key) (hn : n ≤ 100) (hR : Row w g n id) :
    Calls Try.prog 30 #[.slice (some ⟨g, 0, none⟩) n n, .int .i64 (n : Int), .func (.func 26) #[] #[.pointer (some ⟨nb, 0, none⟩)]] w fun e w' => e = .returned (.tuple #[]) ∧ Only g w w' ∧ ∃ c, Row w' g n c ∧ Mix id c 0 n ∧ Srt key c 0 n ∧ ∀ k, k < n → c k < n := by
  have HE : Hid (Env w g n nb rb key) := E
  have HR : Hid (Row w g n id) := hR
  have HN : Hid (n ≤ 100) := hn
  have n1 : (n : Int) ≤ 100 := by omega
  clear E hR hn
  go_enter Try.func30, Try.ntmps30
  go_wp2_with fail
  go_loopw [7, 8] (fun va vb wr => ∃ a b : Nat, va = .int .i64 (a : Int) ∧ vb = .int .i64 (b : Int) ∧ Hid (b = a + 20 ∧ a % 20 = 0 ∧ a ≤ n) ∧ Hid (Only g w wr ∧ ∃ c, Row wr g n c ∧ Mix id c 0 n ∧ B key c 20 1 a n)) (fun va _ _ => n + 1 - (intOf va).toNat)
  case atStart => exact ⟨0, 20, rfl, rfl, ⟨rfl, rfl, Nat.zero_le _⟩, Only.refl _ _, id, HR.out, Mix.refl _ _ _, b_start key n⟩
  case round =>
    obtain ⟨a, b, rfl, rfl, HA, HI⟩ := hrel
    obtain ⟨a1, a2, a3⟩ := HA.out
    obtain ⟨ho, c, hc, hmx, hB⟩ := HI.out
    have hn := HN.out
    by_cases hlt : b ≤ n
    · have q : (b : Int) ≤ (n : Int) := by omega
      have pi := insertion_any (HE.out.keep ho) a b (by omega) (by omega) c hc (b_lt hB a3) (b_inc hB hlt)
      obtain ⟨b2, hb2⟩ : ∃ b2 : Nat, b2 = b + 20 := ⟨_, rfl⟩
      have eb : (b : Int) + 20 = (b2 : Int) := by omega
      have HX : Hid (Only g w wr ∧ Mix id c 0 n ∧ B key c 20 1 a n ∧ b = a + 20 ∧ a % 20 = 0 ∧ b ≤ n ∧ b2 = b + 20) := ⟨ho, hmx, hB, a1, a2, hlt, hb2⟩
      clear ho hc hmx hB HA HI a1 a2 a3 hlt hb2 hn
      go_wp2_with fail
      refine pi.mono ?_
      rintro e y ⟨rfl, ho1, c1, hr1, hm1, hs1⟩
      have HY : Hid (Only g wr y ∧ Row y g n c1 ∧ Mix c c1 a b ∧ Srt key c1 a b) := ⟨ho1, hr1, hm1, hs1⟩
      clear ho1 hr1 hm1 hs1 pi
      go_wp2_with fail
      obtain ⟨x1, x2, x3, x4, x5, x6, x7⟩ := HX.out
      obtain ⟨y1, y2, y3, y4⟩ := HY.out
      exact ⟨⟨b, b2, rfl, rfl, ⟨x7, by omega, x6⟩, x1.trans y1, c1, y2, x2.trans (y3.wide (Nat.zero_le _) x6), b_step (Or.inl ⟨rfl, rfl⟩) x3 x5 (by omega) (by omega) x6 (Or.inl x4) y3 y4⟩, by simp only [intOf]; omega⟩
    · have q : ¬ (b : Int) ≤ (n : Int) := by omega
      have pi := insertion_any (HE.out.keep ho) a n a3 (Nat.le_refl _) c hc (b_lt hB a3) (b_inc hB (Nat.le_refl _))
      have HX : Hid (Only g w wr ∧ Mix id c 0 n ∧ B key c 20 1 a n ∧ b = a + 20 ∧ a % 20 = 0 ∧ ¬ b ≤ n ∧ a ≤ n) := ⟨ho, hmx, hB, a1, a2, hlt, a3⟩
      clear ho hc hmx hB HA HI a1 a2 a3 hlt hn
      go_wp2_with fail
      refine pi.mono ?_
      rintro e y ⟨rfl, ho1, c1, hr1, hm1, hs1⟩
      have HY : Hid (Only g w y ∧ Row y g n c1 ∧ Mix id c1 0 n ∧ B key c1 20 1 n n) := by
        obtain ⟨x1, x2, x3, x4, x5, x6, x7⟩ := HX.out
        exact ⟨x1.trans ho1, hr1, x2.trans (hm1.wide (Nat.zero_le _) (Nat.le_refl _)), b_step (Or.inl ⟨rfl, rfl⟩) x3 x5 x7 (by omega) (Nat.le_refl _) (Or.inr rfl) hm1 hs1⟩
      clear ho1 hr1 hm1 hs1 pi HX q
      go_wp2_with fail
      go_loopw [6, 7, 8, 9] (fun vd va vb vm wr => ∃ d : Nat, vd = .int .i64 (d : Int) ∧ Hid (d = 20 ∨ d = 40 ∨ d = 80 ∨ d = 160) ∧ Hid (Only g w wr ∧ ∃ c d0, Row wr g n c ∧ Mix id c 0 n ∧ B key c d d0 n n)) (fun vd _ _ _ _ => 200 - (intOf vd).toNat)
      case atStart => exact ⟨20, rfl, Or.inl rfl, HY.out.1, c1, 1, HY.out.2.1, HY.out.2.2.1, HY.out.2.2.2⟩
      case round =>
        obtain ⟨d, rfl, Hd, HI⟩ := hrel
        obtain ⟨ho, c, d0, hc, hmx, hB⟩ := HI.out
        have hn := HN.out
        have hd := Hd.out
        by_cases hlt : d < n
        · have q : (d : Int) < (n : Int) := by omega
          have hd3 : d = 20 ∨ d = 40 ∨ d = 80 := by omega
          obtain ⟨D, hD⟩ : ∃ D : Nat, D = 2 * d := ⟨_, rfl⟩
          have eD : 2 * (d : Int) = (D : Int) := by omega
          have eD2 : (d : Int) * 2 = (D : Int) := by omega
          have d1 : (d : Int) ≤ 100 := by omega
          have D1 : (D : Int) ≤ 200 := by omega
          have HD : Hid (D = 2 * d ∧ (d = 20 ∨ d = 40 ∨ d = 80) ∧ (D = 40 ∧ d = 20 ∨ D = 80 ∧ d = 40 ∨ D = 160 ∧ d = 80)) := ⟨hD, hd3, by omega⟩
          have HB0 : Hid (Only g w wr ∧ Row wr g n c ∧ Mix id c 0 n ∧ B key c D d 0 n) := ⟨ho, hc, hmx, b_next hB D⟩
          clear ho hc hmx hB HI Hd hd hd3 hD hn hlt
          go_wp2_with fail
          rename World => wr0
          go_loopw [7, 8] (fun va vb wr => ∃ a b : Nat, va = .int .i64 (a : Int) ∧ vb = .int .i64 (b : Int) ∧ Hid (b = a + D ∧ a % D = 0 ∧ a ≤ n) ∧ Hid (Only g w wr ∧ ∃ c, Row wr g n c ∧ Mix id c 0 n ∧ B key c D d a n)) (fun va _ _ => n + 1 - (intOf va).toNat)
          case atStart => exact ⟨0, D, rfl, rfl, ⟨by omega, by simp, Nat.zero_le _⟩, HB0.out.1, c, HB0.out.2.1, HB0.out.2.2.1, HB0.out.2.2.2⟩
          case round =>
            obtain ⟨a, b, rfl, rfl, HA, HI⟩ := hrel
            obtain ⟨a1, a2, a3⟩ := HA.out
            obtain ⟨ho, c2, hc, hmx, hB⟩ := HI.out
            obtain ⟨k1, k2, k3⟩ := HD.out
            have hn := HN.out
            obtain ⟨A1, hA1⟩ : ∃ A1 : Nat, A1 = a + d := ⟨_, rfl⟩
            have eA : (a : Int) + (d : Int) = (A1 : Int) := by omega
            have b1 : (b : Int) ≤ 1000 := by omega
            have aa1 : (a : Int) ≤ 1000 := by omega
            by_cases hlt : b ≤ n
            · have q : (b : Int) ≤ (n : Int) := by omega
              obtain ⟨s1, s2, s3⟩ := b_parts k2 (by rw [← k1]; exact hB) (by rw [← k1]; exact a2) (e := b) (by omega) (by omega) hlt
              rw [← hA1] at s1 s2 s3
              have ps := sym_any (b - a) a A1 b (Nat.le_refl _) (by omega) (by omega) hlt c2 wr (HE.out.keep ho) hc (b_lt hB a3) s1 s2 s3
              obtain ⟨b2, hb2⟩ : ∃ b2 : Nat, b2 = b + D := ⟨_, rfl⟩
              have eb : (b : Int) + (D : Int) = (b2 : Int) := by omega
              have HX : Hid (Only g w wr ∧ Mix id c2 0 n ∧ B key c2 D d a n ∧ b = a + D ∧ a % D = 0 ∧ b ≤ n ∧ b2 = b + D) := ⟨ho, hmx, hB, a1, a2, hlt, hb2⟩
              clear ho hc hmx hB HA HI a1 a2 a3 hlt hb2 hn s1 s2 s3 k1 k2 k3 hA1
              go_wp2_with fail
              refine ps.mono ?_
              rintro e y ⟨rfl, ho1, c1, hr1, hm1, hs1⟩
              have HY : Hid (Only g wr y ∧ Row y g n c1 ∧ Mix c2 c1 a b ∧ Srt key c1 a b) := ⟨ho1, hr1, hm1, hs1⟩
              clear ho1 hr1 hm1 hs1 ps
              go_wp2_with fail
              obtain ⟨x1, x2, x3, x4, x5, x6, x7⟩ := HX.out
              obtain ⟨y1, y2, y3, y4⟩ := HY.out
              obtain ⟨k1, k2, k3⟩ := HD.out
              exact ⟨⟨b, b2, rfl, rfl, ⟨x7, by rw [x4, Nat.add_mod_right]; exact x5, x6⟩, x1.trans y1, c1, y2, x2.trans (y3.wide (Nat.zero_le _) x6), b_step (Or.inr k3) x3 x5 (by omega) (by omega) x6 (Or.inl x4) y3 y4⟩, by simp only [intOf]; omega⟩
            · have q : ¬ (b : Int) ≤ (n : Int) := by omega
              by_cases hlast : A1 < n
              · have q2 : (A1 : Int) < (n : Int) := by omega
                obtain ⟨s1, s2, s3⟩ := b_parts k2 (by rw [← k1]; exact hB) (by rw [← k1]; exact a2) (e := n) (by omega) (by omega) (Nat.le_refl _)
                rw [← hA1] at s1 s2 s3
                have ps := sym_any (n - a) a A1 n (Nat.le_refl _) (by omega) hlast (Nat.le_refl _) c2 wr (HE.out.keep ho) hc (b_lt hB a3) s1 s2 s3
                have HX : Hid (Only g w wr ∧ Mix id c2 0 n ∧ B key c2 D d a n ∧ b = a + D ∧ a % D = 0 ∧ ¬ b ≤ n ∧ a ≤ n) := ⟨ho, hmx, hB, a1, a2, hlt, a3⟩
                clear ho hc hmx hB HA HI a1 a2 a3 hlt hn s1 s2 s3 k1 k2 k3 hA1 hlast
                go_wp2_with fail
                refine ps.mono ?_
                rintro e y ⟨rfl, ho1, c1, hr1, hm1, hs1⟩
                have HY : Hid (Only g wr y ∧ Row y g n c1 ∧ Mix c2 c1 a n ∧ Srt key c1 a n) := ⟨ho1, hr1, hm1, hs1⟩
                clear ho1 hr1 hm1 hs1 ps
                go_wp2_with fail
                obtain ⟨x1, x2, x3, x4, x5, x6, x7⟩ := HX.out
                obtain ⟨y1, y2, y3, y4⟩ := HY.out
                obtain ⟨k1, k2, k3⟩ := HD.out
                exact ⟨⟨D, rfl, by show _ ∨ _; omega, x1.trans y1, c1, d, y2, x2.trans (y3.wide (Nat.zero_le _) (Nat.le_refl _)), b_step (Or.inr k3) x3 x5 x7 (by omega) (Nat.le_refl _) (Or.inr rfl) y3 y4⟩, by simp only [intOf]; omega⟩
              · have q2 : ¬ (A1 : Int) < (n : Int) := by omega
                have HX : Hid (Only g w wr ∧ Row wr g n c2 ∧ Mix id c2 0 n ∧ B key c2 D d n n) := by
                  refine ⟨ho, hc, hmx, ?_⟩
                  have := b_rest k2 (by rw [← k1]; exact hB) (by rw [← k1]; exact a2) a3 (by omega)
                  rwa [← k1] at this
                clear ho hc hmx hB HA HI a1 a2 a3 hlt hn k1 k2 k3 hA1 hlast
                go_wp2_with fail
                obtain ⟨x1, x2, x3, x4⟩ := HX.out
                obtain ⟨k1, k2, k3⟩ := HD.out
                exact ⟨⟨D, rfl, by show _ ∨ _; omega, x1, c2, d, x2, x3, x4⟩, by simp only [intOf]; omega⟩
        · have q : ¬ (d : Int) < (n : Int) := by omega
          have HX : Hid (Only g w wr ∧ ∃ c, Row wr g n c ∧ Mix id c 0 n ∧ Srt key c 0 n ∧ ∀ k, k < n → c k < n) := ⟨ho, c, hc, hmx, b_end hB (by omega)⟩
          clear ho hc hmx hB HI Hd hd hn hlt
          go_wp2_with fail
          go_end0
          exact ⟨rfl, HX.out⟩
end Go.Proofs.Ytaacocliclibgaa.Ss
