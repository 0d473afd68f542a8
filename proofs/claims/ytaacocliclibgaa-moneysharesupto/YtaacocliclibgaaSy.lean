/- symMerge, where one side is one place. -/
import Derived.Test.YtaacocliclibgaaSi
import Derived.Test.YtaacocliclibgaaSr
import Derived.Test.YtaacocliclibgaaSt
namespace Go.Proofs.Ytaacocliclibgaa.Sy
set_option linter.unusedVariables false
open Go.RowKit Sl Kb So Sc Si Sr St
set_option maxRecDepth 100000 in
set_option maxHeartbeats 1600000 in
theorem sym_one {w : World} {g n nb rb : Nat} {key : Nat → Int} (E : Env w g n nb rb key) (a m b : Nat) (hm : m = a + 1) (hmb : m < b) (hb : b ≤ n) (f : Nat → Nat) (hR : Row w g n f) (hf : ∀ k, k < n → f k < n) (hs : Srt key f m b) (hap : Apart f a m b) :
    Calls Try.prog 44 #[.slice (some ⟨g, 0, none⟩) n n, .int .i64 (a : Int), .int .i64 (m : Int), .int .i64 (b : Int), .func (.func 26) #[] #[.pointer (some ⟨nb, 0, none⟩)]] w fun e w' => e = .returned (.tuple #[]) ∧ Only g w w' ∧ ∃ c, Row w' g n c ∧ Mix f c a b ∧ Srt key c a b := by
  have HE : Hid (Env w g n nb rb key) := E
  have HR : Hid (Row w g n f) := hR
  have HF : Hid (∀ k, k < n → f k < n) := hf
  have HS : Hid (Srt key f m b) := hs
  have HP : Hid (Apart f a m b) := hap
  have HB : Hid (m = a + 1 ∧ m < b ∧ b ≤ n ∧ n ≤ 1048576) := ⟨hm, hmb, hb, E.small⟩
  have e1 : (m : Int) - (a : Int) = 1 := by omega
  have hn := E.small
  have b1 : (b : Int) ≤ (n : Int) := by omega
  have n1 : (n : Int) ≤ 1048576 := by omega
  have a1 : (a : Int) < (n : Int) := by omega
  clear hR hf hs hap E hm hmb hb hn
  go_enter Try.func44, Try.ntmps44
  go_wp2_with fail
  go_loopw [10, 11] (fun vi vj wr => ∃ i j : Nat, vi = .int .i64 (i : Int) ∧ vj = .int .i64 (j : Int) ∧ Hid (m ≤ i ∧ i ≤ j ∧ j ≤ b) ∧ Hid (Only g w wr ∧ Row wr g n f ∧ (∀ x, m ≤ x → x < i → lt key (f x) (f a)) ∧ (∀ x, j ≤ x → x < b → lt key (f a) (f x)))) (fun vi vj _ => (intOf vj).toNat - (intOf vi).toNat)
  case atStart =>
    obtain ⟨h1, h2, h3, h4⟩ := HB.out
    exact ⟨m, b, rfl, rfl, ⟨Nat.le_refl _, by omega, Nat.le_refl _⟩, Only.refl _ _, HR.out, (fun x x1 x2 => by omega), (fun x x1 x2 => by omega)⟩
  case round =>
    obtain ⟨i, j, rfl, rfl, HL, HI⟩ := hrel
    obtain ⟨l1, l2, l3⟩ := HL.out
    obtain ⟨g1, g2, g3, g4⟩ := HB.out
    by_cases hij : i < j
    · have q : (i : Int) < (j : Int) := by omega
      have i2 : (i : Int) ≤ 1048576 := by omega
      have j2 : (j : Int) ≤ 1048576 := by omega
      obtain ⟨H, hH⟩ : ∃ H : Nat, H = (i + j) / 2 := ⟨_, rfl⟩
      have eH : ((i : Int) + (j : Int)) / 2 = (H : Int) := by omega
      have H1 : (H : Int) < (n : Int) := by omega
      have H2 : (H : Int) ≤ 1048576 := by omega
      have H3 : i ≤ H ∧ H < j := by omega
      obtain ⟨ho, hr, hlo, hhi⟩ := HI.out
      have ch := hr.cell (i := H) (by omega)
      have ca := hr.cell (i := a) (by omega)
      have hc1 : ∀ q, Calls Try.prog 26 #[.int .i64 (f H : Int), .int .i64 (f a : Int), .pointer (some ⟨nb, 0, none⟩)] (wr.drewN q) fun e w' => e = .returned (.int .i64 (cf key (f H) (f a))) ∧ ∃ m, w' = (wr.drewN q).drewN m := fun q => cmp_any (HE.out.keep (only_dr ho q)) _ _ (HF.out _ (by omega)) (HF.out _ (by omega))
      have hneg := cf_neg key (f H) (f a)
      generalize (f H : Int) = vh at *
      generalize (f a : Int) = va at *
      generalize cf key (f H) (f a) = r at *
      have HH : Hid (i ≤ H ∧ H < j ∧ m ≤ i ∧ j ≤ b ∧ m = a + 1 ∧ (r < 0 ↔ key (f a) < key (f H))) := ⟨H3.1, H3.2, l1, l3, g1, hneg⟩
      clear hH H3 ho hr hlo hhi hneg HL l1 l2 l3 g1 g2 g3 g4 hij
      by_cases hr0 : r < 0
      · go_wp2_with fail
        go_quiet ((go_at_call 26; exact Calls.quiet_of (hc1 _)))
        clear ch ca hc1
        go_wp2_with fail
        obtain ⟨k1, k2, k3, k4, k5, k6⟩ := HH.out
        obtain ⟨ho, hr, hlo, hhi⟩ := HI.out
        have hl : lt key (f H) (f a) := lt_of_more (k6.1 hr0)
        refine ⟨⟨H + 1, j, by go_num, rfl, ⟨by omega, by omega, by omega⟩, only_dr ho nq, hr.dr nq, fun x x1 x2 => ?_, hhi⟩, by simp only [intOf]; omega⟩
        by_cases e : x = H
        · rw [e]; exact hl
        · exact lt_trans (HS.out x H x1 (by omega) (by omega)) hl
      · go_wp2_with fail
        go_quiet ((go_at_call 26; exact Calls.quiet_of (hc1 _)))
        clear ch ca hc1
        go_wp2_with fail
        obtain ⟨k1, k2, k3, k4, k5, k6⟩ := HH.out
        obtain ⟨ho, hr, hlo, hhi⟩ := HI.out
        have hl : lt key (f a) (f H) := lt_of_not (HP.out a H (Nat.le_refl _) (by omega) (by omega) (by omega)) (fun h => by have := k6.2 h; omega)
        refine ⟨⟨i, H, rfl, rfl, ⟨by omega, by omega, by omega⟩, only_dr ho nq, hr.dr nq, hlo, fun x x1 x2 => ?_⟩, by simp only [intOf]; omega⟩
        by_cases e : x = H
        · rw [e]; exact hl
        · exact lt_trans hl (HS.out H x (by omega) (by omega) x2)
    · obtain rfl : i = j := by omega
      have hij2 : ¬ (i : Int) < (i : Int) := by omega
      have i3 : (1 : Int) ≤ (i : Int) := by omega
      have i4 : (i : Int) ≤ (n : Int) := by omega
      have HFIN : Hid (Only g w wr ∧ Row wr g n f ∧ Mix f (rot f a (a + 1) i) a b ∧ Srt key (rot f a (a + 1) i) a b ∧ a + 1 ≤ i ∧ i ≤ b ∧ b ≤ n) := by
        obtain ⟨ho, hr, hlo, hhi⟩ := HI.out
        have hsm := HS.out
        rw [g1] at hsm l1 hlo
        exact ⟨ho, hr, (rot_mix f a (a + 1) i (by omega) l1).wide (Nat.le_refl _) l3, lay_first l1 l3 hsm (fun x x1 x2 => hlo x x1 x2) (fun x x1 x2 => hhi x x1 x2), l1, l3, g3⟩
      obtain ⟨I1, hI1⟩ : ∃ I1 : Int, (i : Int) - 1 = I1 := ⟨_, rfl⟩
      have I1b : I1 ≤ 1048576 := by omega
      have HI1 : Hid (I1 = (i : Int) - 1) := hI1.symm
      clear HI HL l1 l2 l3 g1 g2 g3 g4 hij
      go_wp2_with fail
      rename World => wr0
      go_loopw [13] (fun vk wr => ∃ k : Nat, vk = .int .i64 (k : Int) ∧ Hid (a ≤ k ∧ k + 1 ≤ i) ∧ Hid (Only g w wr ∧ Row wr g n (rot f a (a + 1) (k + 1)))) (fun vk _ => i - (intOf vk).toNat)
      case atStart =>
        obtain ⟨ho, hr, h1, h2, h3, h4, h5⟩ := HFIN.out
        refine ⟨a, rfl, ⟨Nat.le_refl _, h3⟩, ho, ?_⟩
        have e := rot_id f a (a + 1) 0 (Or.inr (Nat.zero_le _))
        rw [show max (a + 1) 0 = a + 1 by omega] at e
        rw [e]; exact hr
      case round =>
        obtain ⟨k, rfl, HK, HJ⟩ := hrel
        obtain ⟨_, _, h1, h2, h3, h4, h5⟩ := HFIN.out
        obtain ⟨p1, p2⟩ := HK.out
        by_cases hlt : k + 1 < i
        · have q : (k : Int) < I1 := by have := HI1.out; omega
          obtain ⟨ho, hr⟩ := HJ.out
          obtain ⟨K1, hK1⟩ : ∃ K1, K1 = k + 1 := ⟨_, rfl⟩
          obtain ⟨R0, hR0⟩ : ∃ R0, R0 = rot f a (a + 1) (k + 1) := ⟨_, rfl⟩
          rw [← hR0] at hr
          have ck := hr.cell (i := k) (by omega)
          have ck1 := hr.cell (i := K1) (by omega)
          have fk := hr.frozen k
          have fk1 := hr.frozen K1
          have eK : (k : Int) + 1 = (K1 : Int) := by omega
          have z1 : (k : Int) < (n : Int) := by omega
          have z2 : (K1 : Int) < (n : Int) := by omega
          have wK : IntKind.i64.wrap (K1 : Int) = (K1 : Int) := by simp [IntKind.wrap, IntKind.signed, IntKind.bits]; omega
          have HV : Hid (Only g w wr ∧ Row wr g n R0 ∧ K1 = k + 1 ∧ a ≤ k ∧ k + 1 < i ∧ i ≤ n ∧ swp R0 k K1 = rot f a (a + 1) (K1 + 1)) := ⟨ho, hr, hK1, p1, hlt, by omega, by rw [hK1, hR0, rot_up f a k p1]⟩
          generalize hv0 : (R0 k : Int) = v0 at *
          generalize hv1 : (R0 K1 : Int) = v1 at *
          have HVV : Hid ((R0 k : Int) = v0 ∧ (R0 K1 : Int) = v1) := ⟨hv0, hv1⟩
          clear hv0 hv1 hK1 hR0 ho hr HK HJ p1 p2 hlt h1 h2 h3 h4 h5
          go_wp2_with fail
          go_region
          go_wp2_with fail
          obtain ⟨ho, hr, hK1, p1, p2, p3, p4⟩ := HV.out
          have hs := row_swap hr (x := k) (y := K1) (by omega) (by omega)
          rw [HVV.out.1, HVV.out.2, p4] at hs
          exact ⟨⟨K1, rfl, ⟨by omega, by omega⟩, only_set (only_set (only_dr ho 1) _ _) _ _, hs⟩, by simp only [intOf]; omega⟩
        · have q : ¬ (k : Int) < I1 := by have := HI1.out; omega
          have HD : Hid (Only g w wr ∧ Row wr g n (rot f a (a + 1) i)) := by
            obtain ⟨ho, hr⟩ := HJ.out
            rw [show k + 1 = i by omega] at hr
            exact ⟨ho, hr⟩
          clear HK HJ p1 p2 hlt h1 h2 h3 h4 h5
          go_wp2_with fail
          obtain ⟨_, _, h1, h2, h3, h4, h5⟩ := HFIN.out
          exact bodyPost_ret (results_none rfl _ _ _) rfl ⟨rfl, HD.out.1, _, HD.out.2, h1, h2⟩
set_option maxRecDepth 100000 in
set_option maxHeartbeats 1600000 in
theorem sym_last {w : World} {g n nb rb : Nat} {key : Nat → Int} (E : Env w g n nb rb key) (a m b : Nat) (ham : a + 1 < m) (hbm : b = m + 1) (hb : b ≤ n) (f : Nat → Nat) (hR : Row w g n f) (hf : ∀ k, k < n → f k < n) (hs : Srt key f a m) (hap : Apart f a m b) :
    Calls Try.prog 44 #[.slice (some ⟨g, 0, none⟩) n n, .int .i64 (a : Int), .int .i64 (m : Int), .int .i64 (b : Int), .func (.func 26) #[] #[.pointer (some ⟨nb, 0, none⟩)]] w fun e w' => e = .returned (.tuple #[]) ∧ Only g w w' ∧ ∃ c, Row w' g n c ∧ Mix f c a b ∧ Srt key c a b := by
  have HE : Hid (Env w g n nb rb key) := E
  have HR : Hid (Row w g n f) := hR
  have HF : Hid (∀ k, k < n → f k < n) := hf
  have HS : Hid (Srt key f a m) := hs
  have HP : Hid (Apart f a m b) := hap
  have HB : Hid (a + 1 < m ∧ b = m + 1 ∧ b ≤ n ∧ n ≤ 1048576) := ⟨ham, hbm, hb, E.small⟩
  obtain ⟨D, hD⟩ : ∃ D : Int, (m : Int) - (a : Int) = D := ⟨_, rfl⟩
  have e1 : (D == 1) = false := by rw [beq_eq_false_iff_ne]; omega
  have D1 : D ≤ 1048576 := by have := E.small; omega
  have D0 : 0 ≤ D := by omega
  have e2 : (b : Int) - (m : Int) = 1 := by omega
  have hn := E.small
  have b1 : (b : Int) ≤ (n : Int) := by omega
  have n1 : (n : Int) ≤ 1048576 := by omega
  have m1 : (m : Int) < (n : Int) := by omega
  clear hR hf hs hap E ham hbm hb hn
  go_enter Try.func44, Try.ntmps44
  go_wp2_with fail
  go_loopw [14, 15] (fun vi vj wr => ∃ i j : Nat, vi = .int .i64 (i : Int) ∧ vj = .int .i64 (j : Int) ∧ Hid (a ≤ i ∧ i ≤ j ∧ j ≤ m) ∧ Hid (Only g w wr ∧ Row wr g n f ∧ (∀ x, a ≤ x → x < i → lt key (f x) (f m)) ∧ (∀ x, j ≤ x → x < m → lt key (f m) (f x)))) (fun vi vj _ => (intOf vj).toNat - (intOf vi).toNat)
  case atStart =>
    obtain ⟨h1, h2, h3, h4⟩ := HB.out
    exact ⟨a, m, rfl, rfl, ⟨Nat.le_refl _, by omega, Nat.le_refl _⟩, Only.refl _ _, HR.out, (fun x x1 x2 => by omega), (fun x x1 x2 => by omega)⟩
  case round =>
    obtain ⟨i, j, rfl, rfl, HL, HI⟩ := hrel
    obtain ⟨l1, l2, l3⟩ := HL.out
    obtain ⟨g1, g2, g3, g4⟩ := HB.out
    by_cases hij : i < j
    · have q : (i : Int) < (j : Int) := by omega
      have i2 : (i : Int) ≤ 1048576 := by omega
      have j2 : (j : Int) ≤ 1048576 := by omega
      obtain ⟨H, hH⟩ : ∃ H : Nat, H = (i + j) / 2 := ⟨_, rfl⟩
      have eH : ((i : Int) + (j : Int)) / 2 = (H : Int) := by omega
      have H1 : (H : Int) < (n : Int) := by omega
      have H2 : (H : Int) ≤ 1048576 := by omega
      have H3 : i ≤ H ∧ H < j := by omega
      obtain ⟨ho, hr, hlo, hhi⟩ := HI.out
      have ch := hr.cell (i := H) (by omega)
      have ca := hr.cell (i := m) (by omega)
      have hc1 : ∀ q, Calls Try.prog 26 #[.int .i64 (f m : Int), .int .i64 (f H : Int), .pointer (some ⟨nb, 0, none⟩)] (wr.drewN q) fun e w' => e = .returned (.int .i64 (cf key (f m) (f H))) ∧ ∃ m, w' = (wr.drewN q).drewN m := fun q => cmp_any (HE.out.keep (only_dr ho q)) _ _ (HF.out _ (by omega)) (HF.out _ (by omega))
      have hneg := cf_neg key (f m) (f H)
      generalize (f H : Int) = vh at *
      generalize (f m : Int) = va at *
      generalize cf key (f m) (f H) = r at *
      have HH : Hid (i ≤ H ∧ H < j ∧ a ≤ i ∧ j ≤ m ∧ b = m + 1 ∧ (r < 0 ↔ key (f H) < key (f m))) := ⟨H3.1, H3.2, l1, l3, g2, hneg⟩
      clear hH H3 ho hr hlo hhi hneg HL l1 l2 l3 g1 g2 g3 g4 hij
      by_cases hr0 : r < 0
      · go_wp2_with fail
        go_quiet ((go_at_call 26; exact Calls.quiet_of (hc1 _)))
        clear ch ca hc1
        go_wp2_with fail
        obtain ⟨k1, k2, k3, k4, k5, k6⟩ := HH.out
        obtain ⟨ho, hr, hlo, hhi⟩ := HI.out
        have hl : lt key (f m) (f H) := lt_of_more (k6.1 hr0)
        refine ⟨⟨i, H, rfl, rfl, ⟨by omega, by omega, by omega⟩, only_dr ho nq, hr.dr nq, hlo, fun x x1 x2 => ?_⟩, by simp only [intOf]; omega⟩
        by_cases e : x = H
        · rw [e]; exact hl
        · exact lt_trans hl (HS.out H x (by omega) (by omega) x2)
      · have hd0 : decide (r < 0) = false := by simp; omega
        have hd1 : (!decide (r < 0)) = true := by rw [hd0]; rfl
        have hd2 : 0 ≤ r := by omega
        go_wp2_with fail
        go_quiet ((go_at_call 26; exact Calls.quiet_of (hc1 _)))
        clear ch ca hc1
        go_wp2_with fail
        obtain ⟨k1, k2, k3, k4, k5, k6⟩ := HH.out
        obtain ⟨ho, hr, hlo, hhi⟩ := HI.out
        have hl : lt key (f H) (f m) := lt_of_not (HP.out H m (by omega) (by omega) (Nat.le_refl _) (by omega)) (fun h => by have := k6.2 h; omega)
        refine ⟨⟨H + 1, j, by go_num, rfl, ⟨by omega, by omega, by omega⟩, only_dr ho nq, hr.dr nq, fun x x1 x2 => ?_, hhi⟩, by simp only [intOf]; omega⟩
        by_cases e : x = H
        · rw [e]; exact hl
        · exact lt_trans (HS.out x H x1 (by omega) (by omega)) hl
    · obtain rfl : i = j := by omega
      have hij2 : ¬ (i : Int) < (i : Int) := by omega
      have HFIN : Hid (Only g w wr ∧ Row wr g n f ∧ Mix f (rot f i m (m + 1)) a b ∧ Srt key (rot f i m (m + 1)) a b ∧ a ≤ i ∧ i ≤ m ∧ m < n) := by
        obtain ⟨ho, hr, hlo, hhi⟩ := HI.out
        refine ⟨ho, hr, (rot_mix f i m (m + 1) l3 (by omega)).wide l1 (by omega), ?_, l1, l3, by omega⟩
        rw [g2]
        exact lay_last l1 l3 HS.out (fun x x1 x2 => hlo x x1 x2) (fun x x1 x2 => hhi x x1 x2)
      clear HI HL l1 l2 l3 g1 g2 g3 g4 hij
      go_wp2_with fail
      rename World => wr0
      go_loopw [17] (fun vk wr => ∃ k : Nat, vk = .int .i64 (k : Int) ∧ Hid (i ≤ k ∧ k ≤ m) ∧ Hid (Only g w wr ∧ Row wr g n (rot f k m (m + 1)))) (fun vk _ => (intOf vk).toNat)
      case atStart =>
        obtain ⟨ho, hr, h1, h2, h3, h4, h5⟩ := HFIN.out
        refine ⟨m, rfl, ⟨h4, Nat.le_refl _⟩, ho, ?_⟩
        have e := rot_id f m m (m + 1) (Or.inl rfl)
        rw [show max m (m + 1) = m + 1 by omega] at e
        rw [e]; exact hr
      case round =>
        obtain ⟨k, rfl, HK, HJ⟩ := hrel
        obtain ⟨_, _, h1, h2, h3, h4, h5⟩ := HFIN.out
        obtain ⟨p1, p2⟩ := HK.out
        by_cases hlt : i < k
        · obtain ⟨kp, hkp⟩ : ∃ kp, k = kp + 1 := ⟨k - 1, by omega⟩
          have q : (i : Int) < (k : Int) := by omega
          obtain ⟨ho, hr⟩ := HJ.out
          obtain ⟨R0, hR0⟩ : ∃ R0, R0 = rot f k m (m + 1) := ⟨_, rfl⟩
          rw [← hR0] at hr
          have ck := hr.cell (i := k) (by omega)
          have ck1 := hr.cell (i := kp) (by omega)
          have fk := hr.frozen k
          have fk1 := hr.frozen kp
          have eK : (k : Int) - 1 = (kp : Int) := by omega
          have z1 : (k : Int) < (n : Int) := by omega
          have z2 : (kp : Int) < (n : Int) := by omega
          have wK : IntKind.i64.wrap (kp : Int) = (kp : Int) := by simp [IntKind.wrap, IntKind.signed, IntKind.bits]; omega
          have HV : Hid (Only g w wr ∧ Row wr g n R0 ∧ k = kp + 1 ∧ i ≤ kp ∧ k ≤ m ∧ m < n ∧ swp R0 k kp = rot f kp m (m + 1)) := ⟨ho, hr, hkp, by omega, p2, h5, by rw [hR0, hkp, rot_down f m kp (by omega)]⟩
          generalize hv0 : (R0 k : Int) = v0 at *
          generalize hv1 : (R0 kp : Int) = v1 at *
          have HVV : Hid ((R0 k : Int) = v0 ∧ (R0 kp : Int) = v1) := ⟨hv0, hv1⟩
          clear hv0 hv1 hkp hR0 ho hr HK HJ p1 p2 hlt h1 h2 h3 h4 h5
          go_wp2_with fail
          go_region
          go_wp2_with fail
          obtain ⟨ho, hr, hK1, p1, p2, p3, p4⟩ := HV.out
          have hs := row_swap hr (x := k) (y := kp) (by omega) (by omega)
          rw [HVV.out.1, HVV.out.2, p4] at hs
          exact ⟨⟨kp, rfl, ⟨by omega, by omega⟩, only_set (only_set (only_dr ho 1) _ _) _ _, hs⟩, by simp only [intOf]; omega⟩
        · have q : ¬ (i : Int) < (k : Int) := by omega
          have HD : Hid (Only g w wr ∧ Row wr g n (rot f i m (m + 1))) := by
            obtain ⟨ho, hr⟩ := HJ.out
            rw [show k = i by omega] at hr
            exact ⟨ho, hr⟩
          clear HK HJ p1 p2 hlt h1 h2 h3 h4 h5
          go_wp2_with fail
          obtain ⟨_, _, h1, h2, h3, h4, h5⟩ := HFIN.out
          exact bodyPost_ret (results_none rfl _ _ _) rfl ⟨rfl, HD.out.1, _, HD.out.2, h1, h2⟩
end Go.Proofs.Ytaacocliclibgaa.Sy
