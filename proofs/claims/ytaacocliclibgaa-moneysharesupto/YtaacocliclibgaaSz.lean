/- symMerge: two stretches that are in order become one. -/
import Derived.Test.YtaacocliclibgaaSy
namespace Go.Proofs.Ytaacocliclibgaa.Sz
set_option linter.unusedVariables false
open Go.RowKit Sl Kb So Sc Si Sr St Sy
def Goes (g n nb rb : Nat) (key : Nat → Int) (a m b : Nat) : Prop := ∀ (f : Nat → Nat) (w : World), Env w g n nb rb key → Row w g n f → (∀ k, k < n → f k < n) → Srt key f a m → Srt key f m b → Apart f a m b →
    Calls Try.prog 44 #[.slice (some ⟨g, 0, none⟩) n n, .int .i64 (a : Int), .int .i64 (m : Int), .int .i64 (b : Int), .func (.func 26) #[] #[.pointer (some ⟨nb, 0, none⟩)]] w fun e w' => e = .returned (.tuple #[]) ∧ Only g w w' ∧ ∃ c, Row w' g n c ∧ Mix f c a b ∧ Srt key c a b
theorem row_of {w : World} {g n : Nat} {f h : Nat → Nat} (hr : Row w g n f) (e : h = f) : Row w g n h := by rw [e]; exact hr
set_option maxRecDepth 100000 in
set_option maxHeartbeats 6400000 in
theorem sym_mid1 {g n nb rb : Nat} {key : Nat → Int} (a m b : Nat) (ham : a + 1 < m) (hmb : m + 1 < b) (hb : b ≤ n) (hMm : (a + b) / 2 < m)
    (ih1 : ∀ s, a < s → s < (a + b) / 2 → Goes g n nb rb key a s ((a + b) / 2)) (ih2 : ∀ e, (a + b) / 2 < e → e < b → Goes g n nb rb key ((a + b) / 2) e b) : Goes g n nb rb key a m b := by
  intro f w E hR hf hs1 hs2 hap
  obtain ⟨M, hM⟩ : ∃ M, M = (a + b) / 2 := ⟨_, rfl⟩
  obtain ⟨NN, hNN⟩ : ∃ NN, NN = M + m := ⟨_, rfl⟩
  obtain ⟨P, hP⟩ : ∃ P, NN = P + 1 := ⟨NN - 1, by omega⟩
  obtain ⟨lo, hlo⟩ : ∃ lo, lo = M + m - b := ⟨_, rfl⟩
  obtain ⟨hi, hhi⟩ : ∃ hi, hi = M := ⟨_, rfl⟩
  have hn := E.small
  have HC0 : Hid (∀ s, lo ≤ s → s ≤ hi → (∀ c, lo ≤ c → c < s → lt key (f c) (f (P - c))) → (∀ c, s ≤ c → c < hi → lt key (f (P - c)) (f c)) → a ≤ s ∧ s ≤ m ∧ s ≤ M ∧ m ≤ NN - s ∧ M ≤ NN - s ∧ NN - s ≤ b ∧ s ≤ NN ∧
      (Srt key (rot f s m (NN - s)) a s ∧ Srt key (rot f s m (NN - s)) s M ∧ Srt key (rot f s m (NN - s)) M (NN - s) ∧ Srt key (rot f s m (NN - s)) (NN - s) b ∧ Apart (rot f s m (NN - s)) a s M ∧ Apart (rot f s m (NN - s)) M (NN - s) b ∧
      (∀ i j, a ≤ i → i < M → M ≤ j → j < b → lt key (rot f s m (NN - s) i) (rot f s m (NN - s) j)))) := fun s s1 s2 hl hh => by
    have cp := cut_parts (key := key) (f := f) (a := a) (m := m) (b := b) (s := s) (by omega) (by omega) hs1 hs2 hap (by rw [← hM]; split <;> omega)
      ⟨fun c c1 c2 => by
        rw [← hM, ← hNN, show NN - 1 - c = P - c by omega]
        refine hl c ?_ c2
        rw [← hM] at c1; split at c1 <;> omega,
       fun c c1 c2 => by
        rw [← hM, ← hNN, show NN - 1 - c = P - c by omega]
        refine hh c c1 ?_
        rw [← hM] at c2; split at c2 <;> omega⟩ _ rfl
    rw [← hM, ← hNN] at cp
    exact ⟨by omega, by omega, by omega, by omega, by omega, by omega, by omega, cp⟩
  have HE : Hid (Env w g n nb rb key) := E
  have HR : Hid (Row w g n f) := hR
  have HF : Hid (∀ k, k < n → f k < n) := hf
  have HS1 : Hid (Srt key f a m) := hs1
  have HS2 : Hid (Srt key f m b) := hs2
  have HP : Hid (Apart f a m b) := hap
  have HB : Hid (a + 1 < m ∧ m + 1 < b ∧ b ≤ n ∧ n ≤ 1048576 ∧ M = (a + b) / 2 ∧ NN = M + m ∧ NN = P + 1 ∧ a < M ∧ M < b ∧ lo ≤ hi ∧ a ≤ lo ∧ hi ≤ m ∧ (∀ c, lo ≤ c → c < hi → m ≤ P - c ∧ P - c < b ∧ c ≤ P)) := ⟨ham, hmb, hb, hn, hM, hNN, hP, by omega, by omega, by omega, by omega, by omega, fun c c1 c2 => by omega⟩
  have IH1 : Hid (∀ s, a < s → s < M → Goes g n nb rb key a s M) := by rw [hM]; exact ih1
  have IH2 : Hid (∀ e, M < e → e < b → Goes g n nb rb key M e b) := by rw [hM]; exact ih2
  obtain ⟨D, hD⟩ : ∃ D : Int, (m : Int) - (a : Int) = D := ⟨_, rfl⟩
  obtain ⟨D2, hD2⟩ : ∃ D2 : Int, (b : Int) - (m : Int) = D2 := ⟨_, rfl⟩
  have e1 : (D == 1) = false := by rw [beq_eq_false_iff_ne]; omega
  have e2 : (D2 == 1) = false := by rw [beq_eq_false_iff_ne]; omega
  have D1 : D ≤ 1048576 := by omega
  have D0 : 0 ≤ D := by omega
  have D3 : D2 ≤ 1048576 := by omega
  have D4 : 0 ≤ D2 := by omega
  have eM : ((a : Int) + (b : Int)) / 2 = (M : Int) := by omega
  have eN : (M : Int) + (m : Int) = (NN : Int) := by omega
  have eP : (NN : Int) - 1 = (P : Int) := by omega
  have b1 : (b : Int) ≤ (n : Int) := by omega
  have n1 : (n : Int) ≤ 1048576 := by omega
  have b0 : (b : Int) ≤ 1048576 := by omega
  have a0 : (a : Int) ≤ 1048576 := by omega
  have M0 : (M : Int) ≤ 1048576 := by omega
  have m0 : (m : Int) ≤ 1048576 := by omega
  have N0 : (NN : Int) ≤ 2097152 := by omega
  have wM : IntKind.i64.wrap (M : Int) = (M : Int) := by simp [IntKind.wrap, IntKind.signed, IntKind.bits]; omega
  have eLo : (NN : Int) - (b : Int) = (lo : Int) := by omega
  have hgt : (M : Int) < (m : Int) := by omega
  have lo0 : (lo : Int) ≤ 1048576 := by omega
  have HLO : Hid ((lo : Int) = (lo : Int)) := rfl
  have HLO2 : Hid ((M : Int) = (hi : Int)) := by show _ = _; rw [hhi]
  clear hR hf hs1 hs2 hap E ham hmb hb hn hM hNN hP hlo hhi ih1 ih2 hMm
  go_enter Try.func44, Try.ntmps44
  go_wp2_with fail
  clear hD hD2 e1 e2 D1 D0 D3 D4 eM eN eP wM
  go_loopw [20, 21] (fun vs vr wr => ∃ s r : Nat, vs = .int .i64 (s : Int) ∧ vr = .int .i64 (r : Int) ∧ Hid (lo ≤ s ∧ s ≤ r ∧ r ≤ hi) ∧ Hid (Only g w wr ∧ Row wr g n f ∧ (∀ c, lo ≤ c → c < s → lt key (f c) (f (P - c))) ∧ (∀ c, r ≤ c → c < hi → lt key (f (P - c)) (f c)))) (fun vs vr _ => (intOf vr).toNat - (intOf vs).toNat)
  case atStart =>
    obtain ⟨h1, h2, h3, h4, h5, h6, h7, h8, h9, h10, h11, h12, h13⟩ := HB.out
    exact ⟨lo, hi, by first | rfl | (rw [HLO.out]), by first | rfl | (rw [HLO2.out]), ⟨Nat.le_refl _, h10, Nat.le_refl _⟩, Only.refl _ _, HR.out, (fun x x1 x2 => by omega), (fun x x1 x2 => by omega)⟩
  case round =>
    obtain ⟨s, r, rfl, rfl, HL, HI⟩ := hrel
    obtain ⟨l1, l2, l3⟩ := HL.out
    obtain ⟨h1, h2, h3, h4, h5, h6, h7, h8, h9, h10, h11, h12, h13⟩ := HB.out
    by_cases hij : s < r
    · have q : (s : Int) < (r : Int) := by omega
      have i2 : (s : Int) ≤ 1048576 := by omega
      have j2 : (r : Int) ≤ 1048576 := by omega
      obtain ⟨C, hC⟩ : ∃ C : Nat, C = (s + r) / 2 := ⟨_, rfl⟩
      obtain ⟨hx1, hx2, hx3⟩ := h13 C (by omega) (by omega)
      obtain ⟨Q, hQ⟩ : ∃ Q : Nat, Q = P - C := ⟨_, rfl⟩
      have eC : ((s : Int) + (r : Int)) / 2 = (C : Int) := by omega
      have eQ : (P : Int) - (C : Int) = (Q : Int) := by omega
      have C1 : (C : Int) < (n : Int) := by omega
      have C2 : (C : Int) ≤ 1048576 := by omega
      have Q1 : (Q : Int) < (n : Int) := by omega
      have wQ : IntKind.i64.wrap (Q : Int) = (Q : Int) := by simp [IntKind.wrap, IntKind.signed, IntKind.bits]; omega
      obtain ⟨ho, hr, hlo, hhi⟩ := HI.out
      have cq := hr.cell (i := Q) (by omega)
      have cc := hr.cell (i := C) (by omega)
      have hc1 : ∀ q, Calls Try.prog 26 #[.int .i64 (f Q : Int), .int .i64 (f C : Int), .pointer (some ⟨nb, 0, none⟩)] (wr.drewN q) fun e w' => e = .returned (.int .i64 (cf key (f Q) (f C))) ∧ ∃ m, w' = (wr.drewN q).drewN m := fun q => cmp_any (HE.out.keep (only_dr ho q)) _ _ (HF.out _ (by omega)) (HF.out _ (by omega))
      have hneg := cf_neg key (f Q) (f C)
      generalize (f Q : Int) = vq at *
      generalize (f C : Int) = vc at *
      generalize cf key (f Q) (f C) = z at *
      have HH : Hid (s ≤ C ∧ C < r ∧ lo ≤ s ∧ r ≤ hi ∧ Q = P - C ∧ m ≤ Q ∧ Q < b ∧ C ≤ P ∧ (z < 0 ↔ key (f C) < key (f Q))) := ⟨by omega, by omega, l1, l3, hQ, by omega, by omega, by omega, hneg⟩
      clear hC hQ ho hr hlo hhi hneg HL l1 l2 l3 h1 h2 h3 h4 h5 h6 h7 h8 h9 h10 h11 h12 h13 hij hx1 hx2 hx3
      by_cases hz : z < 0
      · go_wp2_with fail
        go_quiet ((go_at_call 26; exact Calls.quiet_of (hc1 _)))
        clear cq cc hc1
        go_wp2_with fail
        obtain ⟨k1, k2, k3, k4, k5, k6, k7, k8, k9⟩ := HH.out
        obtain ⟨ho, hr, hlo, hhi⟩ := HI.out
        obtain ⟨h1, h2, h3, h4, h5, h6, h7, h8, h9, h10, h11, h12, h13⟩ := HB.out
        have hl : lt key (f Q) (f C) := lt_of_more (k9.1 hz)
        refine ⟨⟨s, C, rfl, rfl, ⟨by omega, by omega, by omega⟩, only_dr ho nq, hr.dr nq, hlo, fun x x1 x2 => ?_⟩, by simp only [intOf]; omega⟩
        obtain ⟨y1, y2, y3⟩ := h13 x (by omega) x2
        by_cases e : x = C
        · rw [e, ← k5]; exact hl
        · exact lt_trans (HS2.out (P - x) Q y1 (by omega) k7) (lt_trans hl (HS1.out C x (by omega) (by omega) (by omega)))
      · have hd0 : decide (z < 0) = false := by simp; omega
        have hd1 : (!decide (z < 0)) = true := by rw [hd0]; rfl
        have hd2 : 0 ≤ z := by omega
        go_wp2_with fail
        go_quiet ((go_at_call 26; exact Calls.quiet_of (hc1 _)))
        clear cq cc hc1
        go_wp2_with fail
        obtain ⟨k1, k2, k3, k4, k5, k6, k7, k8, k9⟩ := HH.out
        obtain ⟨ho, hr, hlo, hhi⟩ := HI.out
        obtain ⟨h1, h2, h3, h4, h5, h6, h7, h8, h9, h10, h11, h12, h13⟩ := HB.out
        have hl : lt key (f C) (f Q) := lt_of_not (HP.out C Q (by omega) (by omega) (by omega) (by omega)) (fun h => by have := k9.2 h; omega)
        refine ⟨⟨C + 1, r, by go_num, rfl, ⟨by omega, by omega, by omega⟩, only_dr ho nq, hr.dr nq, fun x x1 x2 => ?_, hhi⟩, by simp only [intOf]; omega⟩
        obtain ⟨y1, y2, y3⟩ := h13 x x1 (by omega)
        by_cases e : x = C
        · rw [e, ← k5]; exact hl
        · exact lt_trans (HS1.out x C (by omega) (by omega) (by omega)) (lt_trans hl (HS2.out Q (P - x) (by omega) (by omega) y2))
    · obtain rfl : s = r := by omega
      have hij2 : ¬ (s : Int) < (s : Int) := by omega
      obtain ⟨ho0, hr0, hlo0, hhi0⟩ := HI.out
      obtain ⟨t1, t2, t3, t4, t5, t6, t7, t8⟩ := HC0.out s l1 l3 hlo0 hhi0
      obtain ⟨ee, hee⟩ : ∃ ee, ee = NN - s := ⟨_, rfl⟩
      have eE : (NN : Int) - (s : Int) = (ee : Int) := by omega
      rw [← hee] at t4 t5 t6 t8
      have HT : Hid (a ≤ s ∧ s ≤ m ∧ s ≤ M ∧ m ≤ ee ∧ M ≤ ee ∧ ee ≤ b ∧ s + (ee - m) = M) := ⟨t1, t2, t3, t4, t5, t6, by omega⟩
      obtain ⟨G, hG⟩ : ∃ G, G = rot f s m ee := ⟨_, rfl⟩
      rw [← hG] at t8
      have HT8 : Hid _ := t8
      have HG : Hid (Mix f G a b ∧ (∀ k, k < n → G k < n)) := by
        have hmx : Mix f G a b := by rw [hG]; exact (rot_mix f s m ee t2 t4).wide t1 t6
        exact ⟨hmx, mix_lt hmx h3 HF.out⟩
      have ee0 : (ee : Int) ≤ 1048576 := by omega
      have s0 : (s : Int) ≤ 1048576 := by omega
      have pr := fun x (h : Row x g n f) (q1 : s < m) (q2 : m < ee) => rotate_any g n h4 (.func (.func 26) #[] #[.pointer (some ⟨nb, 0, none⟩)]) s m ee q1 q2 (by omega) f x h
      rw [← hG] at pr
      have HNR : Hid (¬ (s < m ∧ m < ee) → G = f) := fun h => by
        rw [hG]
        have := rot_id f s m ee (by omega)
        rwa [show max m ee = ee by omega] at this
      have HO : Hid (Only g w wr ∧ Row wr g n f) := ⟨ho0, hr0⟩
      have aM : Hid (a < M ∧ M < b) := ⟨h8, h9⟩
      clear HI HL l1 l2 l3 h1 h2 h3 h4 h5 h6 h7 h8 h9 h10 h11 h12 h13 hij ho0 hr0 hlo0 hhi0 t1 t2 t3 t4 t5 t6 t7 t8 hee hG HC0
      by_cases hrot : s < m ∧ m < ee
      · have z1 : (s : Int) < (m : Int) := by omega
        have z2 : (m : Int) < (ee : Int) := by omega
        go_wp2_with fail
        refine (pr _ HO.out.2 hrot.1 hrot.2).mono ?_
        rintro e y ⟨rfl, ho1, hr1⟩
        have HY : Hid (Only g w y ∧ Row y g n G) := ⟨HO.out.1.trans ho1, hr1⟩
        clear ho1 hr1 hrot z1 z2 pr HNR HO
        by_cases hlow : a < s ∧ s < M
        · have z3 : (a : Int) < (s : Int) := by omega
          have z4 : (s : Int) < (M : Int) := by omega
          have p1 := IH1.out s hlow.1 hlow.2 G y (HE.out.keep HY.out.1) HY.out.2 HG.out.2 HT8.out.1 HT8.out.2.1 HT8.out.2.2.2.2.1
          go_wp2_with fail
          all_goals
            refine p1.mono ?_
            rintro e y2 ⟨rfl, ho2, c, hr2, hm2, hs2⟩
            have HZ : Hid (Only g w y2 ∧ Row y2 g n c ∧ Mix G c a M ∧ Srt key c a M) := ⟨HY.out.1.trans ho2, hr2, hm2, hs2⟩
            clear ho2 hr2 hm2 hs2 p1
            by_cases hup : M < ee ∧ ee < b
            · have z5 : (M : Int) < (ee : Int) := by omega
              have z6 : (ee : Int) < (b : Int) := by omega
              have p2 := IH2.out ee hup.1 hup.2 c y2 (HE.out.keep HZ.out.1) HZ.out.2.1 (mix_lt HZ.out.2.2.1 (by have := HB.out; omega) HG.out.2) (srt_mix HT8.out.2.2.1 HZ.out.2.2.1 (Or.inl (Nat.le_refl _))) (srt_mix HT8.out.2.2.2.1 HZ.out.2.2.1 (Or.inl (by omega))) (apart_mix HT8.out.2.2.2.2.2.1 HZ.out.2.2.1 (Or.inl (Nat.le_refl _)))
              go_wp2_with fail
              all_goals
                refine p2.mono ?_
                rintro e y3 ⟨rfl, ho3, d, hr3, hm3, hs3⟩
                have HW : Hid (Only g w y3 ∧ Row y3 g n d ∧ Mix f d a b ∧ Srt key d a b) := by
                  obtain ⟨k1, k2⟩ := aM.out
                  refine ⟨HZ.out.1.trans ho3, hr3, ?_, halves (by omega) (by omega) HT8.out.2.2.2.2.2.2 HZ.out.2.2.1 HZ.out.2.2.2 hm3 hs3⟩
                  exact (HG.out.1.trans (HZ.out.2.2.1.wide (Nat.le_refl _) (by omega))).trans (hm3.wide (by omega) (Nat.le_refl _))
                clear ho3 hr3 hm3 hs3 p2
                go_wp2_with fail
                go_end0
                exact ⟨rfl, HW.out.1, d, HW.out.2.1, HW.out.2.2.1, HW.out.2.2.2⟩
            · have HW : Hid (Only g w y2 ∧ Row y2 g n c ∧ Mix f c a b ∧ Srt key c a b) := by
                obtain ⟨k1, k2⟩ := aM.out
                obtain ⟨q1, q2, q3, q4, q5, q6, q7⟩ := HT.out
                have hsu : Srt key c M b := by
                  refine srt_mix ?_ HZ.out.2.2.1 (Or.inl (Nat.le_refl _))
                  by_cases e : M < ee
                  · have e2 : ee = b := by omega
                    have := HT8.out.2.2.1
                    rwa [e2] at this
                  · have e2 : ee = M := by omega
                    have := HT8.out.2.2.2.1
                    rwa [e2] at this
                exact ⟨HZ.out.1, HZ.out.2.1, HG.out.1.trans (HZ.out.2.2.1.wide (Nat.le_refl _) (by omega)), halves (by omega) (by omega) HT8.out.2.2.2.2.2.2 HZ.out.2.2.1 HZ.out.2.2.2 (Mix.refl _ _ _) hsu⟩
              have z5 : ¬ ((M : Int) < (ee : Int) ∧ (ee : Int) < (b : Int)) := by omega
              go_wp2_with fail
              all_goals go_end0
              all_goals exact ⟨rfl, HW.out.1, c, HW.out.2.1, HW.out.2.2.1, HW.out.2.2.2⟩
        · have HZ : Hid (Only g w y ∧ Row y g n G ∧ Mix G G a M ∧ Srt key G a M) := by
            refine ⟨HY.out.1, HY.out.2, Mix.refl _ _ _, ?_⟩
            obtain ⟨q1, q2, q3, q4, q5, q6, q7⟩ := HT.out
            by_cases e : a < s
            · have e2 : s = M := by omega
              have := HT8.out.1
              rwa [e2] at this
            · have e2 : s = a := by omega
              have := HT8.out.2.1
              rwa [e2] at this
          have z3 : ¬ ((a : Int) < (s : Int) ∧ (s : Int) < (M : Int)) := by omega
          by_cases hup : M < ee ∧ ee < b
          · have z5 : (M : Int) < (ee : Int) := by omega
            have z6 : (ee : Int) < (b : Int) := by omega
            have p2 := IH2.out ee hup.1 hup.2 G y (HE.out.keep HZ.out.1) HZ.out.2.1 (mix_lt HZ.out.2.2.1 (by have := HB.out; omega) HG.out.2) (srt_mix HT8.out.2.2.1 HZ.out.2.2.1 (Or.inl (Nat.le_refl _))) (srt_mix HT8.out.2.2.2.1 HZ.out.2.2.1 (Or.inl (by omega))) (apart_mix HT8.out.2.2.2.2.2.1 HZ.out.2.2.1 (Or.inl (Nat.le_refl _)))
            go_wp2_with fail
            all_goals
              refine p2.mono ?_
              rintro e y3 ⟨rfl, ho3, d, hr3, hm3, hs3⟩
              have HW : Hid (Only g w y3 ∧ Row y3 g n d ∧ Mix f d a b ∧ Srt key d a b) := by
                obtain ⟨k1, k2⟩ := aM.out
                refine ⟨HZ.out.1.trans ho3, hr3, ?_, halves (by omega) (by omega) HT8.out.2.2.2.2.2.2 HZ.out.2.2.1 HZ.out.2.2.2 hm3 hs3⟩
                exact (HG.out.1.trans (HZ.out.2.2.1.wide (Nat.le_refl _) (by omega))).trans (hm3.wide (by omega) (Nat.le_refl _))
              clear ho3 hr3 hm3 hs3 p2
              go_wp2_with fail
              go_end0
              exact ⟨rfl, HW.out.1, d, HW.out.2.1, HW.out.2.2.1, HW.out.2.2.2⟩
          · have HW : Hid (Only g w y ∧ Row y g n G ∧ Mix f G a b ∧ Srt key G a b) := by
              obtain ⟨k1, k2⟩ := aM.out
              obtain ⟨q1, q2, q3, q4, q5, q6, q7⟩ := HT.out
              have hsu : Srt key G M b := by
                refine srt_mix ?_ HZ.out.2.2.1 (Or.inl (Nat.le_refl _))
                by_cases e : M < ee
                · have e2 : ee = b := by omega
                  have := HT8.out.2.2.1
                  rwa [e2] at this
                · have e2 : ee = M := by omega
                  have := HT8.out.2.2.2.1
                  rwa [e2] at this
              exact ⟨HZ.out.1, HZ.out.2.1, HG.out.1.trans (HZ.out.2.2.1.wide (Nat.le_refl _) (by omega)), halves (by omega) (by omega) HT8.out.2.2.2.2.2.2 HZ.out.2.2.1 HZ.out.2.2.2 (Mix.refl _ _ _) hsu⟩
            have z5 : ¬ ((M : Int) < (ee : Int) ∧ (ee : Int) < (b : Int)) := by omega
            go_wp2_with fail
            all_goals go_end0
            all_goals exact ⟨rfl, HW.out.1, G, HW.out.2.1, HW.out.2.2.1, HW.out.2.2.2⟩
      · have HY : Hid (Only g w wr ∧ Row wr g n G) := ⟨HO.out.1, row_of HO.out.2 (HNR.out hrot)⟩
        have zz : ¬ ((s : Int) < (m : Int) ∧ (m : Int) < (ee : Int)) := by omega
        generalize hgy : wr = y at *
        clear hgy pr HNR HO
        by_cases hlow : a < s ∧ s < M
        · have z3 : (a : Int) < (s : Int) := by omega
          have z4 : (s : Int) < (M : Int) := by omega
          have p1 := IH1.out s hlow.1 hlow.2 G y (HE.out.keep HY.out.1) HY.out.2 HG.out.2 HT8.out.1 HT8.out.2.1 HT8.out.2.2.2.2.1
          go_wp2_with fail
          all_goals
            refine p1.mono ?_
            rintro e y2 ⟨rfl, ho2, c, hr2, hm2, hs2⟩
            have HZ : Hid (Only g w y2 ∧ Row y2 g n c ∧ Mix G c a M ∧ Srt key c a M) := ⟨HY.out.1.trans ho2, hr2, hm2, hs2⟩
            clear ho2 hr2 hm2 hs2 p1
            by_cases hup : M < ee ∧ ee < b
            · have z5 : (M : Int) < (ee : Int) := by omega
              have z6 : (ee : Int) < (b : Int) := by omega
              have p2 := IH2.out ee hup.1 hup.2 c y2 (HE.out.keep HZ.out.1) HZ.out.2.1 (mix_lt HZ.out.2.2.1 (by have := HB.out; omega) HG.out.2) (srt_mix HT8.out.2.2.1 HZ.out.2.2.1 (Or.inl (Nat.le_refl _))) (srt_mix HT8.out.2.2.2.1 HZ.out.2.2.1 (Or.inl (by omega))) (apart_mix HT8.out.2.2.2.2.2.1 HZ.out.2.2.1 (Or.inl (Nat.le_refl _)))
              go_wp2_with fail
              all_goals
                refine p2.mono ?_
                rintro e y3 ⟨rfl, ho3, d, hr3, hm3, hs3⟩
                have HW : Hid (Only g w y3 ∧ Row y3 g n d ∧ Mix f d a b ∧ Srt key d a b) := by
                  obtain ⟨k1, k2⟩ := aM.out
                  refine ⟨HZ.out.1.trans ho3, hr3, ?_, halves (by omega) (by omega) HT8.out.2.2.2.2.2.2 HZ.out.2.2.1 HZ.out.2.2.2 hm3 hs3⟩
                  exact (HG.out.1.trans (HZ.out.2.2.1.wide (Nat.le_refl _) (by omega))).trans (hm3.wide (by omega) (Nat.le_refl _))
                clear ho3 hr3 hm3 hs3 p2
                go_wp2_with fail
                go_end0
                exact ⟨rfl, HW.out.1, d, HW.out.2.1, HW.out.2.2.1, HW.out.2.2.2⟩
            · have HW : Hid (Only g w y2 ∧ Row y2 g n c ∧ Mix f c a b ∧ Srt key c a b) := by
                obtain ⟨k1, k2⟩ := aM.out
                obtain ⟨q1, q2, q3, q4, q5, q6, q7⟩ := HT.out
                have hsu : Srt key c M b := by
                  refine srt_mix ?_ HZ.out.2.2.1 (Or.inl (Nat.le_refl _))
                  by_cases e : M < ee
                  · have e2 : ee = b := by omega
                    have := HT8.out.2.2.1
                    rwa [e2] at this
                  · have e2 : ee = M := by omega
                    have := HT8.out.2.2.2.1
                    rwa [e2] at this
                exact ⟨HZ.out.1, HZ.out.2.1, HG.out.1.trans (HZ.out.2.2.1.wide (Nat.le_refl _) (by omega)), halves (by omega) (by omega) HT8.out.2.2.2.2.2.2 HZ.out.2.2.1 HZ.out.2.2.2 (Mix.refl _ _ _) hsu⟩
              have z5 : ¬ ((M : Int) < (ee : Int) ∧ (ee : Int) < (b : Int)) := by omega
              go_wp2_with fail
              all_goals go_end0
              all_goals exact ⟨rfl, HW.out.1, c, HW.out.2.1, HW.out.2.2.1, HW.out.2.2.2⟩
        · have HZ : Hid (Only g w y ∧ Row y g n G ∧ Mix G G a M ∧ Srt key G a M) := by
            refine ⟨HY.out.1, HY.out.2, Mix.refl _ _ _, ?_⟩
            obtain ⟨q1, q2, q3, q4, q5, q6, q7⟩ := HT.out
            by_cases e : a < s
            · have e2 : s = M := by omega
              have := HT8.out.1
              rwa [e2] at this
            · have e2 : s = a := by omega
              have := HT8.out.2.1
              rwa [e2] at this
          have z3 : ¬ ((a : Int) < (s : Int) ∧ (s : Int) < (M : Int)) := by omega
          by_cases hup : M < ee ∧ ee < b
          · have z5 : (M : Int) < (ee : Int) := by omega
            have z6 : (ee : Int) < (b : Int) := by omega
            have p2 := IH2.out ee hup.1 hup.2 G y (HE.out.keep HZ.out.1) HZ.out.2.1 (mix_lt HZ.out.2.2.1 (by have := HB.out; omega) HG.out.2) (srt_mix HT8.out.2.2.1 HZ.out.2.2.1 (Or.inl (Nat.le_refl _))) (srt_mix HT8.out.2.2.2.1 HZ.out.2.2.1 (Or.inl (by omega))) (apart_mix HT8.out.2.2.2.2.2.1 HZ.out.2.2.1 (Or.inl (Nat.le_refl _)))
            go_wp2_with fail
            all_goals
              refine p2.mono ?_
              rintro e y3 ⟨rfl, ho3, d, hr3, hm3, hs3⟩
              have HW : Hid (Only g w y3 ∧ Row y3 g n d ∧ Mix f d a b ∧ Srt key d a b) := by
                obtain ⟨k1, k2⟩ := aM.out
                refine ⟨HZ.out.1.trans ho3, hr3, ?_, halves (by omega) (by omega) HT8.out.2.2.2.2.2.2 HZ.out.2.2.1 HZ.out.2.2.2 hm3 hs3⟩
                exact (HG.out.1.trans (HZ.out.2.2.1.wide (Nat.le_refl _) (by omega))).trans (hm3.wide (by omega) (Nat.le_refl _))
              clear ho3 hr3 hm3 hs3 p2
              go_wp2_with fail
              go_end0
              exact ⟨rfl, HW.out.1, d, HW.out.2.1, HW.out.2.2.1, HW.out.2.2.2⟩
          · have HW : Hid (Only g w y ∧ Row y g n G ∧ Mix f G a b ∧ Srt key G a b) := by
              obtain ⟨k1, k2⟩ := aM.out
              obtain ⟨q1, q2, q3, q4, q5, q6, q7⟩ := HT.out
              have hsu : Srt key G M b := by
                refine srt_mix ?_ HZ.out.2.2.1 (Or.inl (Nat.le_refl _))
                by_cases e : M < ee
                · have e2 : ee = b := by omega
                  have := HT8.out.2.2.1
                  rwa [e2] at this
                · have e2 : ee = M := by omega
                  have := HT8.out.2.2.2.1
                  rwa [e2] at this
              exact ⟨HZ.out.1, HZ.out.2.1, HG.out.1.trans (HZ.out.2.2.1.wide (Nat.le_refl _) (by omega)), halves (by omega) (by omega) HT8.out.2.2.2.2.2.2 HZ.out.2.2.1 HZ.out.2.2.2 (Mix.refl _ _ _) hsu⟩
            have z5 : ¬ ((M : Int) < (ee : Int) ∧ (ee : Int) < (b : Int)) := by omega
            go_wp2_with fail
            all_goals go_end0
            all_goals exact ⟨rfl, HW.out.1, G, HW.out.2.1, HW.out.2.2.1, HW.out.2.2.2⟩
set_option maxRecDepth 100000 in
set_option maxHeartbeats 6400000 in
theorem sym_mid2 {g n nb rb : Nat} {key : Nat → Int} (a m b : Nat) (ham : a + 1 < m) (hmb : m + 1 < b) (hb : b ≤ n) (hMm : ¬ (a + b) / 2 < m)
    (ih1 : ∀ s, a < s → s < (a + b) / 2 → Goes g n nb rb key a s ((a + b) / 2)) (ih2 : ∀ e, (a + b) / 2 < e → e < b → Goes g n nb rb key ((a + b) / 2) e b) : Goes g n nb rb key a m b := by
  intro f w E hR hf hs1 hs2 hap
  obtain ⟨M, hM⟩ : ∃ M, M = (a + b) / 2 := ⟨_, rfl⟩
  obtain ⟨NN, hNN⟩ : ∃ NN, NN = M + m := ⟨_, rfl⟩
  obtain ⟨P, hP⟩ : ∃ P, NN = P + 1 := ⟨NN - 1, by omega⟩
  obtain ⟨lo, hlo⟩ : ∃ lo, lo = a := ⟨_, rfl⟩
  obtain ⟨hi, hhi⟩ : ∃ hi, hi = m := ⟨_, rfl⟩
  have hn := E.small
  have HC0 : Hid (∀ s, lo ≤ s → s ≤ hi → (∀ c, lo ≤ c → c < s → lt key (f c) (f (P - c))) → (∀ c, s ≤ c → c < hi → lt key (f (P - c)) (f c)) → a ≤ s ∧ s ≤ m ∧ s ≤ M ∧ m ≤ NN - s ∧ M ≤ NN - s ∧ NN - s ≤ b ∧ s ≤ NN ∧
      (Srt key (rot f s m (NN - s)) a s ∧ Srt key (rot f s m (NN - s)) s M ∧ Srt key (rot f s m (NN - s)) M (NN - s) ∧ Srt key (rot f s m (NN - s)) (NN - s) b ∧ Apart (rot f s m (NN - s)) a s M ∧ Apart (rot f s m (NN - s)) M (NN - s) b ∧
      (∀ i j, a ≤ i → i < M → M ≤ j → j < b → lt key (rot f s m (NN - s) i) (rot f s m (NN - s) j)))) := fun s s1 s2 hl hh => by
    have cp := cut_parts (key := key) (f := f) (a := a) (m := m) (b := b) (s := s) (by omega) (by omega) hs1 hs2 hap (by rw [← hM]; split <;> omega)
      ⟨fun c c1 c2 => by
        rw [← hM, ← hNN, show NN - 1 - c = P - c by omega]
        refine hl c ?_ c2
        rw [← hM] at c1; split at c1 <;> omega,
       fun c c1 c2 => by
        rw [← hM, ← hNN, show NN - 1 - c = P - c by omega]
        refine hh c c1 ?_
        rw [← hM] at c2; split at c2 <;> omega⟩ _ rfl
    rw [← hM, ← hNN] at cp
    exact ⟨by omega, by omega, by omega, by omega, by omega, by omega, by omega, cp⟩
  have HE : Hid (Env w g n nb rb key) := E
  have HR : Hid (Row w g n f) := hR
  have HF : Hid (∀ k, k < n → f k < n) := hf
  have HS1 : Hid (Srt key f a m) := hs1
  have HS2 : Hid (Srt key f m b) := hs2
  have HP : Hid (Apart f a m b) := hap
  have HB : Hid (a + 1 < m ∧ m + 1 < b ∧ b ≤ n ∧ n ≤ 1048576 ∧ M = (a + b) / 2 ∧ NN = M + m ∧ NN = P + 1 ∧ a < M ∧ M < b ∧ lo ≤ hi ∧ a ≤ lo ∧ hi ≤ m ∧ (∀ c, lo ≤ c → c < hi → m ≤ P - c ∧ P - c < b ∧ c ≤ P)) := ⟨ham, hmb, hb, hn, hM, hNN, hP, by omega, by omega, by omega, by omega, by omega, fun c c1 c2 => by omega⟩
  have IH1 : Hid (∀ s, a < s → s < M → Goes g n nb rb key a s M) := by rw [hM]; exact ih1
  have IH2 : Hid (∀ e, M < e → e < b → Goes g n nb rb key M e b) := by rw [hM]; exact ih2
  obtain ⟨D, hD⟩ : ∃ D : Int, (m : Int) - (a : Int) = D := ⟨_, rfl⟩
  obtain ⟨D2, hD2⟩ : ∃ D2 : Int, (b : Int) - (m : Int) = D2 := ⟨_, rfl⟩
  have e1 : (D == 1) = false := by rw [beq_eq_false_iff_ne]; omega
  have e2 : (D2 == 1) = false := by rw [beq_eq_false_iff_ne]; omega
  have D1 : D ≤ 1048576 := by omega
  have D0 : 0 ≤ D := by omega
  have D3 : D2 ≤ 1048576 := by omega
  have D4 : 0 ≤ D2 := by omega
  have eM : ((a : Int) + (b : Int)) / 2 = (M : Int) := by omega
  have eN : (M : Int) + (m : Int) = (NN : Int) := by omega
  have eP : (NN : Int) - 1 = (P : Int) := by omega
  have b1 : (b : Int) ≤ (n : Int) := by omega
  have n1 : (n : Int) ≤ 1048576 := by omega
  have b0 : (b : Int) ≤ 1048576 := by omega
  have a0 : (a : Int) ≤ 1048576 := by omega
  have M0 : (M : Int) ≤ 1048576 := by omega
  have m0 : (m : Int) ≤ 1048576 := by omega
  have N0 : (NN : Int) ≤ 2097152 := by omega
  have wM : IntKind.i64.wrap (M : Int) = (M : Int) := by simp [IntKind.wrap, IntKind.signed, IntKind.bits]; omega
  have hgt : ¬ (M : Int) < (m : Int) := by omega
  have HLO : Hid ((a : Int) = (lo : Int)) := by show _ = _; rw [hlo]
  have HLO2 : Hid ((m : Int) = (hi : Int)) := by show _ = _; rw [hhi]
  clear hR hf hs1 hs2 hap E ham hmb hb hn hM hNN hP hlo hhi ih1 ih2 hMm
  go_enter Try.func44, Try.ntmps44
  go_wp2_with fail
  clear hD hD2 e1 e2 D1 D0 D3 D4 eM eN eP wM
  go_loopw [20, 21] (fun vs vr wr => ∃ s r : Nat, vs = .int .i64 (s : Int) ∧ vr = .int .i64 (r : Int) ∧ Hid (lo ≤ s ∧ s ≤ r ∧ r ≤ hi) ∧ Hid (Only g w wr ∧ Row wr g n f ∧ (∀ c, lo ≤ c → c < s → lt key (f c) (f (P - c))) ∧ (∀ c, r ≤ c → c < hi → lt key (f (P - c)) (f c)))) (fun vs vr _ => (intOf vr).toNat - (intOf vs).toNat)
  case atStart =>
    obtain ⟨h1, h2, h3, h4, h5, h6, h7, h8, h9, h10, h11, h12, h13⟩ := HB.out
    exact ⟨lo, hi, by first | rfl | (rw [HLO.out]), by first | rfl | (rw [HLO2.out]), ⟨Nat.le_refl _, h10, Nat.le_refl _⟩, Only.refl _ _, HR.out, (fun x x1 x2 => by omega), (fun x x1 x2 => by omega)⟩
  case round =>
    obtain ⟨s, r, rfl, rfl, HL, HI⟩ := hrel
    obtain ⟨l1, l2, l3⟩ := HL.out
    obtain ⟨h1, h2, h3, h4, h5, h6, h7, h8, h9, h10, h11, h12, h13⟩ := HB.out
    by_cases hij : s < r
    · have q : (s : Int) < (r : Int) := by omega
      have i2 : (s : Int) ≤ 1048576 := by omega
      have j2 : (r : Int) ≤ 1048576 := by omega
      obtain ⟨C, hC⟩ : ∃ C : Nat, C = (s + r) / 2 := ⟨_, rfl⟩
      obtain ⟨hx1, hx2, hx3⟩ := h13 C (by omega) (by omega)
      obtain ⟨Q, hQ⟩ : ∃ Q : Nat, Q = P - C := ⟨_, rfl⟩
      have eC : ((s : Int) + (r : Int)) / 2 = (C : Int) := by omega
      have eQ : (P : Int) - (C : Int) = (Q : Int) := by omega
      have C1 : (C : Int) < (n : Int) := by omega
      have C2 : (C : Int) ≤ 1048576 := by omega
      have Q1 : (Q : Int) < (n : Int) := by omega
      have wQ : IntKind.i64.wrap (Q : Int) = (Q : Int) := by simp [IntKind.wrap, IntKind.signed, IntKind.bits]; omega
      obtain ⟨ho, hr, hlo, hhi⟩ := HI.out
      have cq := hr.cell (i := Q) (by omega)
      have cc := hr.cell (i := C) (by omega)
      have hc1 : ∀ q, Calls Try.prog 26 #[.int .i64 (f Q : Int), .int .i64 (f C : Int), .pointer (some ⟨nb, 0, none⟩)] (wr.drewN q) fun e w' => e = .returned (.int .i64 (cf key (f Q) (f C))) ∧ ∃ m, w' = (wr.drewN q).drewN m := fun q => cmp_any (HE.out.keep (only_dr ho q)) _ _ (HF.out _ (by omega)) (HF.out _ (by omega))
      have hneg := cf_neg key (f Q) (f C)
      generalize (f Q : Int) = vq at *
      generalize (f C : Int) = vc at *
      generalize cf key (f Q) (f C) = z at *
      have HH : Hid (s ≤ C ∧ C < r ∧ lo ≤ s ∧ r ≤ hi ∧ Q = P - C ∧ m ≤ Q ∧ Q < b ∧ C ≤ P ∧ (z < 0 ↔ key (f C) < key (f Q))) := ⟨by omega, by omega, l1, l3, hQ, by omega, by omega, by omega, hneg⟩
      clear hC hQ ho hr hlo hhi hneg HL l1 l2 l3 h1 h2 h3 h4 h5 h6 h7 h8 h9 h10 h11 h12 h13 hij hx1 hx2 hx3
      by_cases hz : z < 0
      · go_wp2_with fail
        go_quiet ((go_at_call 26; exact Calls.quiet_of (hc1 _)))
        clear cq cc hc1
        go_wp2_with fail
        obtain ⟨k1, k2, k3, k4, k5, k6, k7, k8, k9⟩ := HH.out
        obtain ⟨ho, hr, hlo, hhi⟩ := HI.out
        obtain ⟨h1, h2, h3, h4, h5, h6, h7, h8, h9, h10, h11, h12, h13⟩ := HB.out
        have hl : lt key (f Q) (f C) := lt_of_more (k9.1 hz)
        refine ⟨⟨s, C, rfl, rfl, ⟨by omega, by omega, by omega⟩, only_dr ho nq, hr.dr nq, hlo, fun x x1 x2 => ?_⟩, by simp only [intOf]; omega⟩
        obtain ⟨y1, y2, y3⟩ := h13 x (by omega) x2
        by_cases e : x = C
        · rw [e, ← k5]; exact hl
        · exact lt_trans (HS2.out (P - x) Q y1 (by omega) k7) (lt_trans hl (HS1.out C x (by omega) (by omega) (by omega)))
      · have hd0 : decide (z < 0) = false := by simp; omega
        have hd1 : (!decide (z < 0)) = true := by rw [hd0]; rfl
        have hd2 : 0 ≤ z := by omega
        go_wp2_with fail
        go_quiet ((go_at_call 26; exact Calls.quiet_of (hc1 _)))
        clear cq cc hc1
        go_wp2_with fail
        obtain ⟨k1, k2, k3, k4, k5, k6, k7, k8, k9⟩ := HH.out
        obtain ⟨ho, hr, hlo, hhi⟩ := HI.out
        obtain ⟨h1, h2, h3, h4, h5, h6, h7, h8, h9, h10, h11, h12, h13⟩ := HB.out
        have hl : lt key (f C) (f Q) := lt_of_not (HP.out C Q (by omega) (by omega) (by omega) (by omega)) (fun h => by have := k9.2 h; omega)
        refine ⟨⟨C + 1, r, by go_num, rfl, ⟨by omega, by omega, by omega⟩, only_dr ho nq, hr.dr nq, fun x x1 x2 => ?_, hhi⟩, by simp only [intOf]; omega⟩
        obtain ⟨y1, y2, y3⟩ := h13 x x1 (by omega)
        by_cases e : x = C
        · rw [e, ← k5]; exact hl
        · exact lt_trans (HS1.out x C (by omega) (by omega) (by omega)) (lt_trans hl (HS2.out Q (P - x) (by omega) (by omega) y2))
    · obtain rfl : s = r := by omega
      have hij2 : ¬ (s : Int) < (s : Int) := by omega
      obtain ⟨ho0, hr0, hlo0, hhi0⟩ := HI.out
      obtain ⟨t1, t2, t3, t4, t5, t6, t7, t8⟩ := HC0.out s l1 l3 hlo0 hhi0
      obtain ⟨ee, hee⟩ : ∃ ee, ee = NN - s := ⟨_, rfl⟩
      have eE : (NN : Int) - (s : Int) = (ee : Int) := by omega
      rw [← hee] at t4 t5 t6 t8
      have HT : Hid (a ≤ s ∧ s ≤ m ∧ s ≤ M ∧ m ≤ ee ∧ M ≤ ee ∧ ee ≤ b ∧ s + (ee - m) = M) := ⟨t1, t2, t3, t4, t5, t6, by omega⟩
      obtain ⟨G, hG⟩ : ∃ G, G = rot f s m ee := ⟨_, rfl⟩
      rw [← hG] at t8
      have HT8 : Hid _ := t8
      have HG : Hid (Mix f G a b ∧ (∀ k, k < n → G k < n)) := by
        have hmx : Mix f G a b := by rw [hG]; exact (rot_mix f s m ee t2 t4).wide t1 t6
        exact ⟨hmx, mix_lt hmx h3 HF.out⟩
      have ee0 : (ee : Int) ≤ 1048576 := by omega
      have s0 : (s : Int) ≤ 1048576 := by omega
      have pr := fun x (h : Row x g n f) (q1 : s < m) (q2 : m < ee) => rotate_any g n h4 (.func (.func 26) #[] #[.pointer (some ⟨nb, 0, none⟩)]) s m ee q1 q2 (by omega) f x h
      rw [← hG] at pr
      have HNR : Hid (¬ (s < m ∧ m < ee) → G = f) := fun h => by
        rw [hG]
        have := rot_id f s m ee (by omega)
        rwa [show max m ee = ee by omega] at this
      have HO : Hid (Only g w wr ∧ Row wr g n f) := ⟨ho0, hr0⟩
      have aM : Hid (a < M ∧ M < b) := ⟨h8, h9⟩
      clear HI HL l1 l2 l3 h1 h2 h3 h4 h5 h6 h7 h8 h9 h10 h11 h12 h13 hij ho0 hr0 hlo0 hhi0 t1 t2 t3 t4 t5 t6 t7 t8 hee hG HC0
      by_cases hrot : s < m ∧ m < ee
      · have z1 : (s : Int) < (m : Int) := by omega
        have z2 : (m : Int) < (ee : Int) := by omega
        go_wp2_with fail
        refine (pr _ HO.out.2 hrot.1 hrot.2).mono ?_
        rintro e y ⟨rfl, ho1, hr1⟩
        have HY : Hid (Only g w y ∧ Row y g n G) := ⟨HO.out.1.trans ho1, hr1⟩
        clear ho1 hr1 hrot z1 z2 pr HNR HO
        by_cases hlow : a < s ∧ s < M
        · have z3 : (a : Int) < (s : Int) := by omega
          have z4 : (s : Int) < (M : Int) := by omega
          have p1 := IH1.out s hlow.1 hlow.2 G y (HE.out.keep HY.out.1) HY.out.2 HG.out.2 HT8.out.1 HT8.out.2.1 HT8.out.2.2.2.2.1
          go_wp2_with fail
          all_goals
            refine p1.mono ?_
            rintro e y2 ⟨rfl, ho2, c, hr2, hm2, hs2⟩
            have HZ : Hid (Only g w y2 ∧ Row y2 g n c ∧ Mix G c a M ∧ Srt key c a M) := ⟨HY.out.1.trans ho2, hr2, hm2, hs2⟩
            clear ho2 hr2 hm2 hs2 p1
            by_cases hup : M < ee ∧ ee < b
            · have z5 : (M : Int) < (ee : Int) := by omega
              have z6 : (ee : Int) < (b : Int) := by omega
              have p2 := IH2.out ee hup.1 hup.2 c y2 (HE.out.keep HZ.out.1) HZ.out.2.1 (mix_lt HZ.out.2.2.1 (by have := HB.out; omega) HG.out.2) (srt_mix HT8.out.2.2.1 HZ.out.2.2.1 (Or.inl (Nat.le_refl _))) (srt_mix HT8.out.2.2.2.1 HZ.out.2.2.1 (Or.inl (by omega))) (apart_mix HT8.out.2.2.2.2.2.1 HZ.out.2.2.1 (Or.inl (Nat.le_refl _)))
              go_wp2_with fail
              all_goals
                refine p2.mono ?_
                rintro e y3 ⟨rfl, ho3, d, hr3, hm3, hs3⟩
                have HW : Hid (Only g w y3 ∧ Row y3 g n d ∧ Mix f d a b ∧ Srt key d a b) := by
                  obtain ⟨k1, k2⟩ := aM.out
                  refine ⟨HZ.out.1.trans ho3, hr3, ?_, halves (by omega) (by omega) HT8.out.2.2.2.2.2.2 HZ.out.2.2.1 HZ.out.2.2.2 hm3 hs3⟩
                  exact (HG.out.1.trans (HZ.out.2.2.1.wide (Nat.le_refl _) (by omega))).trans (hm3.wide (by omega) (Nat.le_refl _))
                clear ho3 hr3 hm3 hs3 p2
                go_wp2_with fail
                go_end0
                exact ⟨rfl, HW.out.1, d, HW.out.2.1, HW.out.2.2.1, HW.out.2.2.2⟩
            · have HW : Hid (Only g w y2 ∧ Row y2 g n c ∧ Mix f c a b ∧ Srt key c a b) := by
                obtain ⟨k1, k2⟩ := aM.out
                obtain ⟨q1, q2, q3, q4, q5, q6, q7⟩ := HT.out
                have hsu : Srt key c M b := by
                  refine srt_mix ?_ HZ.out.2.2.1 (Or.inl (Nat.le_refl _))
                  by_cases e : M < ee
                  · have e2 : ee = b := by omega
                    have := HT8.out.2.2.1
                    rwa [e2] at this
                  · have e2 : ee = M := by omega
                    have := HT8.out.2.2.2.1
                    rwa [e2] at this
                exact ⟨HZ.out.1, HZ.out.2.1, HG.out.1.trans (HZ.out.2.2.1.wide (Nat.le_refl _) (by omega)), halves (by omega) (by omega) HT8.out.2.2.2.2.2.2 HZ.out.2.2.1 HZ.out.2.2.2 (Mix.refl _ _ _) hsu⟩
              have z5 : ¬ ((M : Int) < (ee : Int) ∧ (ee : Int) < (b : Int)) := by omega
              go_wp2_with fail
              all_goals go_end0
              all_goals exact ⟨rfl, HW.out.1, c, HW.out.2.1, HW.out.2.2.1, HW.out.2.2.2⟩
        · have HZ : Hid (Only g w y ∧ Row y g n G ∧ Mix G G a M ∧ Srt key G a M) := by
            refine ⟨HY.out.1, HY.out.2, Mix.refl _ _ _, ?_⟩
            obtain ⟨q1, q2, q3, q4, q5, q6, q7⟩ := HT.out
            by_cases e : a < s
            · have e2 : s = M := by omega
              have := HT8.out.1
              rwa [e2] at this
            · have e2 : s = a := by omega
              have := HT8.out.2.1
              rwa [e2] at this
          have z3 : ¬ ((a : Int) < (s : Int) ∧ (s : Int) < (M : Int)) := by omega
          by_cases hup : M < ee ∧ ee < b
          · have z5 : (M : Int) < (ee : Int) := by omega
            have z6 : (ee : Int) < (b : Int) := by omega
            have p2 := IH2.out ee hup.1 hup.2 G y (HE.out.keep HZ.out.1) HZ.out.2.1 (mix_lt HZ.out.2.2.1 (by have := HB.out; omega) HG.out.2) (srt_mix HT8.out.2.2.1 HZ.out.2.2.1 (Or.inl (Nat.le_refl _))) (srt_mix HT8.out.2.2.2.1 HZ.out.2.2.1 (Or.inl (by omega))) (apart_mix HT8.out.2.2.2.2.2.1 HZ.out.2.2.1 (Or.inl (Nat.le_refl _)))
            go_wp2_with fail
            all_goals
              refine p2.mono ?_
              rintro e y3 ⟨rfl, ho3, d, hr3, hm3, hs3⟩
              have HW : Hid (Only g w y3 ∧ Row y3 g n d ∧ Mix f d a b ∧ Srt key d a b) := by
                obtain ⟨k1, k2⟩ := aM.out
                refine ⟨HZ.out.1.trans ho3, hr3, ?_, halves (by omega) (by omega) HT8.out.2.2.2.2.2.2 HZ.out.2.2.1 HZ.out.2.2.2 hm3 hs3⟩
                exact (HG.out.1.trans (HZ.out.2.2.1.wide (Nat.le_refl _) (by omega))).trans (hm3.wide (by omega) (Nat.le_refl _))
              clear ho3 hr3 hm3 hs3 p2
              go_wp2_with fail
              go_end0
              exact ⟨rfl, HW.out.1, d, HW.out.2.1, HW.out.2.2.1, HW.out.2.2.2⟩
          · have HW : Hid (Only g w y ∧ Row y g n G ∧ Mix f G a b ∧ Srt key G a b) := by
              obtain ⟨k1, k2⟩ := aM.out
              obtain ⟨q1, q2, q3, q4, q5, q6, q7⟩ := HT.out
              have hsu : Srt key G M b := by
                refine srt_mix ?_ HZ.out.2.2.1 (Or.inl (Nat.le_refl _))
                by_cases e : M < ee
                · have e2 : ee = b := by omega
                  have := HT8.out.2.2.1
                  rwa [e2] at this
                · have e2 : ee = M := by omega
                  have := HT8.out.2.2.2.1
                  rwa [e2] at this
              exact ⟨HZ.out.1, HZ.out.2.1, HG.out.1.trans (HZ.out.2.2.1.wide (Nat.le_refl _) (by omega)), halves (by omega) (by omega) HT8.out.2.2.2.2.2.2 HZ.out.2.2.1 HZ.out.2.2.2 (Mix.refl _ _ _) hsu⟩
            have z5 : ¬ ((M : Int) < (ee : Int) ∧ (ee : Int) < (b : Int)) := by omega
            go_wp2_with fail
            all_goals go_end0
            all_goals exact ⟨rfl, HW.out.1, G, HW.out.2.1, HW.out.2.2.1, HW.out.2.2.2⟩
      · have HY : Hid (Only g w wr ∧ Row wr g n G) := ⟨HO.out.1, row_of HO.out.2 (HNR.out hrot)⟩
        have zz : ¬ ((s : Int) < (m : Int) ∧ (m : Int) < (ee : Int)) := by omega
        generalize hgy : wr = y at *
        clear hgy pr HNR HO
        by_cases hlow : a < s ∧ s < M
        · have z3 : (a : Int) < (s : Int) := by omega
          have z4 : (s : Int) < (M : Int) := by omega
          have p1 := IH1.out s hlow.1 hlow.2 G y (HE.out.keep HY.out.1) HY.out.2 HG.out.2 HT8.out.1 HT8.out.2.1 HT8.out.2.2.2.2.1
          go_wp2_with fail
          all_goals
            refine p1.mono ?_
            rintro e y2 ⟨rfl, ho2, c, hr2, hm2, hs2⟩
            have HZ : Hid (Only g w y2 ∧ Row y2 g n c ∧ Mix G c a M ∧ Srt key c a M) := ⟨HY.out.1.trans ho2, hr2, hm2, hs2⟩
            clear ho2 hr2 hm2 hs2 p1
            by_cases hup : M < ee ∧ ee < b
            · have z5 : (M : Int) < (ee : Int) := by omega
              have z6 : (ee : Int) < (b : Int) := by omega
              have p2 := IH2.out ee hup.1 hup.2 c y2 (HE.out.keep HZ.out.1) HZ.out.2.1 (mix_lt HZ.out.2.2.1 (by have := HB.out; omega) HG.out.2) (srt_mix HT8.out.2.2.1 HZ.out.2.2.1 (Or.inl (Nat.le_refl _))) (srt_mix HT8.out.2.2.2.1 HZ.out.2.2.1 (Or.inl (by omega))) (apart_mix HT8.out.2.2.2.2.2.1 HZ.out.2.2.1 (Or.inl (Nat.le_refl _)))
              go_wp2_with fail
              all_goals
                refine p2.mono ?_
                rintro e y3 ⟨rfl, ho3, d, hr3, hm3, hs3⟩
                have HW : Hid (Only g w y3 ∧ Row y3 g n d ∧ Mix f d a b ∧ Srt key d a b) := by
                  obtain ⟨k1, k2⟩ := aM.out
                  refine ⟨HZ.out.1.trans ho3, hr3, ?_, halves (by omega) (by omega) HT8.out.2.2.2.2.2.2 HZ.out.2.2.1 HZ.out.2.2.2 hm3 hs3⟩
                  exact (HG.out.1.trans (HZ.out.2.2.1.wide (Nat.le_refl _) (by omega))).trans (hm3.wide (by omega) (Nat.le_refl _))
                clear ho3 hr3 hm3 hs3 p2
                go_wp2_with fail
                go_end0
                exact ⟨rfl, HW.out.1, d, HW.out.2.1, HW.out.2.2.1, HW.out.2.2.2⟩
            · have HW : Hid (Only g w y2 ∧ Row y2 g n c ∧ Mix f c a b ∧ Srt key c a b) := by
                obtain ⟨k1, k2⟩ := aM.out
                obtain ⟨q1, q2, q3, q4, q5, q6, q7⟩ := HT.out
                have hsu : Srt key c M b := by
                  refine srt_mix ?_ HZ.out.2.2.1 (Or.inl (Nat.le_refl _))
                  by_cases e : M < ee
                  · have e2 : ee = b := by omega
                    have := HT8.out.2.2.1
                    rwa [e2] at this
                  · have e2 : ee = M := by omega
                    have := HT8.out.2.2.2.1
                    rwa [e2] at this
                exact ⟨HZ.out.1, HZ.out.2.1, HG.out.1.trans (HZ.out.2.2.1.wide (Nat.le_refl _) (by omega)), halves (by omega) (by omega) HT8.out.2.2.2.2.2.2 HZ.out.2.2.1 HZ.out.2.2.2 (Mix.refl _ _ _) hsu⟩
              have z5 : ¬ ((M : Int) < (ee : Int) ∧ (ee : Int) < (b : Int)) := by omega
              go_wp2_with fail
              all_goals go_end0
              all_goals exact ⟨rfl, HW.out.1, c, HW.out.2.1, HW.out.2.2.1, HW.out.2.2.2⟩
        · have HZ : Hid (Only g w y ∧ Row y g n G ∧ Mix G G a M ∧ Srt key G a M) := by
            refine ⟨HY.out.1, HY.out.2, Mix.refl _ _ _, ?_⟩
            obtain ⟨q1, q2, q3, q4, q5, q6, q7⟩ := HT.out
            by_cases e : a < s
            · have e2 : s = M := by omega
              have := HT8.out.1
              rwa [e2] at this
            · have e2 : s = a := by omega
              have := HT8.out.2.1
              rwa [e2] at this
          have z3 : ¬ ((a : Int) < (s : Int) ∧ (s : Int) < (M : Int)) := by omega
          by_cases hup : M < ee ∧ ee < b
          · have z5 : (M : Int) < (ee : Int) := by omega
            have z6 : (ee : Int) < (b : Int) := by omega
            have p2 := IH2.out ee hup.1 hup.2 G y (HE.out.keep HZ.out.1) HZ.out.2.1 (mix_lt HZ.out.2.2.1 (by have := HB.out; omega) HG.out.2) (srt_mix HT8.out.2.2.1 HZ.out.2.2.1 (Or.inl (Nat.le_refl _))) (srt_mix HT8.out.2.2.2.1 HZ.out.2.2.1 (Or.inl (by omega))) (apart_mix HT8.out.2.2.2.2.2.1 HZ.out.2.2.1 (Or.inl (Nat.le_refl _)))
            go_wp2_with fail
            all_goals
              refine p2.mono ?_
              rintro e y3 ⟨rfl, ho3, d, hr3, hm3, hs3⟩
              have HW : Hid (Only g w y3 ∧ Row y3 g n d ∧ Mix f d a b ∧ Srt key d a b) := by
                obtain ⟨k1, k2⟩ := aM.out
                refine ⟨HZ.out.1.trans ho3, hr3, ?_, halves (by omega) (by omega) HT8.out.2.2.2.2.2.2 HZ.out.2.2.1 HZ.out.2.2.2 hm3 hs3⟩
                exact (HG.out.1.trans (HZ.out.2.2.1.wide (Nat.le_refl _) (by omega))).trans (hm3.wide (by omega) (Nat.le_refl _))
              clear ho3 hr3 hm3 hs3 p2
              go_wp2_with fail
              go_end0
              exact ⟨rfl, HW.out.1, d, HW.out.2.1, HW.out.2.2.1, HW.out.2.2.2⟩
          · have HW : Hid (Only g w y ∧ Row y g n G ∧ Mix f G a b ∧ Srt key G a b) := by
              obtain ⟨k1, k2⟩ := aM.out
              obtain ⟨q1, q2, q3, q4, q5, q6, q7⟩ := HT.out
              have hsu : Srt key G M b := by
                refine srt_mix ?_ HZ.out.2.2.1 (Or.inl (Nat.le_refl _))
                by_cases e : M < ee
                · have e2 : ee = b := by omega
                  have := HT8.out.2.2.1
                  rwa [e2] at this
                · have e2 : ee = M := by omega
                  have := HT8.out.2.2.2.1
                  rwa [e2] at this
              exact ⟨HZ.out.1, HZ.out.2.1, HG.out.1.trans (HZ.out.2.2.1.wide (Nat.le_refl _) (by omega)), halves (by omega) (by omega) HT8.out.2.2.2.2.2.2 HZ.out.2.2.1 HZ.out.2.2.2 (Mix.refl _ _ _) hsu⟩
            have z5 : ¬ ((M : Int) < (ee : Int) ∧ (ee : Int) < (b : Int)) := by omega
            go_wp2_with fail
            all_goals go_end0
            all_goals exact ⟨rfl, HW.out.1, G, HW.out.2.1, HW.out.2.2.1, HW.out.2.2.2⟩
theorem sym_any {g n nb rb : Nat} {key : Nat → Int} : ∀ (N a m b : Nat), b - a ≤ N → a < m → m < b → b ≤ n → Goes g n nb rb key a m b := by
  intro N
  induction N with
  | zero => intro a m b h1 h2 h3; omega
  | succ N ih =>
    intro a m b h1 h2 h3 h4
    by_cases k1 : m = a + 1
    · exact fun f w E hR hf hs1 hs2 hap => sym_one E a m b k1 h3 h4 f hR hf hs2 hap
    · by_cases k2 : b = m + 1
      · exact fun f w E hR hf hs1 hs2 hap => sym_last E a m b (by omega) k2 h4 f hR hf hs1 hap
      · by_cases k3 : (a + b) / 2 < m
        · exact sym_mid1 a m b (by omega) (by omega) h4 k3 (fun s s1 s2 => ih a s _ (by omega) s1 s2 (by omega)) (fun e e1 e2 => ih _ e b (by omega) e1 e2 h4)
        · exact sym_mid2 a m b (by omega) (by omega) h4 k3 (fun s s1 s2 => ih a s _ (by omega) s1 s2 (by omega)) (fun e e1 e2 => ih _ e b (by omega) e1 e2 h4)
end Go.Proofs.Ytaacocliclibgaa.Sz
