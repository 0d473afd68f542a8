/- Numbers: the program's freeFrom, Take. -/
import Derived.Test.YtmnoplaepjaokaaGreatDoorYd
namespace Go.Proofs.YtmnoplaepjaokaaGreatDoor.Ye
set_option linter.unusedVariables false
set_option linter.unusedSimpArgs false
open Go.RowKit Lib0 Kb Xp Ya Yb Yc Yd
theorem not_cast (x : Nat) (h : x < 18446744073709551616) : bits .xor .u64 IntKind.u64.max (x : Int) = ((18446744073709551615 - x : Nat) : Int) := by
  have e : (IntKind.u64.max : Int) = ((18446744073709551615 : Nat) : Int) := by decide
  rw [e, bits_xor_u64_nat _ _ (by decide) h]
  congr 1
  apply Nat.eq_of_testBit_eq
  intro i
  rw [Nat.testBit_xor, not_bit h, show (18446744073709551615 : Nat) = 2 ^ 64 - 1 by decide, Nat.testBit_two_pow_sub_one]
  by_cases hi : i < 64
  · simp [hi]
  · simp [hi, bit_hi h (by omega : 64 ≤ i)]
set_option maxRecDepth 100000 in
set_option maxHeartbeats 1600000 in
theorem freeFrom_any {w : World} {b d : Nat} {S : St} {W : Nat → Nat} (h : Nm w b d S W) (ho : OK S) (hT : Tz.Tab w) (n : Nat) (h1 : 1 ≤ n) (h2 : n ≤ S.mo + 1) : Calls Tryz.prog 62 #[.pointer (some ⟨b, 0, none⟩), .int .i64 (n : Int)] w fun e w' => e = .returned (.tuple #[.int .i64 ((ff S.mo S.out n : Nat) : Int), .bool (ff S.mo S.out n != 0)]) ∧ w' = w := by
  have c0 : w.cell? ⟨b, 0, none⟩ = some (.slice (some ⟨d, 0, none⟩) (S.mo / 64 + 1) (S.mo / 64 + 1)) := by have := h.blk; simp [World.cell?, this]
  have HX : Hid (∀ j, j < S.mo / 64 + 1 → w.cell? ⟨d, j, none⟩ = some (.int .u64 ((W j : Nat) : Int))) := fun j hj => by
    rw [cell_of_row _ _ _ _ _ _ h.row]; exact uC_get _ _ _ hj
  have HW : Hid (Wd S.mo S.out W) := h.wd
  have HTT : Hid (Tz.Tab w) := hT
  have HMO : Hid (S.mo ≤ 999999) := ho.mo2
  have HBO : Hid (∀ y, Calls Tryz.prog 60 #[.int .i64 (n : Int)] y fun e y' => e = .returned (.int .u64 ((2 ^ (n % 64) : Nat) : Int)) ∧ y' = y) := fun y => bitOf_any n (by have := ho.mo2; omega) y
  have hJ : (n : Int) / 64 = ((n / 64 : Nat) : Int) := by omega
  have HY : Hid (IntKind.u64.wrap (((2 ^ (n % 64) : Nat) : Int) - 1) = ((ahd n (n / 64) : Nat) : Int)) := by
    have a := pow_lt (n % 64) (Nat.mod_lt _ (by decide))
    have b2 : 0 < 2 ^ (n % 64) := Nat.pow_pos (by decide)
    show _ = _
    rw [ahd, if_pos rfl, IntKind.wrap_u64]
    generalize 2 ^ (n % 64) = x at *
    omega
  obtain ⟨mo, last, many, out⟩ := S
  dsimp only at c0 HX HW HMO h2 ⊢
  have HJ0 : Hid (n / 64 ≤ mo / 64 + 1) := by show n / 64 ≤ mo / 64 + 1; omega
  obtain ⟨L, HL⟩ : ∃ L, Hid (mo / 64 + 1 = L) := ⟨_, rfl⟩
  rw [HL.out] at c0 HX HJ0
  obtain ⟨J0, HJ⟩ : ∃ J0, Hid (n / 64 = J0) := ⟨_, rfl⟩
  rw [HJ.out] at hJ HY HJ0
  generalize 2 ^ (n % 64) = Y at *
  have HN : Hid (n ≤ 1000000) := by have := HMO.out; show n ≤ 1000000; omega
  have q0 : (0 : Int) ≤ (n : Int) := by omega
  have q1 : (n : Int) ≤ 1000000 := by have := HN.out; omega
  obtain ⟨N, HNN⟩ : ∃ N : Int, Hid ((n : Int) = N) := ⟨_, rfl⟩
  rw [HNN.out] at HBO hJ q0 q1 ⊢
  have hY := HY.out
  obtain ⟨A0, HA0⟩ : ∃ A0 : Int, Hid (((ahd n J0 : Nat) : Int) = A0) := ⟨_, rfl⟩
  rw [HA0.out] at hY
  have H1 : Hid (1 ≤ n) := h1
  clear HY h ho hT h1 h2
  go_enter Tryz.func62, Tryz.ntmps62
  go_wp2_with fail
  refine (HBO.out w).mono ?_
  rintro e y ⟨rfl, rfl⟩
  go_wp2_with fail
  have HP0 : Hid (Pre mo out n J0) := by have := pre_start mo out n; rw [HJ.out] at this; exact this
  go_loopw [6, 7] (fun av jv wr => ∃ j : Nat, jv = .int .i64 (j : Int) ∧ av = .int .u64 ((ahd n j : Nat) : Int) ∧ J0 ≤ j ∧ j ≤ L ∧ Hid (Pre mo out n j) ∧ wr = y) (fun _ jv _ => L + 1 - (intOf jv).toNat)
  case atStart => exact ⟨J0, by rw [hJ], by rw [HA0.out], Nat.le_refl _, HJ0.out, HP0, rfl⟩
  case round =>
    obtain ⟨j, rfl, rfl, hj0, hjL, HP, rfl⟩ := hrel
    have r0 : (0 : Int) ≤ (j : Int) := by omega
    by_cases hj : j < L
    · have hjm : Hid (j ≤ mo / 64) := by have := HL.out; show j ≤ mo / 64; omega
      have x0 := HX.out j hj
      have r1 : (j : Int) < (L : Int) := by omega
      have HJL : Hid (J0 ≤ j ∧ j < L) := ⟨hj0, hj⟩
      have HJ1 : Hid (n / 64 ≤ j) := by rw [HJ.out]; exact hj0
      have HF : Hid (fre W n j = 18446744073709551615 - (W j ||| ahd n j)) := rfl
      have hor := bits_or_u64_nat (W j) (ahd n j) (HW.out.lt j hjm.out) (ahd_lt n j)
      have hno := not_cast (W j ||| ahd n j) (or_lt (HW.out.lt j hjm.out) (ahd_lt n j))
      have HLT := fre_lt W n j
      rw [← HF.out] at hno
      generalize hV : W j ||| ahd n j = V at *
      clear hV
      have HHIT : Hid (fre W n j ≠ 0 → ff mo out n = 64 * j + Lib.ctz 64 (fre W n j) ∧ Lib.ctz 64 (fre W n j) < 64 ∧ 64 * j + Lib.ctz 64 (fre W n j) ≤ mo ∧ n ≤ 64 * j + Lib.ctz 64 (fre W n j)) := fun hx => fre_hit HW.out hjm.out HJ1.out HP.out hx
      have HMISS : Hid (fre W n j = 0 → Pre mo out n (j + 1)) := fun hx => fre_miss HW.out hjm.out HJ1.out HP.out hx
      have HNX : Hid (ahd n (j + 1) = 0) := ahd_next n j HJ1.out
      clear HF
      generalize fre W n j = F at *
      generalize ahd n j = A at *
      generalize W j = X at *
      have r2 : (j : Int) * 64 ≤ 1000000 := by have := HL.out; have := HMO.out; omega
      by_cases hF : F = 0
      · have HP1 := HMISS.out hF
        subst hF
        have hno2 : bits .xor .u64 IntKind.u64.max (V : Int) = 0 := hno
        clear hno
        have hq : (bits .xor .u64 (if IntKind.u64.signed = true then -1 else IntKind.u64.max) (V : Int) != 0) = false := by rw [show (if IntKind.u64.signed = true then (-1 : Int) else IntKind.u64.max) = IntKind.u64.max from rfl, hno2]; rfl
        have HE : Hid (Pre mo out n (j + 1)) := HP1
        clear HP1 HHIT HMISS HP HLT hjL hj0 hj
        go_wp2_with fail
        have hjl := HJL.out
        refine ⟨⟨j + 1, by simp, by rw [HNX.out]; rfl, by omega, by omega, HE, trivial⟩, ?_⟩
        simp only [intOf]
        omega
      · have HP1 : Hid _ := HHIT.out hF
        have hF2 : ((F : Int) == 0) = false := by simp; omega
        have hF3 : ((F : Int) != 0) = true := by simp; omega
        have HTZ : Hid (∀ y, Tz.Tab y → Calls Tryz.prog 94 #[.int .u64 (F : Int)] y fun e w' => e = .returned (.int .i64 ((Lib.ctz 64 F : Nat) : Int)) ∧ w' = y) := fun y hy => Tz.tz_any F HLT y hy
        clear HHIT HMISS HP hF HNX HLT hjL hj0 hj
        have r4 : ((Lib.ctz 64 F : Nat) : Int) < 64 := by have := HP1.out.2.1; omega
        have r5 : (0 : Int) ≤ ((Lib.ctz 64 F : Nat) : Int) := by omega
        generalize Lib.ctz 64 F = c at *
        have hq : (bits .xor .u64 (if IntKind.u64.signed = true then -1 else IntKind.u64.max) (V : Int) != 0) = true := by rw [show (if IntKind.u64.signed = true then (-1 : Int) else IntKind.u64.max) = IntKind.u64.max from rfl, hno]; exact hF3
        generalize (F : Int) = FI at *
        go_wp2_with fail
        refine (HTZ.out _ HTT.out).mono ?_
        rintro e y ⟨rfl, rfl⟩
        go_wp2_with fail
        go_ret2
        obtain ⟨p1, p2, p3, p4⟩ := HP1.out
        have p5 := H1.out
        refine ⟨?_, rfl⟩
        rw [p1, show (64 * j + c != 0) = true by simp; omega, show ((64 * j + c : Nat) : Int) = (j : Int) * 64 + (c : Int) by omega]
        rfl
    · have HE : Hid (ff mo out n = 0) := pre_end (j := j) (by have := HL.out; omega) HP.out
      have r1 : ¬ (j : Int) < (L : Int) := by omega
      clear HP
      go_wp2_with fail
      go_ret2
      rw [HE.out]
      exact ⟨rfl, rfl⟩
set_option maxRecDepth 100000 in
set_option maxHeartbeats 1600000 in
theorem take_dealt {w : World} {b d : Nat} {S : St} {W : Nat → Nat} (h : Nm w b d S W) (ho : OK S) (hT : Tz.Tab w) : Calls Tryz.prog 26 #[.pointer (some ⟨b, 0, none⟩)] w fun e w' => e = .returned (.tuple #[.int .i64 ((nxt S : Nat) : Int), .int .i64 (tkE S)]) ∧ (∃ W', Nm w' b d (tk S) W') ∧ FrP (fun g => g = b ∨ g = d) w w' := by
  have HF1 : Hid (∀ y, Nm y b d S W → Tz.Tab y → Calls Tryz.prog 62 #[.pointer (some ⟨b, 0, none⟩), .int .i64 ((S.last : Int) + 1)] y fun e w' => e = .returned (.tuple #[.int .i64 ((ff S.mo S.out (S.last + 1) : Nat) : Int), .bool (ff S.mo S.out (S.last + 1) != 0)]) ∧ w' = y) := fun y hy hT => freeFrom_any hy ho hT (S.last + 1) (by omega) (by have := ho.last; omega)
  have HF2 : Hid (∀ y, Nm y b d S W → Tz.Tab y → Calls Tryz.prog 62 #[.pointer (some ⟨b, 0, none⟩), .int .i64 1] y fun e w' => e = .returned (.tuple #[.int .i64 ((ff S.mo S.out 1 : Nat) : Int), .bool (ff S.mo S.out 1 != 0)]) ∧ w' = y) := fun y hy hT => freeFrom_any hy ho hT 1 (by omega) (by omega)
  have HSP := nxt_spec ho
  have HTK : Hid (∀ t, Nx S t → ∀ y, Nm y b d S W → Calls Tryz.prog 63 #[.pointer (some ⟨b, 0, none⟩), .int .i64 (t : Int)] y fun e w' => e = .returned (.tuple #[]) ∧ (∃ W', Nm w' b d ⟨S.mo, S.last, S.many + 1, upd S.out t true⟩ W') ∧ FrP (fun g => g = b ∨ g = d) y w') := fun t ht y hy => take_any hy ho t ht.t2 ht.free
  have c3 := Nm.c3 h
  have HL : Hid (S.last ≤ 999999) := Nat.le_trans ho.last ho.mo2
  have q0 : (0 : Int) ≤ (S.last : Int) := by omega
  have q1 : (S.last : Int) + 1 ≤ 1000000 := by have := HL.out; omega
  have HH : Hid (Nm w b d S W) := h
  have HTT : Hid (Tz.Tab w) := hT
  have HDR : Hid (∀ m, Nm (w.drewN m) b d S W ∧ Tz.Tab (w.drewN m) ∧ Below w.heap.size w (w.drewN m)) := fun m => ⟨Nm.below h (Kb.below_drewN (Below.refl _ w) m), hT.next (Kb.below_drewN (Below.refl _ w) m), Kb.below_drewN (Below.refl _ w) m⟩
  have HNX : Hid (nxt S = if ff S.mo S.out (S.last + 1) = 0 then ff S.mo S.out 1 else ff S.mo S.out (S.last + 1)) := rfl
  clear h ho hT
  by_cases h1 : ff S.mo S.out (S.last + 1) = 0
  · have HN2 : nxt S = ff S.mo S.out 1 := by rw [HNX.out, if_pos h1]
    rw [h1] at HF1
    rw [HN2] at HSP
    by_cases h2 : ff S.mo S.out 1 = 0
    · rw [h2] at HF2
      have e1 : tkE S = 180 := by rw [tkE, HN2, if_pos h2]
      have e2 : tk S = S := by rw [tk, HN2, if_pos h2]
      rw [e1, e2, HN2, h2]
      clear e1 e2 HN2 h1 h2 HSP HTK HNX
      generalize (S.last : Int) = la at *
      go_enter Tryz.func26, Tryz.ntmps26
      go_wp2_with fail
      go_quiet ((go_at_call 62; exact Calls.quiet_of_same (HF1.out _ (HDR.out _).1 (HDR.out _).2.1)))
      obtain ⟨HH2, HT2, HB⟩ : Hid (Nm (w.drewN nq) b d S W) ∧ Hid (Tz.Tab (w.drewN nq)) ∧ Hid (Below w.heap.size w (w.drewN nq)) := HDR.out nq
      generalize w.drewN nq = y at *
      go_wp2_with fail
      refine (HF2.out y HH2.out HT2.out).mono ?_
      rintro e z ⟨rfl, rfl⟩
      go_wp2_with fail
      go_ret2
      exact ⟨rfl, ⟨W, HH2.out⟩, FrP.of HB.out⟩
    · rw [← HN2] at HSP
      have hne : nxt S ≠ 0 := by rw [HN2]; exact h2
      have hx : Nx S (nxt S) := HSP.resolve_left (fun h => hne h.1)
      have e1 : tkE S = 0 := by rw [tkE, if_neg hne]
      have e2 : tk S = ⟨S.mo, nxt S, S.many + 1, upd S.out (nxt S) true⟩ := by rw [tk, if_neg hne]
      have HTK2 := HTK.out _ hx
      rw [e1, e2]
      rw [← HN2] at HF2
      have HTK3 : Hid (∀ y, Nm y b d S W → Calls Tryz.prog 63 #[.pointer (some ⟨b, 0, none⟩), .int .i64 ((nxt S : Nat) : Int)] y fun e w' => e = .returned (.tuple #[]) ∧ (∃ W', Nm w' b d ⟨S.mo, S.last, S.many + 1, upd S.out (nxt S) true⟩ W') ∧ FrP (fun g => g = b ∨ g = d) y w') := HTK2
      have hne2 : (nxt S != 0) = true := by simpa using hne
      rw [hne2] at HF2
      clear e1 e2 HN2 h1 HSP HTK HNX hne hx hne2 HTK2
      generalize nxt S = t at *
      clear h2
      go_enter Tryz.func26, Tryz.ntmps26
      go_wp2_with fail
      go_quiet ((go_at_call 62; exact Calls.quiet_of_same (HF1.out _ (HDR.out _).1 (HDR.out _).2.1)))
      obtain ⟨HH2, HT2, HB⟩ : Hid (Nm (w.drewN nq) b d S W) ∧ Hid (Tz.Tab (w.drewN nq)) ∧ Hid (Below w.heap.size w (w.drewN nq)) := HDR.out nq
      generalize w.drewN nq = z0 at *
      go_wp2_with fail
      refine (HF2.out z0 HH2.out HT2.out).mono ?_
      rintro e z1 ⟨rfl, hz1⟩
      rw [hz1]
      clear hz1
      go_wp2_with fail
      refine (HTK3.out z0 HH2.out).mono ?_
      rintro e z ⟨rfl, ⟨W', hn⟩, hfr⟩
      have c4 : z.cell? ⟨b, 3, none⟩ = some (.int .i64 (S.last : Int)) := Nm.c3 (S := ⟨S.mo, S.last, S.many + 1, upd S.out t true⟩) hn
      have f4 : z.frozen? ⟨b, 3, none⟩ = false := Nm.fz hn 3
      have HN : Hid (Nm (z.setCell ⟨b, 3, none⟩ (.int .i64 (t : Int))) b d ⟨S.mo, t, S.many + 1, upd S.out t true⟩ W') := Nm.last hn t
      have HFF : Hid (FrP (fun g => g = b ∨ g = d) w z) := (FrP.of HB.out).trans hfr (fun g hg => .inl hg)
      clear hn hfr
      go_wp2_with fail
      go_ret2
      exact ⟨rfl, ⟨W', HN.out⟩, FrP.set (B := fun g => g = b ∨ g = d) (p := ⟨b, 3, none⟩) HFF.out (.inl (.inl rfl)) _⟩
  · have HN2 : nxt S = ff S.mo S.out (S.last + 1) := by rw [HNX.out, if_neg h1]
    have hne : nxt S ≠ 0 := by rw [HN2]; exact h1
    have hx : Nx S (nxt S) := HSP.resolve_left (fun h => hne h.1)
    have e1 : tkE S = 0 := by rw [tkE, if_neg hne]
    have e2 : tk S = ⟨S.mo, nxt S, S.many + 1, upd S.out (nxt S) true⟩ := by rw [tk, if_neg hne]
    have HTK2 := HTK.out _ hx
    rw [e1, e2]
    rw [← HN2] at HF1
    have HTK3 : Hid (∀ y, Nm y b d S W → Calls Tryz.prog 63 #[.pointer (some ⟨b, 0, none⟩), .int .i64 ((nxt S : Nat) : Int)] y fun e w' => e = .returned (.tuple #[]) ∧ (∃ W', Nm w' b d ⟨S.mo, S.last, S.many + 1, upd S.out (nxt S) true⟩ W') ∧ FrP (fun g => g = b ∨ g = d) y w') := HTK2
    have hne2 : (nxt S != 0) = true := by simpa using hne
    rw [hne2] at HF1
    clear e1 e2 HN2 h1 HSP HTK HNX hne hx hne2 HTK2
    generalize nxt S = t at *
    clear HF2
    go_enter Tryz.func26, Tryz.ntmps26
    go_wp2_with fail
    go_quiet ((go_at_call 62; exact Calls.quiet_of_same (HF1.out _ (HDR.out _).1 (HDR.out _).2.1)))
    obtain ⟨HH2, HT2, HB⟩ : Hid (Nm (w.drewN nq) b d S W) ∧ Hid (Tz.Tab (w.drewN nq)) ∧ Hid (Below w.heap.size w (w.drewN nq)) := HDR.out nq
    generalize w.drewN nq = z0 at *
    go_wp2_with fail
    refine (HTK3.out z0 HH2.out).mono ?_
    rintro e z ⟨rfl, ⟨W', hn⟩, hfr⟩
    have c4 : z.cell? ⟨b, 3, none⟩ = some (.int .i64 (S.last : Int)) := Nm.c3 (S := ⟨S.mo, S.last, S.many + 1, upd S.out t true⟩) hn
    have f4 : z.frozen? ⟨b, 3, none⟩ = false := Nm.fz hn 3
    have HN : Hid (Nm (z.setCell ⟨b, 3, none⟩ (.int .i64 (t : Int))) b d ⟨S.mo, t, S.many + 1, upd S.out t true⟩ W') := Nm.last hn t
    have HFF : Hid (FrP (fun g => g = b ∨ g = d) w z) := (FrP.of HB.out).trans hfr (fun g hg => .inl hg)
    clear hn hfr
    go_wp2_with fail
    go_ret2
    exact ⟨rfl, ⟨W', HN.out⟩, FrP.set (B := fun g => g = b ∨ g = d) (p := ⟨b, 3, none⟩) HFF.out (.inl (.inl rfl)) _⟩
end Go.Proofs.YtmnoplaepjaokaaGreatDoor.Ye
