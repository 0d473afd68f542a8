/- journal's reader: a number's bits: wide. -/
import Derived.Test.YtabmpngliphdpaaDoorJl
namespace Go.Proofs.YtabmpngliphdpaaDoor.Jm
set_option linter.unusedVariables false
set_option linter.unusedSimpArgs false
open Go.RowKit Lib0 Kb Jl
attribute [local go_sem] Oper.semAt_some
set_option maxRecDepth 100000 in
set_option maxHeartbeats 3200000 in
theorem wide_ok {w : World} {g : Nat} {l0 : List UInt8} (h : Rd w g (some l0)) :
    Calls Tryd.prog 82 #[.pointer (some ⟨g, 0, none⟩)] w fun e w' => e = .returned (.int .u64 (wdV (some l0) : Int)) ∧ Rd w' g (wdR (some l0)) ∧ w.grownBy w' (some g) := by
  obtain ⟨D, HD⟩ : ∃ D, Hid (wd 10 0 0 l0 = D) := ⟨_, rfl⟩
  have HV : Hid (wdV (some l0) = (D.map (·.1)).getD 0 ∧ wdR (some l0) = D.map (·.2)) := by rw [← HD.out]; exact ⟨rfl, rfl⟩
  rw [HV.out.1, HV.out.2]
  have HRD : Hid (Rd w g (some l0)) := h
  clear HV h
  go_enter Tryd.func82, Tryd.ntmps82
  go_wp2_with fail
  go_loopw [3, 4, 5, 6] (fun uv bv cv gv wr => ∃ (k u : Nat) (o : Option (List UInt8)), uv = .int .u64 (u : Int) ∧ bv = .int .i64 ((7 * k : Nat) : Int) ∧ Hid (k ≤ 10) ∧ Hid (match o with
      | none => D = none
      | some l => D = wd (10 - k) k u l ∧ (k ≤ 9 → u < 128 ^ k)) ∧ Hid (Rd wr g o ∧ w.grownBy wr (some g))) (fun _ bv _ _ _ => 100 - (intOf bv).toNat)
  case atStart => exact ⟨0, 0, some l0, rfl, rfl, Nat.zero_le _, ⟨HD.out.symm, fun _ => by decide⟩, HRD.out, gb_refl _ _⟩
  case round =>
    obtain ⟨k, u, o, rfl, rfl, HK, HO, HW⟩ := hrel
    obtain ⟨s, b, hr, hm⟩ := HW.out.1
    have c0 : wr.cell? ⟨g, 0, none⟩ = some (.string s) := by simp [World.cell?, hr]
    have c1 : wr.cell? ⟨g, 1, none⟩ = some (.bool b) := by simp [World.cell?, hr]
    have cg : g < wr.heap.size := (Array.getElem?_eq_some_iff.1 hr).1
    have f0 : wr.frozen? ⟨g, 0, none⟩ = false := by simp [World.frozen?, hr]
    have f1 : wr.frozen? ⟨g, 1, none⟩ = false := by simp [World.frozen?, hr]
    obtain ⟨N, hN⟩ : ∃ N, s.size = N := ⟨_, rfl⟩
    have HEND : D = none → ∃ W1, Hid (wr.setCell ⟨g, 1, none⟩ (.bool true) = W1) ∧ Hid ((.returned (.int .u64 (((D.map (·.1)).getD 0 : Nat) : Int)) : Ending) = .returned (.int .u64 0) ∧ Rd W1 g (D.map (·.2)) ∧ w.grownBy W1 (some g)) := fun hn => by
      refine ⟨_, rfl, ?_⟩
      subst hn
      exact ⟨rfl, ⟨s, true, (rd_set (s' := s) hr).2, rfl⟩, gb_trans HW.out.2 (gb_set _ _ _ _)⟩
    have HRR : Hid (wr.heap[g]? = some (.cells #[.string s, .bool b] 167 (0, 0))) := hr
    clear hr
    cases o with
    | none =>
      obtain rfl : b = true := hm
      obtain ⟨W1, HW1, HF⟩ := HEND HO.out
      clear HEND
      by_cases hk : k < 10
      · by_cases hlt : 0 < N
        · have q1 : (0 : Int) < (N : Int) := by omega
          go_wp2_with (first | (rw [HW1.out]) | fail)
          go_ret
          exact ⟨HF.out.1.symm, HF.out.2⟩
        · have q1 : N = 0 := by omega
          subst q1
          go_wp2_with (first | (rw [HW1.out]) | fail)
          go_ret
          exact ⟨HF.out.1.symm, HF.out.2⟩
      · have q1 : decide (((7 * k : Nat) : Int) < 64) = false := decide_eq_false (by omega)
        go_wp2_with (first | (rw [HW1.out]) | fail)
        go_ret
        exact ⟨HF.out.1.symm, HF.out.2⟩
    | some l =>
      obtain ⟨rfl, rfl⟩ : b = false ∧ s.data.toList = l := hm
      by_cases hk : k < 10
      · by_cases hlt : 0 < N
        · have q1 : (0 : Int) < (N : Int) := by omega
          have q2 : ((7 * k : Nat) : Int) < 64 := by omega
          have i0 : 0 < s.size := by omega
          clear HEND
          obtain ⟨c, tl, hst⟩ : ∃ c tl, s.data.toList = c :: tl := by
            cases hd : s.data.toList with
            | nil =>
              have h9 : s.size = s.data.toList.length := by simp
              rw [hd] at h9
              have : s.size = 0 := h9
              omega
            | cons c tl => exact ⟨c, tl, rfl⟩
          have h0 : s[0]'i0 = c := by
            have : s.data.toList[0]'(by simp; exact i0) = c := by simp [hst]
            exact this
          have hx : (s.extract 1 N).data.toList = tl := by rw [← hN]; exact cut_one hst
          obtain ⟨C, hC⟩ : ∃ C, c.toNat = C := ⟨_, rfl⟩
          have hC0 : (s[0]'i0).toNat = C := by rw [h0, hC]
          have hc9 : C < 256 := hC ▸ c.toNat_lt
          obtain ⟨G, hG⟩ : ∃ G, C % 128 = G := ⟨_, rfl⟩
          have hG8 : G < 128 := by omega
          have g1 : (C : Int) % 128 = (G : Int) := by omega
          have g2 : (G : Int) % 18446744073709551616 = (G : Int) := by omega
          have hu : u < 128 ^ k := HO.out.2 (by omega)
          have HD0 : Hid (D = if (k = 9 ∧ 1 < G) ∨ (C = 0 ∧ 0 < k) then none else if C < 128 then some (u + G * 128 ^ k, tl) else wd (9 - k) (k + 1) (u + G * 128 ^ k) tl) := by
            have h9 := HO.out.1
            rw [hst, show 10 - k = (9 - k) + 1 by omega, wd, hC, hG] at h9
            exact h9
          obtain ⟨W2, HW2⟩ : ∃ W, Hid (wr.setCell ⟨g, 0, none⟩ (.string (s.extract 1 N)) = W) := ⟨_, rfl⟩
          have hr2 : W2.heap[g]? = some (.cells #[.string (s.extract 1 N), .bool false] 167 (0, 0)) := HW2.out ▸ (rd_set (b' := false) HRR.out).1
          have HG2 : Hid (w.grownBy W2 (some g)) := gb_trans HW.out.2 (HW2.out ▸ gb_set _ _ _ _)
          have k1 : W2.cell? ⟨g, 1, none⟩ = some (.bool false) := by simp [World.cell?, hr2]
          have kg : g < W2.heap.size := (Array.getElem?_eq_some_iff.1 hr2).1
          have kf : W2.frozen? ⟨g, 1, none⟩ = false := by simp [World.frozen?, hr2]
          obtain ⟨W3, HW3⟩ : ∃ W, Hid (W2.setCell ⟨g, 1, none⟩ (.bool true) = W) := ⟨_, rfl⟩
          have hr3 : W3.heap[g]? = some (.cells #[.string (s.extract 1 N), .bool true] 167 (0, 0)) := HW3.out ▸ (rd_set (s' := s) hr2).2
          have HG3 : Hid (w.grownBy W3 (some g)) := gb_trans HG2.out (HW3.out ▸ gb_set _ _ _ _)
          have HR2 : Hid (Rd W2 g (some tl)) := ⟨_, _, hr2, rfl, hx⟩
          have HR3 : Hid (Rd W3 g none) := ⟨_, _, hr3, rfl⟩
          have e1 := wrap_sh G k
          have e2 := div_sh G k
          have HKK : Hid (k < 10 ∧ C < 256 ∧ C % 128 = G) := ⟨hk, hc9, hG⟩
          have HOR : Hid (¬ (k = 9 ∧ 1 < G) → (shR G k = G ∧ bits .or .u64 (u : Int) (shS G k : Int) = ((u + G * 128 ^ k : Nat) : Int))) := fun hn => ⟨(shR_eq hG8 (by omega) hn).1, or_sh hu (by omega) hG8 (shR_eq hG8 (by omega) hn).2⟩
          have HNE : Hid ((k = 9 ∧ 1 < G) → shR G k ≠ G) := fun hn => by rw [hn.1]; exact shR_ne hn.2
          obtain ⟨Sv, hSv⟩ : ∃ Sv, shS G k = Sv := ⟨_, rfl⟩
          obtain ⟨Rv, hRv⟩ : ∃ Rv, shR G k = Rv := ⟨_, rfl⟩
          rw [hSv] at e1 e2 HOR
          rw [hRv] at e2 HOR HNE
          obtain ⟨X, hX⟩ : ∃ X, s.extract 1 N = X := ⟨_, rfl⟩
          rw [hX] at HW2
          have hxx : Hid (s.extract 1 N = X) := hX
          have HUU : Hid (u < 18446744073709551616) := by
            have h9 : (128 : Nat) ^ k ≤ 128 ^ 9 := Nat.pow_le_pow_right (by decide) (by omega)
            have : (128 : Nat) ^ 9 = 9223372036854775808 := by decide
            show u < _
            omega
          have HSS : Hid (Sv < 18446744073709551616) := hSv ▸ shS_lt G k
          have HUK : Hid (u < 128 ^ k) := hu
          clear hSv hRv hX hr2 hr3 hG hG8 hc9 hC h0 hst hu hx HRR HRD HD
          by_cases hbad : (k = 9 ∧ 1 < G) ∨ (C = 0 ∧ 0 < k)
          · have HDN : Hid (D = none) := by
              show D = none
              rw [HD0.out, if_pos hbad]
            have HIN : Hid (∀ U : Nat, (∃ (k' u' : Nat) (o : Option (List UInt8)), Value.int .u64 (U : Int) = .int .u64 (u' : Int) ∧ Value.int .i64 (7 * (k : Int) + 7) = .int .i64 ((7 * k' : Nat) : Int) ∧ Hid (k' ≤ 10) ∧ Hid (match o with
      | none => D = none
      | some l => D = wd (10 - k') k' u' l ∧ (k' ≤ 9 → u' < 128 ^ k')) ∧ Hid (Rd W3 g o ∧ w.grownBy W3 (some g)))) := fun U =>
              ⟨k + 1, U, none, rfl, by rw [show ((7 * (k + 1) : Nat) : Int) = 7 * (k : Int) + 7 by omega], by have := HKK.out.1; show k + 1 ≤ 10; omega, HDN.out, HR3.out, HG3.out⟩
            have HT : Hid (100 - (intOf (.int .i64 (7 * (k : Int) + 7))).toNat < 100 - (intOf (.int .i64 ((7 * k : Nat) : Int))).toNat) := by
              have := HKK.out.1
              show _ < _
              simp only [intOf]; omega

            obtain ⟨W9, HW9⟩ : ∃ W, Hid (W2.setCell ⟨g, 1, none⟩ (.bool true) = W) := ⟨W3, HW3⟩
            by_cases hre : Rv = G
            · have hz : C = 0 ∧ 0 < k := by
                rcases hbad with h | h
                · exact absurd hre (HNE.out h)
                · exact h
              obtain ⟨rfl, hk0⟩ := hz
              obtain rfl : G = 0 := by have := HKK.out.2.2; omega
              subst hre
              have q5 : (0 : Int) < 7 * (k : Int) := by omega
              have z1 : IntKind.u64.wrap 0 = 0 := rfl
              have z2 : bits .or .u64 (u : Int) 0 = (u : Int) := by
                have := u64_or_nat u 0 (by have := HUU.out; omega) (by decide)
                rwa [Nat.or_zero] at this
              clear hbad hk0 g1 g2 e1 e2

              go_wp2_with fail
              refine ⟨?_, HT.out⟩
              rw [hxx.out, HW2.out, HW3.out]
              exact HIN.out u
            · have q6 : ((Rv : Int) != (G : Int)) = true := by
                rw [bne_iff_ne]
                exact fun h => hre (Int.ofNat.inj h)
              obtain ⟨U, eU⟩ : ∃ U : Nat, bits .or .u64 (u : Int) (Sv : Int) = (U : Int) := ⟨_, u64_or_nat u Sv HUU.out HSS.out⟩
              clear hbad hre
              go_wp2_with fail
              refine ⟨?_, HT.out⟩
              rw [hxx.out, HW2.out, HW3.out]
              exact HIN.out U
          · have hok : ¬ (k = 9 ∧ 1 < G) := fun h => hbad (.inl h)
            have hcz : ¬ (C = 0 ∧ 0 < k) := fun h => hbad (.inr h)
            obtain ⟨hrg, hor⟩ := HOR.out hok
            subst hrg
            have HD1 : Hid (D = if C < 128 then some (u + Rv * 128 ^ k, tl) else wd (9 - k) (k + 1) (u + Rv * 128 ^ k) tl) := by
              show D = _
              rw [HD0.out, if_neg hbad]
            obtain ⟨U, hU⟩ : ∃ U, u + Rv * 128 ^ k = U := ⟨_, rfl⟩
            rw [hU] at hor HD1
            have HUV : Hid (u + Rv * 128 ^ k = U) := hU
            clear hbad hok hU HOR HNE HD0
            by_cases hsm : C < 128
            · have HDS : Hid (D = some (U, tl)) := by
                show D = _
                rw [HD1.out, if_pos hsm]
              have HEN : Hid ((.returned (.int .u64 (U : Int)) : Ending) = .returned (.int .u64 (((D.map (·.1)).getD 0 : Nat) : Int)) ∧ Rd W2 g (D.map (·.2)) ∧ w.grownBy W2 (some g)) := by
                refine ⟨?_, ?_, HG2.out⟩
                · rw [HDS.out]; rfl
                · rw [HDS.out]; exact HR2.out
              by_cases hz : C = 0
              · subst hz
                obtain rfl : k = 0 := by omega
                obtain rfl : Rv = 0 := by have := HKK.out.2.2; omega
                obtain rfl : u = U := by have := HUV.out; omega
                have z1 : IntKind.u64.wrap 0 = 0 := rfl
                have z2 : bits .or .u64 (u : Int) 0 = (u : Int) := by
                  have := u64_or_nat u 0 (by have := HUU.out; omega) (by decide)
                  rwa [Nat.or_zero] at this
                clear hcz hsm g1 g2 e1 e2 hor
                go_wp2_with fail
                go_ret
                rw [hxx.out, HW2.out]
                exact HEN.out
              · have q7 : (0 : Int) < (C : Int) := by omega
                have q8 : (C : Int) < 128 := by omega
                clear hz hcz hsm
                go_wp2_with fail
                go_ret
                rw [hxx.out, HW2.out]
                exact HEN.out
            · have HDS : Hid (D = wd (9 - k) (k + 1) U tl) := by
                show D = _
                rw [HD1.out, if_neg hsm]
              have q7 : (0 : Int) < (C : Int) := by omega
              have q8 : (128 : Int) ≤ (C : Int) := by omega
              have HT : Hid (100 - (intOf (.int .i64 (7 * (k : Int) + 7))).toNat < 100 - (intOf (.int .i64 ((7 * k : Nat) : Int))).toNat) := by
                have := HKK.out.1
                show _ < _
                simp only [intOf]; omega
              have HIN : Hid (∃ (k' u' : Nat) (o : Option (List UInt8)), Value.int .u64 (U : Int) = .int .u64 (u' : Int) ∧ Value.int .i64 (7 * (k : Int) + 7) = .int .i64 ((7 * k' : Nat) : Int) ∧ Hid (k' ≤ 10) ∧ Hid (match o with
                | none => D = none
                | some l => D = wd (10 - k') k' u' l ∧ (k' ≤ 9 → u' < 128 ^ k')) ∧ Hid (Rd W2 g o ∧ w.grownBy W2 (some g))) := by
                refine ⟨k + 1, U, some tl, rfl, by rw [show ((7 * (k + 1) : Nat) : Int) = 7 * (k : Int) + 7 by omega], by have := HKK.out.1; show k + 1 ≤ 10; omega, ⟨?_, ?_⟩, HR2.out, HG2.out⟩
                · rw [HDS.out, show 10 - (k + 1) = 9 - k by omega]
                · intro _
                  rw [← HUV.out, Nat.pow_succ]
                  have h1 := HUK.out
                  have : Rv * 128 ^ k ≤ 127 * 128 ^ k := Nat.mul_le_mul_right _ (by have := HKK.out.2.2; omega)
                  omega
              clear hcz hsm
              go_wp2_with fail
              refine ⟨?_, HT.out⟩
              rw [hxx.out, HW2.out]
              exact HIN.out
        · have q1 : N = 0 := by omega
          subst q1
          have HDN : D = none := by
            have h9 := HO.out.1
            have : s.data.toList = [] := List.eq_nil_of_length_eq_zero (by rw [show s.data.toList.length = s.size by simp]; exact hN)
            rw [this, show 10 - k = (9 - k) + 1 by omega] at h9
            rw [h9]; rfl
          obtain ⟨W1, HW1, HF⟩ := HEND HDN
          have q2 : ((7 * k : Nat) : Int) < 64 := by omega
          clear HEND HDN
          go_wp2_with (first | (rw [HW1.out]) | fail)
          go_ret
          exact ⟨HF.out.1.symm, HF.out.2⟩
      · have HDN : D = none := by
          have h9 := HO.out.1
          rw [show 10 - k = 0 by omega] at h9
          rw [h9]; rfl
        obtain ⟨W1, HW1, HF⟩ := HEND HDN
        obtain rfl : k = 10 := by have := HK.out; omega
        clear HEND HDN hk
        go_wp2_with (first | (rw [HW1.out]) | fail)
        go_ret
        exact ⟨HF.out.1.symm, HF.out.2⟩
theorem wide_any {w : World} {g : Nat} {o : Option (List UInt8)} (h : Rd w g o) :
    Calls Tryd.prog 82 #[.pointer (some ⟨g, 0, none⟩)] w fun e w' => e = .returned (.int .u64 (wdV o : Int)) ∧ Rd w' g (wdR o) ∧ w.grownBy w' (some g) := by
  cases o with
  | none =>
    obtain ⟨s, b, hr, hm⟩ := h
    obtain rfl : b = true := hm
    exact wide_bad hr
  | some l => exact wide_ok h
end Go.Proofs.YtabmpngliphdpaaDoor.Jm
