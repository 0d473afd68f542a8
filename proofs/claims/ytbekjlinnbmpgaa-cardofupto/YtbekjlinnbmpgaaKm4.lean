/- Tracks: the document's part: the month. -/
import Derived.Test.YtbekjlinnbmpgaaKq
namespace Go.Proofs.Ytbekjlinnbmpgaa.Km4
set_option linter.unusedVariables false
open Go.RowKit Lib0 Kp Kb Kd Kt Ks Kq
theorem u8_of {c : UInt8} {n : Nat} (hn : n < 256) : c = UInt8.ofNat n ↔ (c.toNat : Int) = n := by
  constructor
  · intro h; subst h; simp; omega
  · intro h; exact UInt8.toNat_inj.1 (by simp; omega)
theorem d0_at {s : ByteArray} {k : Nat} (h : k < s.size) : tk d0 s k = decide ((s[k].toNat : Int) = 48) := by
  rw [tk_in _ _ _ h, d0, Bool.eq_iff_iff, beq_iff_eq, decide_eq_true_eq]; exact u8_of (n := 48) (by omega)
theorem d1_at {s : ByteArray} {k : Nat} (h : k < s.size) : tk d1 s k = decide ((s[k].toNat : Int) = 49) := by
  rw [tk_in _ _ _ h, d1, Bool.eq_iff_iff, beq_iff_eq, decide_eq_true_eq]; exact u8_of (n := 49) (by omega)
theorem d19_at {s : ByteArray} {k : Nat} (h : k < s.size) : tk d19 s k = (dig s[k] && !decide ((s[k].toNat : Int) = 48)) := by
  rw [tk_in _ _ _ h, Bool.eq_iff_iff]; simp [d19, dig]; omega
theorem d02_at {s : ByteArray} {k : Nat} (h : k < s.size) : tk d02 s k = (dig s[k] && decide ((s[k].toNat : Int) ≤ 50)) := by
  rw [tk_in _ _ _ h, Bool.eq_iff_iff]; simp [d02, dig]; omega
set_option maxRecDepth 100000 in
set_option maxHeartbeats 1600000 in
theorem part4_any (s : ByteArray) (k : Nat) (w : World) (hs : s.size ≤ 37) (hk : k ≤ s.size) (h : tk eqs s k = false) :
    Calls Try.prog 38 #[.string s, .int .i64 (k : Int), .int .i64 4] w fun e w' => e = .returned (tupV (partR s k 4 (fit4 s k))) ∧ w' = w := by
  have He : Hid (tk eqs s k = false) := h
  clear h
  by_cases hlt : k < s.size
  · have h1 : ((s[k].toNat : Int) == 61) = false := by have := He.out; rw [eqs_at hlt] at this; simpa using this
    go_enter Try.func38, Try.ntmps38
    go_wp2
    go_loop [9] (fun c => ∃ i : Nat, i ≤ 4 ∧ c = .int .i64 (i : Int) ∧ k + i ≤ s.size ∧ Hid (∀ j, j < i → fit4 s k j = true)) (fun c => 5 - (intOf c).toNat)
    case atStart => exact ⟨0, by omega, rfl, by omega, fun j hj => by omega⟩
    case round =>
      obtain ⟨i, hi, rfl, hki, HF⟩ := hrel
      by_cases h3 : i < 4
      · have h3' : (i : Int) < 4 := by omega
        obtain ⟨q, Hq, hq⟩ : ∃ q : Nat, Hid (k + i = q) ∧ (k : Int) + i = q := ⟨k + i, rfl, by omega⟩
        by_cases hqs : q < s.size
        · have hqs' : (q : Int) < s.size := by omega
          have hqs2 : ¬ (s.size : Int) ≤ q := by omega
          have h4 : i = 0 ∨ i = 1 ∨ i = 2 ∨ i = 3 := by omega
          rcases h4 with rfl | rfl | rfl | rfl
          · have e0 : k = q := by have := Hq.out; omega
            subst e0
            clear hq
            go_wp2_with fail
            refine (digit_any s[k] _).mono ?_
            rintro ee w' ⟨rfl, rfl⟩
            cases hp : dig s[k]
            · have HR : Hid (partR s k 4 (fit4 s k) = (⟨#[]⟩, 0, (k : Int))) := by
                show _ = _
                rw [partR, He.out, find_hit (i := 0) (by omega) HF.out (by show tk dig s (k + 0) = false; rw [Hq.out, tk_dig hqs]; exact hp)]
                simp only [Bool.false_eq_true, if_false, Prod.mk.injEq, true_and]
                have := Hq.out; omega
              go_wp2
              exact bodyPost_ret (v := .tuple #[.string ⟨#[]⟩, .int .i64 0, .int .i64 (k : Int)]) (by simp [results, Try.results38, go_sem]) rfl ⟨by rw [HR.out]; rfl, rfl⟩
            · go_wp2
              go_round
              case rel => exact ⟨0 + 1, by omega, by go_num, by have := Hq.out; omega, fun j hj => by
                rcases Nat.lt_or_ge j 0 with h | h
                · exact HF.out j h
                · obtain rfl : j = 0 := by omega
                  show tk dig s (k + 0) = true; rw [Hq.out, tk_dig hqs]; exact hp⟩
              case measure => simp [intOf]
          · replace hq : (k : Int) + 1 = q := by have := Hq.out; omega
            go_wp2_with fail
            refine (digit_any s[q] _).mono ?_
            rintro ee w' ⟨rfl, rfl⟩
            cases hp : dig s[q]
            · have HR : Hid (partR s k 4 (fit4 s k) = (⟨#[]⟩, 0, (q : Int))) := by
                show _ = _
                rw [partR, He.out, find_hit (i := 1) (by omega) HF.out (by show tk dig s (k + 1) = false; rw [Hq.out, tk_dig hqs]; exact hp)]
                simp only [Bool.false_eq_true, if_false, Prod.mk.injEq, true_and]
                have := Hq.out; omega
              go_wp2
              exact bodyPost_ret (v := .tuple #[.string ⟨#[]⟩, .int .i64 0, .int .i64 (q : Int)]) (by simp [results, Try.results38, go_sem]) rfl ⟨by rw [HR.out]; rfl, rfl⟩
            · go_wp2
              go_round
              case rel => exact ⟨1 + 1, by omega, by go_num, by have := Hq.out; omega, fun j hj => by
                rcases Nat.lt_or_ge j 1 with h | h
                · exact HF.out j h
                · obtain rfl : j = 1 := by omega
                  show tk dig s (k + 1) = true; rw [Hq.out, tk_dig hqs]; exact hp⟩
              case measure => simp [intOf]
          · replace hq : (k : Int) + 2 = q := by have := Hq.out; omega
            have g0 : tk d0 s (k + 2) = decide ((s[q].toNat : Int) = 48) := by rw [Hq.out]; exact d0_at hqs
            have g1 : tk d1 s (k + 2) = decide ((s[q].toNat : Int) = 49) := by rw [Hq.out]; exact d1_at hqs
            go_wp2_with fail
            refine (digit_any s[q] _).mono ?_
            rintro ee w' ⟨rfl, rfl⟩
            by_cases z0 : (s[q].toNat : Int) = 48
            · have hf : Hid (fit4 s k 2 = true) := by show (tk d0 s (k + 2) || tk d1 s (k + 2)) = true; rw [g0, z0]; rfl
              clear g0 g1
              go_wp2
              go_round
              case rel => exact ⟨2 + 1, by omega, by go_num, by have := Hq.out; omega, fun j hj => by
                rcases Nat.lt_or_ge j 2 with h | h
                · exact HF.out j h
                · obtain rfl : j = 2 := by omega
                  exact hf.out⟩
              case measure => simp [intOf]
            · have z0b : ((s[q].toNat : Int) == 48) = false := by simpa using z0
              by_cases z1 : (s[q].toNat : Int) = 49
              · have hf : Hid (fit4 s k 2 = true) := by show (tk d0 s (k + 2) || tk d1 s (k + 2)) = true; rw [g1, z1]; simp
                clear g0 g1 z0
                go_wp2
                go_round
                case rel => exact ⟨2 + 1, by omega, by go_num, by have := Hq.out; omega, fun j hj => by
                  rcases Nat.lt_or_ge j 2 with h | h
                  · exact HF.out j h
                  · obtain rfl : j = 2 := by omega
                    exact hf.out⟩
                case measure => simp [intOf]
              · have z1b : ((s[q].toNat : Int) == 49) = false := by simpa using z1
                have hf : Hid (fit4 s k 2 = false) := by show (tk d0 s (k + 2) || tk d1 s (k + 2)) = false; rw [g0, g1]; simp [z0, z1]
                clear g0 g1 z0 z1
                have HR : Hid (partR s k 4 (fit4 s k) = (⟨#[]⟩, 0, (q : Int))) := by
                  show _ = _
                  rw [partR, He.out, find_hit (i := 2) (by omega) HF.out (hf.out)]
                  simp only [Bool.false_eq_true, if_false, Prod.mk.injEq, true_and]
                  have := Hq.out; omega
                go_wp2
                exact bodyPost_ret (v := .tuple #[.string ⟨#[]⟩, .int .i64 0, .int .i64 (q : Int)]) (by simp [results, Try.results38, go_sem]) rfl ⟨by rw [HR.out]; rfl, rfl⟩
          · replace hq : (k : Int) + 3 = q := by have := Hq.out; omega
            obtain ⟨q2, Hq2, hq2⟩ : ∃ q2 : Nat, Hid (k + 2 = q2) ∧ (k : Int) + 2 = q2 := ⟨k + 2, rfl, by omega⟩
            have hq2s : q2 < s.size := by have := Hq.out; have := Hq2.out; omega
            have g0 : tk d0 s (k + 2) = decide ((s[q2].toNat : Int) = 48) := by rw [Hq2.out]; exact d0_at hq2s
            have g1 : tk d1 s (k + 2) = decide ((s[q2].toNat : Int) = 49) := by rw [Hq2.out]; exact d1_at hq2s
            have g2 : tk d19 s (k + 3) = (dig s[q] && !decide ((s[q].toNat : Int) = 48)) := by rw [Hq.out]; exact d19_at hqs
            have g3 : tk d02 s (k + 3) = (dig s[q] && decide ((s[q].toNat : Int) ≤ 50)) := by rw [Hq.out]; exact d02_at hqs
            have h2 : (tk d0 s (k + 2) || tk d1 s (k + 2)) = true := HF.out 2 (by omega)
            have hfe : fit4 s k 3 = (tk d0 s (k + 2) && tk d19 s (k + 3) || tk d1 s (k + 2) && tk d02 s (k + 3)) := rfl
            by_cases z0 : (s[q2].toNat : Int) = 48
            · rw [g0, g1, g2, z0] at hfe
              clear g0 g1 g2 g3 h2
              go_wp2_with fail
              refine (digit_any s[q] _).mono ?_
              rintro ee w' ⟨rfl, rfl⟩
              cases hp : dig s[q]
              · have hf : Hid (fit4 s k 3 = false) := by show _ = _; rw [hfe, hp]; rfl
                clear hfe
                have HR : Hid (partR s k 4 (fit4 s k) = (⟨#[]⟩, 0, (q : Int))) := by
                  show _ = _
                  rw [partR, He.out, find_hit (i := 3) (by omega) HF.out (hf.out)]
                  simp only [Bool.false_eq_true, if_false, Prod.mk.injEq, true_and]
                  have := Hq.out; omega
                go_wp2
                exact bodyPost_ret (v := .tuple #[.string ⟨#[]⟩, .int .i64 0, .int .i64 (q : Int)]) (by simp [results, Try.results38, go_sem]) rfl ⟨by rw [HR.out]; rfl, rfl⟩
              · by_cases y0 : (s[q].toNat : Int) = 48
                · have hf : Hid (fit4 s k 3 = false) := by show _ = _; rw [hfe, hp, y0]; rfl
                  clear hfe
                  have HR : Hid (partR s k 4 (fit4 s k) = (⟨#[]⟩, 0, (q : Int))) := by
                    show _ = _
                    rw [partR, He.out, find_hit (i := 3) (by omega) HF.out (hf.out)]
                    simp only [Bool.false_eq_true, if_false, Prod.mk.injEq, true_and]
                    have := Hq.out; omega
                  go_wp2
                  exact bodyPost_ret (v := .tuple #[.string ⟨#[]⟩, .int .i64 0, .int .i64 (q : Int)]) (by simp [results, Try.results38, go_sem]) rfl ⟨by rw [HR.out]; rfl, rfl⟩
                · have y0b : ((s[q].toNat : Int) == 48) = false := by simpa using y0
                  have y0c : ((s[q].toNat : Int) != 48) = true := by simpa using y0
                  have hf : Hid (fit4 s k 3 = true) := by show _ = _; rw [hfe, hp]; simp [y0]
                  clear hfe y0
                  go_wp2
                  go_round
                  case rel => exact ⟨3 + 1, by omega, by go_num, by have := Hq.out; omega, fun j hj => by
                    rcases Nat.lt_or_ge j 3 with h | h
                    · exact HF.out j h
                    · obtain rfl : j = 3 := by omega
                      exact hf.out⟩
                  case measure => simp [intOf]
            · have z1 : (s[q2].toNat : Int) = 49 := by rw [g0, g1] at h2; simpa [z0] using h2
              rw [g0, g1, g3, z1] at hfe
              clear g0 g1 g2 g3 h2 z0
              go_wp2_with fail
              refine (digit_any s[q] _).mono ?_
              rintro ee w' ⟨rfl, rfl⟩
              cases hp : dig s[q]
              · have hf : Hid (fit4 s k 3 = false) := by show _ = _; rw [hfe, hp]; rfl
                clear hfe
                have HR : Hid (partR s k 4 (fit4 s k) = (⟨#[]⟩, 0, (q : Int))) := by
                  show _ = _
                  rw [partR, He.out, find_hit (i := 3) (by omega) HF.out (hf.out)]
                  simp only [Bool.false_eq_true, if_false, Prod.mk.injEq, true_and]
                  have := Hq.out; omega
                go_wp2
                exact bodyPost_ret (v := .tuple #[.string ⟨#[]⟩, .int .i64 0, .int .i64 (q : Int)]) (by simp [results, Try.results38, go_sem]) rfl ⟨by rw [HR.out]; rfl, rfl⟩
              · by_cases y0 : (s[q].toNat : Int) ≤ 50
                · have hf : Hid (fit4 s k 3 = true) := by show _ = _; rw [hfe, hp]; simp [y0]
                  clear hfe
                  go_wp2
                  go_round
                  case rel => exact ⟨3 + 1, by omega, by go_num, by have := Hq.out; omega, fun j hj => by
                    rcases Nat.lt_or_ge j 3 with h | h
                    · exact HF.out j h
                    · obtain rfl : j = 3 := by omega
                      exact hf.out⟩
                  case measure => simp [intOf]
                · have hf : Hid (fit4 s k 3 = false) := by show _ = _; rw [hfe, hp]; simp [y0]
                  have y1 : (50 : Int) < s[q].toNat := by omega
                  have y2 : decide ((s[q].toNat : Int) ≤ 50) = false := by simp; omega
                  clear hfe y0
                  have HR : Hid (partR s k 4 (fit4 s k) = (⟨#[]⟩, 0, (q : Int))) := by
                    show _ = _
                    rw [partR, He.out, find_hit (i := 3) (by omega) HF.out (hf.out)]
                    simp only [Bool.false_eq_true, if_false, Prod.mk.injEq, true_and]
                    have := Hq.out; omega
                  go_wp2
                  exact bodyPost_ret (v := .tuple #[.string ⟨#[]⟩, .int .i64 0, .int .i64 (q : Int)]) (by simp [results, Try.results38, go_sem]) rfl ⟨by rw [HR.out]; rfl, rfl⟩
        · have hqs' : (s.size : Int) ≤ q := by omega
          have HR : Hid (partR s k 4 (fit4 s k) = (⟨#[]⟩, 0, (s.size : Int))) := by
            show _ = _
            rw [partR, He.out, find_hit h3 HF.out (nofit_4 (by have := Hq.out; omega) h3)]
            simp only [Bool.false_eq_true, if_false, Prod.mk.injEq, true_and]
            have := Hq.out; omega
          go_wp2
          exact bodyPost_ret (v := .tuple #[.string ⟨#[]⟩, .int .i64 0, .int .i64 (s.size : Int)]) (by simp [results, Try.results38, go_sem]) rfl ⟨by rw [HR.out]; rfl, rfl⟩
      · obtain rfl : i = 4 := by omega
        obtain ⟨q, Hq, hq⟩ : ∃ q : Nat, Hid (k + 4 = q) ∧ (k : Int) + 4 = q := ⟨k + 4, rfl, by omega⟩
        have hqs' : (q : Int) ≤ s.size := by have := Hq.out; omega
        have hkq : (k : Int) ≤ q := by have := Hq.out; omega
        have HR : Hid (partR s k 4 (fit4 s k) = (s.extract k q, (q : Int), -1)) := by
          show _ = _
          rw [partR, He.out, find_none HF.out, ← Hq.out]
          simp
        clear hki
        go_wp2
        exact bodyPost_ret (v := .tuple #[.string (s.extract k q), .int .i64 (q : Int), .int .i64 (-1)]) (by simp [results, Try.results38, go_sem]) rfl ⟨by rw [HR.out]; rfl, rfl⟩
  · have q1 : (s.size : Int) = (k : Int) := by omega
    have HR : Hid (partR s k 4 (fit4 s k) = (⟨#[]⟩, 0, (k : Int))) := by
      show _ = _
      rw [partR, He.out, find_hit (i := 0) (by omega) (fun j hj => by omega) (nofit_4 (by omega) (by omega))]
      simp
    have hk37 : (k : Int) ≤ 37 := by omega
    clear hlt hk hs
    go_enter Try.func38, Try.ntmps38
    go_wp2
    go_loop [9] (fun c => c = .int .i64 0) (fun _ => 0)
    case atStart => rfl
    case round =>
      obtain rfl := hrel
      go_wp2
      exact bodyPost_ret (v := .tuple #[.string ⟨#[]⟩, .int .i64 0, .int .i64 (k : Int)]) (by simp [results, Try.results38, go_sem]) rfl ⟨by rw [HR.out]; rfl, rfl⟩
end Go.Proofs.Ytbekjlinnbmpgaa.Km4
