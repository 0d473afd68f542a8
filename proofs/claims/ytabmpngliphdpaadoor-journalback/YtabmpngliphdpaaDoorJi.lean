/- journal.writeNumbers. -/
import Derived.Test.YtabmpngliphdpaaDoorBd
namespace Go.Proofs.YtabmpngliphdpaaDoor.Ji
set_option linter.unusedVariables false
set_option linter.unusedSimpArgs false
open Go.RowKit Lib0 Kb Bd
attribute [local go_sem] Oper.semAt_some
/-- 2n, or -2n - 1 -/
def zz (n : Int) : Nat := if n < 0 then (-2 * n - 1).toNat else (2 * n).toNat
def encU : Nat → Nat → List UInt8
  | 0, u => [UInt8.ofNat u]
  | k + 1, u => if u < 128 then [UInt8.ofNat u] else UInt8.ofNat (u % 128 + 128) :: encU k (u / 128)
def encN (n : Int) : List UInt8 := encU 9 (zz n)
def encL (L : List Int) : List UInt8 := L.flatMap encN
theorem flip64 (c : Nat) (h : c < 18446744073709551616) : c ^^^ 18446744073709551615 = 18446744073709551615 - c := by
  apply Nat.eq_of_testBit_eq
  intro i
  rw [Nat.testBit_xor, show 18446744073709551615 - c = 2 ^ 64 - (c + 1) by omega, Nat.testBit_two_pow_sub_succ h, show (18446744073709551615 : Nat) = 2 ^ 64 - 1 from rfl, Nat.testBit_two_pow_sub_one]
  by_cases hi : i < 64
  · simp [hi]
  · have : c.testBit i = false := Nat.testBit_lt_two_pow (Nat.lt_of_lt_of_le (show c < 2 ^ 64 from h) (Nat.pow_le_pow_right (n := 2) (by decide) (show 64 ≤ i by omega)))
    simp [hi, this]
theorem or128_fin : ∀ c : Fin 256, bits .or .u8 (c.val : Int) 128 = ((c.val % 128 + 128 : Nat) : Int) := by decide +kernel
theorem or128 (a : Nat) (h : a < 256) : bits .or .u8 (a : Int) 128 = ((a % 128 + 128 : Nat) : Int) := or128_fin ⟨a, h⟩
theorem zz_lt (n : Int) (h : -9223372036854775808 ≤ n ∧ n ≤ 9223372036854775807) : zz n < 18446744073709551616 := by
  unfold zz; split <;> omega
theorem encU_len : ∀ k u, (encU k u).length ≤ k + 1
  | 0, u => by simp [encU]
  | k + 1, u => by
    rw [encU]; split
    · simp
    · have := encU_len k (u / 128); simp; omega
theorem encL_len : ∀ L, (encL L).length ≤ L.length * 10
  | [] => by simp [encL]
  | n :: L => by
    have h1 := encU_len 9 (zz n)
    have h2 := encL_len L
    show (encN n ++ encL L).length ≤ _
    rw [List.length_append, List.length_cons]
    unfold encN; omega
theorem encL_snoc (L : List Int) (i : Nat) (h : i < L.length) : encL (L.take (i + 1)) = encL (L.take i) ++ encN L[i] := by
  unfold encL
  rw [List.take_succ_eq_append_getElem h, List.flatMap_append]; simp
set_option maxRecDepth 100000 in
set_option maxHeartbeats 3200000 in
theorem writeNumbers_any {w : World} {B b : Nat} {l : List UInt8} (h : Is w B b l) (g : Nat) (L : List Int) (hrow : w.heap[g]? = some (.cells (L.map (Value.int .i64)).toArray 3 (0, 0))) (hL : ∀ n ∈ L, -9223372036854775808 ≤ n ∧ n ≤ 9223372036854775807) (hN : L.length ≤ 1000) (hl : l.length ≤ 35184372088832) :
    Calls Tryd.prog 55 #[.pointer (some ⟨b, 0, none⟩), .slice (some ⟨g, 0, none⟩) L.length L.length] w fun e w' => e = .returned (.tuple #[]) ∧ Is w' B b (l ++ encL L) ∧ Ch B w w' := by
  obtain ⟨N, HN⟩ : ∃ N, Hid (L.length = N) := ⟨_, rfl⟩
  rw [HN.out]
  have HH : Hid (Is w B b l) := h
  have HR : Hid (w.heap[g]? = some (.cells (L.map (Value.int .i64)).toArray 3 (0, 0))) := hrow
  have HL : Hid (∀ n ∈ L, -9223372036854775808 ≤ n ∧ n ≤ 9223372036854775807) := hL
  have HS : Hid (L.length ≤ 1000 ∧ l.length ≤ 35184372088832) := ⟨hN, hl⟩
  clear h hrow hL hN hl
  go_enter Tryd.func55, Tryd.ntmps55
  go_wp2_with fail
  go_loopw [5, 6, 9] (fun _ _ iv wr => ∃ i : Nat, iv = .int .i64 (i : Int) ∧ Hid (i ≤ N) ∧ Hid (Is wr B b (l ++ encL (L.take i)) ∧ Ch B w wr)) (fun _ _ iv _ => N + 1 - (intOf iv).toNat)
  case atStart => exact ⟨0, rfl, Nat.zero_le _, by rw [List.take_zero]; simpa [encL] using HH.out, Ch.refl _ _⟩
  case round =>
    obtain ⟨i, rfl, HI, HW⟩ := hrel
    by_cases hlt : i < N
    · have hiL : i < L.length := by rw [HN.out]; exact hlt
      have hgr := ch_on HW.out.2 HR.out (by decide) (by decide)
      have hnb := HL.out L[i] (List.getElem_mem hiL)
      have hsn := encL_snoc L i hiL
      have c0 : wr.cell? ⟨g, i, none⟩ = some (.int .i64 L[i]) := by simp [World.cell?, hgr, hiL]
      obtain ⟨n, hn⟩ : ∃ n, L[i] = n := ⟨_, rfl⟩
      rw [hn] at hnb hsn c0
      have q1 : (i : Int) < (N : Int) := by omega
      have q2 : (0 : Int) ≤ (i : Int) := by omega
      have q3 : (i : Int) + 1 ≤ 9223372036854775807 := by have := HS.out.1; have := HN.out; omega
      have HLT : Hid (i < N) := hlt
      obtain ⟨wq, ew⟩ : ∃ x, x = wr := ⟨_, rfl⟩
      subst ew
      have HSN : Hid (encL (L.take (i + 1)) = encL (L.take i) ++ encN n) := hsn
      clear hn hgr hiL hlt hsn
      have HZ : Hid (zz n < 18446744073709551616) := zz_lt n hnb
      by_cases hneg : n < 0
      · have hz : zz n = 18446744073709551615 - (2 * n + 18446744073709551616).toNat := by unfold zz; rw [if_pos hneg]; omega
        have wr64 : ∀ z : Int, IntKind.u64.wrap z = z % 18446744073709551616 := fun z => by
          first
            | rfl
            | (simp [IntKind.wrap, IntKind.signed, IntKind.bits])
        have g1 : IntKind.u64.wrap n = (((n + 18446744073709551616).toNat : Nat) : Int) := by rw [wr64]; omega
        have g2 : IntKind.u64.wrap ((((n + 18446744073709551616).toNat : Nat) : Int) * 2) = (((2 * n + 18446744073709551616).toNat : Nat) : Int) := by rw [wr64]; omega
        have hm2 : (2 * n + 18446744073709551616).toNat < 18446744073709551616 := by omega
        have g3 : bits .xor .u64 (if IntKind.u64.signed = true then -1 else IntKind.u64.max) (((2 * n + 18446744073709551616).toNat : Nat) : Int) = ((zz n : Nat) : Int) := by
          have h9 := u64_xor_nat 18446744073709551615 _ (by decide) hm2
          rw [show (if IntKind.u64.signed = true then (-1 : Int) else IntKind.u64.max) = ((18446744073709551615 : Nat) : Int) from rfl, h9, hz, Nat.xor_comm, flip64 _ hm2]
        obtain ⟨m1, hm1⟩ : ∃ m, (n + 18446744073709551616).toNat = m := ⟨_, rfl⟩
        obtain ⟨m2, hmm2⟩ : ∃ m, (2 * n + 18446744073709551616).toNat = m := ⟨_, rfl⟩
        rw [hm1] at g1 g2
        rw [hmm2] at g2 g3
        have q4 : decide (n < 0) = true := decide_eq_true hneg
        clear hz hm2 hm1 hmm2 hneg hnb wr64
        go_wp2_with fail
        go_loopw [6] (fun uv wr => ∃ (k U : Nat) (pre : List UInt8), uv = .int .u64 (U : Int) ∧ Hid (U < 128 ^ (k + 1) ∧ U < 18446744073709551616 ∧ pre.length + k ≤ 9 ∧ pre ++ encU k U = encN n) ∧ Hid (Is wr B b (l ++ encL (L.take i) ++ pre) ∧ Ch B w wr)) (fun uv _ => (intOf uv).toNat)
        case atStart => exact ⟨9, zz n, [], rfl, ⟨Nat.lt_of_lt_of_le HZ.out (by decide), HZ.out, by simp, rfl⟩, by rw [List.append_nil]; exact HW.out⟩
        case round =>
          obtain ⟨k, U, pre, rfl, HU, HV⟩ := hrel
          have hlen : (l ++ encL (L.take i) ++ pre).length ≤ 70368744177664 := by
            have h1 := encL_len (L.take i)
            rw [List.length_take] at h1
            rw [List.length_append, List.length_append]
            have := HS.out; have := HU.out.2.2.1
            omega
          have HLN : Hid _ := hlen
          have hU64 := HU.out.2.1
          by_cases hU : 128 ≤ U
          · obtain ⟨k', rfl⟩ : ∃ k', k = k' + 1 := by
              cases k with
              | zero => have := HU.out.1; omega
              | succ k' => exact ⟨k', rfl⟩
            have hor := or128 (U % 256) (Nat.mod_lt _ (by decide))
            have hm : U % 256 % 128 = U % 128 := by omega
            rw [hm] at hor
            have HE : Hid (U / 128 < 128 ^ (k' + 1) ∧ U / 128 < 18446744073709551616 ∧ (pre ++ [UInt8.ofNat (U % 128 + 128)]).length + k' ≤ 9 ∧ (pre ++ [UInt8.ofNat (U % 128 + 128)]) ++ encU k' (U / 128) = encN n) := by
              have h9 := HU.out
              refine ⟨?_, by omega, by rw [List.length_append, List.length_singleton]; omega, ?_⟩
              · rw [Nat.div_lt_iff_lt_mul (by decide), ← Nat.pow_succ]; exact h9.1
              · rw [← h9.2.2.2, encU, if_neg (by omega)]; simp
            have HWB : Hid (Calls Tryd.prog 70 #[.pointer (some ⟨b, 0, none⟩), .int .u8 ((U % 128 + 128 : Nat) : Int)] wr fun e w' => e = .returned .nilIface ∧ Is w' B b (l ++ encL (L.take i) ++ pre ++ [UInt8.ofNat (U % 128 + 128)]) ∧ Ch B wr w') := writeByte_any HV.out.1 (UInt8.ofNat (U % 128 + 128)) _ (by simp; omega) HLN.out
            have g1 : (U : Int) % 256 = ((U % 256 : Nat) : Int) := by omega
            have g2 : (U : Int) / 128 = ((U / 128 : Nat) : Int) := by omega
            have HDV : Hid (U / 128 < U) := by show U / 128 < U; omega
            obtain ⟨m, hmm⟩ : ∃ m, U % 256 = m := ⟨_, rfl⟩
            obtain ⟨c8, hc8⟩ : ∃ c, U % 128 + 128 = c := ⟨_, rfl⟩
            obtain ⟨d, hd⟩ : ∃ d, U / 128 = d := ⟨_, rfl⟩
            rw [hmm] at g1 hor
            rw [hc8] at hor HWB HE
            rw [hd] at g2 HE HDV
            have q5 : (128 : Int) ≤ (U : Int) := by omega
            clear hm hmm hc8 hd hlen hU64 hU
            go_wp2_with fail
            refine HWB.out.mono ?_
            rintro e y ⟨rfl, hy1, hy2⟩
            have HY : Hid (Is y B b (l ++ encL (L.take i) ++ (pre ++ [UInt8.ofNat c8])) ∧ Ch B w y) := ⟨by rw [← List.append_assoc]; exact hy1, HV.out.2.trans hy2⟩
            clear hy1 hy2
            go_wp2_with fail
            refine ⟨⟨k', d, _, rfl, HE.out, HY.out⟩, ?_⟩
            have := HDV.out
            simp only [intOf]; omega
          · have hen : encU k U = [UInt8.ofNat U] := by
              cases k with
              | zero => rfl
              | succ k' => rw [encU, if_pos (by omega)]
            have HE : Hid (l ++ encL (L.take i) ++ pre ++ [UInt8.ofNat U] = l ++ encL (L.take (i + 1))) := by
              have h9 := HU.out.2.2.2
              rw [hen] at h9
              show _ = _
              rw [HSN.out, ← h9]; simp
            have HWB : Hid (Calls Tryd.prog 70 #[.pointer (some ⟨b, 0, none⟩), .int .u8 (U : Int)] wr fun e w' => e = .returned .nilIface ∧ Is w' B b (l ++ encL (L.take i) ++ pre ++ [UInt8.ofNat U]) ∧ Ch B wr w') := writeByte_any HV.out.1 (UInt8.ofNat U) _ (by simp; omega) HLN.out
            obtain ⟨U2, hU2⟩ : ∃ U2 : Nat, U = U2 := ⟨U, rfl⟩
            have g1 : (U : Int) % 256 = (U2 : Int) := by omega
            rw [show ((U : Nat) : Int) = (U2 : Int) by rw [hU2], show UInt8.ofNat U = UInt8.ofNat U2 by rw [hU2]] at HWB
            rw [show UInt8.ofNat U = UInt8.ofNat U2 by rw [hU2]] at HE
            have q5 : decide ((128 : Int) ≤ (U : Int)) = false := decide_eq_false (by omega)
            clear hen hlen hU64 hU hU2
            go_wp2_with fail
            refine HWB.out.mono ?_
            rintro e y ⟨rfl, hy1, hy2⟩
            have HY : Hid (Is y B b (l ++ encL (L.take (i + 1))) ∧ Ch B w y) := ⟨by rw [← HE.out]; exact hy1, HV.out.2.trans hy2⟩
            clear hy1 hy2
            go_wp2_with fail
            refine ⟨⟨i + 1, by simp, by have := HLT.out; show i + 1 ≤ N; omega, HY.out⟩, ?_⟩
            have := HLT.out
            simp only [intOf]; omega
      · have g0 : n * 2 = ((zz n : Nat) : Int) := by unfold zz; rw [if_neg hneg]; omega
        have q4 : (0 : Int) ≤ n := by omega
        go_wp2_with fail
        go_loopw [6] (fun uv wr => ∃ (k U : Nat) (pre : List UInt8), uv = .int .u64 (U : Int) ∧ Hid (U < 128 ^ (k + 1) ∧ U < 18446744073709551616 ∧ pre.length + k ≤ 9 ∧ pre ++ encU k U = encN n) ∧ Hid (Is wr B b (l ++ encL (L.take i) ++ pre) ∧ Ch B w wr)) (fun uv _ => (intOf uv).toNat)
        case atStart => exact ⟨9, zz n, [], rfl, ⟨Nat.lt_of_lt_of_le HZ.out (by decide), HZ.out, by simp, rfl⟩, by rw [List.append_nil]; exact HW.out⟩
        case round =>
          obtain ⟨k, U, pre, rfl, HU, HV⟩ := hrel
          have hlen : (l ++ encL (L.take i) ++ pre).length ≤ 70368744177664 := by
            have h1 := encL_len (L.take i)
            rw [List.length_take] at h1
            rw [List.length_append, List.length_append]
            have := HS.out; have := HU.out.2.2.1
            omega
          have HLN : Hid _ := hlen
          have hU64 := HU.out.2.1
          by_cases hU : 128 ≤ U
          · obtain ⟨k', rfl⟩ : ∃ k', k = k' + 1 := by
              cases k with
              | zero => have := HU.out.1; omega
              | succ k' => exact ⟨k', rfl⟩
            have hor := or128 (U % 256) (Nat.mod_lt _ (by decide))
            have hm : U % 256 % 128 = U % 128 := by omega
            rw [hm] at hor
            have HE : Hid (U / 128 < 128 ^ (k' + 1) ∧ U / 128 < 18446744073709551616 ∧ (pre ++ [UInt8.ofNat (U % 128 + 128)]).length + k' ≤ 9 ∧ (pre ++ [UInt8.ofNat (U % 128 + 128)]) ++ encU k' (U / 128) = encN n) := by
              have h9 := HU.out
              refine ⟨?_, by omega, by rw [List.length_append, List.length_singleton]; omega, ?_⟩
              · rw [Nat.div_lt_iff_lt_mul (by decide), ← Nat.pow_succ]; exact h9.1
              · rw [← h9.2.2.2, encU, if_neg (by omega)]; simp
            have HWB : Hid (Calls Tryd.prog 70 #[.pointer (some ⟨b, 0, none⟩), .int .u8 ((U % 128 + 128 : Nat) : Int)] wr fun e w' => e = .returned .nilIface ∧ Is w' B b (l ++ encL (L.take i) ++ pre ++ [UInt8.ofNat (U % 128 + 128)]) ∧ Ch B wr w') := writeByte_any HV.out.1 (UInt8.ofNat (U % 128 + 128)) _ (by simp; omega) HLN.out
            have g1 : (U : Int) % 256 = ((U % 256 : Nat) : Int) := by omega
            have g2 : (U : Int) / 128 = ((U / 128 : Nat) : Int) := by omega
            have HDV : Hid (U / 128 < U) := by show U / 128 < U; omega
            obtain ⟨m, hmm⟩ : ∃ m, U % 256 = m := ⟨_, rfl⟩
            obtain ⟨c8, hc8⟩ : ∃ c, U % 128 + 128 = c := ⟨_, rfl⟩
            obtain ⟨d, hd⟩ : ∃ d, U / 128 = d := ⟨_, rfl⟩
            rw [hmm] at g1 hor
            rw [hc8] at hor HWB HE
            rw [hd] at g2 HE HDV
            have q5 : (128 : Int) ≤ (U : Int) := by omega
            clear hm hmm hc8 hd hlen hU64 hU
            go_wp2_with fail
            refine HWB.out.mono ?_
            rintro e y ⟨rfl, hy1, hy2⟩
            have HY : Hid (Is y B b (l ++ encL (L.take i) ++ (pre ++ [UInt8.ofNat c8])) ∧ Ch B w y) := ⟨by rw [← List.append_assoc]; exact hy1, HV.out.2.trans hy2⟩
            clear hy1 hy2
            go_wp2_with fail
            refine ⟨⟨k', d, _, rfl, HE.out, HY.out⟩, ?_⟩
            have := HDV.out
            simp only [intOf]; omega
          · have hen : encU k U = [UInt8.ofNat U] := by
              cases k with
              | zero => rfl
              | succ k' => rw [encU, if_pos (by omega)]
            have HE : Hid (l ++ encL (L.take i) ++ pre ++ [UInt8.ofNat U] = l ++ encL (L.take (i + 1))) := by
              have h9 := HU.out.2.2.2
              rw [hen] at h9
              show _ = _
              rw [HSN.out, ← h9]; simp
            have HWB : Hid (Calls Tryd.prog 70 #[.pointer (some ⟨b, 0, none⟩), .int .u8 (U : Int)] wr fun e w' => e = .returned .nilIface ∧ Is w' B b (l ++ encL (L.take i) ++ pre ++ [UInt8.ofNat U]) ∧ Ch B wr w') := writeByte_any HV.out.1 (UInt8.ofNat U) _ (by simp; omega) HLN.out
            obtain ⟨U2, hU2⟩ : ∃ U2 : Nat, U = U2 := ⟨U, rfl⟩
            have g1 : (U : Int) % 256 = (U2 : Int) := by omega
            rw [show ((U : Nat) : Int) = (U2 : Int) by rw [hU2], show UInt8.ofNat U = UInt8.ofNat U2 by rw [hU2]] at HWB
            rw [show UInt8.ofNat U = UInt8.ofNat U2 by rw [hU2]] at HE
            have q5 : decide ((128 : Int) ≤ (U : Int)) = false := decide_eq_false (by omega)
            clear hen hlen hU64 hU hU2
            go_wp2_with fail
            refine HWB.out.mono ?_
            rintro e y ⟨rfl, hy1, hy2⟩
            have HY : Hid (Is y B b (l ++ encL (L.take (i + 1))) ∧ Ch B w y) := ⟨by rw [← HE.out]; exact hy1, HV.out.2.trans hy2⟩
            clear hy1 hy2
            go_wp2_with fail
            refine ⟨⟨i + 1, by simp, by have := HLT.out; show i + 1 ≤ N; omega, HY.out⟩, ?_⟩
            have := HLT.out
            simp only [intOf]; omega
    · obtain rfl : i = N := by have := HI.out; omega
      have HF : Hid (Is wr B b (l ++ encL L) ∧ Ch B w wr) := by
        have := HW.out
        rw [List.take_of_length_le (by rw [HN.out]; exact Nat.le_refl _)] at this
        exact this
      have q1 : (i : Int) ≤ (i : Int) := by omega
      clear hlt
      go_wp2_with fail
      go_end0
      exact ⟨rfl, HF.out.1, HF.out.2⟩
end Go.Proofs.YtabmpngliphdpaaDoor.Ji
