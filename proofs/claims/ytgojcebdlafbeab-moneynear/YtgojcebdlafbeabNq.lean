/- The law's rate and places. -/
import Derived.Test.YtgojcebdlafbeabCx
import Derived.Test.YtgojcebdlafbeabNp
import Derived.Test.YtgojcebdlafbeabNm
namespace Go.Proofs.Ytgojcebdlafbeab.Nq
set_option linter.unusedVariables false
open Go.RowKit Kb Cp Pp Pc Mp Cv Ms Cw Cr Cx Np Nm
theorem ten_get (d : Nat) (h : d < 10) : (⟨#[48, 49, 50, 51, 52, 53, 54, 55, 56, 57]⟩ : ByteArray).extract d (d + 1) = ⟨#[UInt8.ofNat (48 + d)]⟩ := by
  have : ∀ m : Fin 10, ((⟨#[48, 49, 50, 51, 52, 53, 54, 55, 56, 57]⟩ : ByteArray).extract m.val (m.val + 1)).data = #[UInt8.ofNat (48 + m.val)] := by decide
  exact ByteArray.ext (this ⟨d, h⟩)
theorem eight_get (d : Nat) (h : d < 8) : (⟨#[48, 49, 50, 51, 52, 53, 54, 55]⟩ : ByteArray).extract d (d + 1) = ⟨#[UInt8.ofNat (48 + d)]⟩ := by
  have : ∀ m : Fin 8, ((⟨#[48, 49, 50, 51, 52, 53, 54, 55]⟩ : ByteArray).extract m.val (m.val + 1)).data = #[UInt8.ofNat (48 + m.val)] := by decide
  exact ByteArray.ext (this ⟨d, h⟩)
theorem one_app (c : UInt8) (l : List UInt8) : (⟨#[c]⟩ : ByteArray) ++ ⟨l.toArray⟩ = ⟨(c :: l).toArray⟩ := by
  apply ByteArray.ext
  rw [ByteArray.data_append]
  simp
set_option maxRecDepth 100000 in
set_option maxHeartbeats 400000 in
theorem rate_any (p n : Int) (p0 : 0 ≤ p) (p1 : p ≤ 7) (n0 : 0 ≤ n) (n1 : n < 10000000) (w : World) : Calls Try.prog 9 #[.int .i64 p, .int .i64 n] w fun e w' => e = .returned (.string ⟨(rtL p.toNat n.toNat).toArray⟩) ∧ w' = w := by
  go_enter Try.func9, Try.ntmps9
  go_wp2_with fail
  go_loop [1, 5, 6] (fun nn ss ii => ∃ (k : Nat) (N : Int) (S : ByteArray), nn = .int .i64 N ∧ ss = .string S ∧ ii = .int .i64 (k : Int) ∧ k ≤ 7 ∧ Hid (S = ⟨(dz k n.toNat).toArray⟩ ∧ N = ((n.toNat / 10 ^ k : Nat) : Int))) (fun _ _ ii => 7 - (intOf ii).toNat)
  case atStart => exact ⟨0, n, _, rfl, rfl, rfl, Nat.zero_le _, rfl, by simp; omega⟩
  case round =>
    obtain ⟨k, N, S, rfl, rfl, rfl, hk, HR⟩ := hrel
    have N0 : 0 ≤ N := by rw [HR.out.2]; exact Int.natCast_nonneg _
    have N1 : N < 10000000 := by
      have := Nat.div_le_self n.toNat (10 ^ k)
      have := HR.out.2
      omega
    have SZ : S.size ≤ 7 := by
      rw [HR.out.1]
      show (dz k n.toNat).toArray.size ≤ 7
      rw [List.size_toArray, dz_length]; exact hk
    by_cases hlt : k < 7
    · have q : (k : Int) < 7 := by omega
      obtain ⟨d, hd⟩ : ∃ d : Nat, N.tmod 10 = (d : Int) := ⟨(N.tmod 10).toNat, by have := Int.tmod_nonneg 10 N0; omega⟩
      have hd2 : N.tmod 10 = N % 10 := Int.tmod_eq_emod_of_nonneg N0
      have d1 : d < 10 := by omega
      have e10 : N % 10 = (d : Int) := by omega
      have q10 : N.tdiv 10 = N / 10 := Int.tdiv_eq_ediv_of_nonneg N0
      have HS : Hid ((⟨#[48, 49, 50, 51, 52, 53, 54, 55, 56, 57]⟩ : ByteArray).extract d (d + 1) ++ S = ⟨(dz (k + 1) n.toNat).toArray⟩ ∧ N / 10 = ((n.toNat / 10 ^ (k + 1) : Nat) : Int)) := by
        obtain ⟨h1, h2⟩ := HR.out
        constructor
        · rw [ten_get d d1, h1, one_app, dz, show n.toNat / 10 ^ k % 10 = d by omega]
        · rw [h2, Nat.pow_succ, ← Nat.div_div_eq_div_mul]; rfl
      go_wp2
      exact ⟨⟨k + 1, _, _, rfl, rfl, by go_num, by omega, HS⟩, by simp [intOf]; omega⟩
    · have q : ¬ (k : Int) < 7 := by omega
      obtain rfl : k = 7 := by omega
      obtain ⟨P, hP⟩ : ∃ P : Nat, p = (P : Int) := ⟨p.toNat, by omega⟩
      subst hP
      have HS : Hid ((⟨#[48, 49, 50, 51, 52, 53, 54, 55]⟩ : ByteArray).extract P (P + 1) ++ S = ⟨(rtL P n.toNat).toArray⟩) := by
        show _ = _
        rw [eight_get P (by omega), HR.out.1, one_app, rtL]
      have p2 : (P : Int) < 8 := by omega
      go_wp2
      go_ret
      exact ⟨by rw [← HS.out]; rfl, rfl⟩
set_option maxRecDepth 100000 in
set_option maxHeartbeats 400000 in
theorem places_law (s : ByteArray) (hs : s.size ≤ maxLen) (hk : plE s.data.toList = 0) (w : World) : Calls Try.prog 10 #[.string s] w fun e w' => e = .returned (.int .i64 (p10 (plV s.data.toList).toNat : Int)) ∧ Below w.heap.size w w' := by
  have pa := fun w => places_any s hs w
  rw [hk] at pa
  have vb := plV_bounds s.data.toList
  generalize plV s.data.toList = V at *
  go_enter Try.func10, Try.ntmps10
  go_wp2_with (go_at_call 13; refine (pa _).mono ?_; rintro e x ⟨rfl, hb⟩)
  have v0 := vb.1
  have v1 := vb.2
  clear vb pa hk
  go_loop [5, 6] (fun pp ii => ∃ (k : Nat) (P : Int), pp = .int .i64 P ∧ ii = .int .i64 (k : Int) ∧ (k : Int) ≤ V ∧ Hid (P = (p10 k : Int))) (fun _ ii => 3 - (intOf ii).toNat)
  case atStart => exact ⟨0, 1, rfl, rfl, by omega, rfl⟩
  case round =>
    obtain ⟨k, P, rfl, rfl, hk, HR⟩ := hrel
    obtain ⟨P0, P1⟩ : 1 ≤ P ∧ P ≤ 1000 := by
      have e1 := p10_pos k
      have e2 : (10 : Nat) ^ k ≤ 10 ^ 3 := Nat.pow_le_pow_right (by decide) (by omega)
      rw [show (10 : Nat) ^ k = p10 k from rfl] at e2
      have := HR.out
      omega
    by_cases hlt : (k : Int) < V
    · have k3 : (k : Int) < 3 := by omega
      have HS : Hid (10 * P = (p10 (k + 1) : Int)) := by show _ = _; rw [HR.out, p10_succ]; omega
      go_wp2
      exact ⟨⟨k + 1, _, rfl, by go_num, by omega, HS⟩, by simp [intOf]; omega⟩
    · have HV : Hid (P = (p10 V.toNat : Int)) := by show _ = _; rw [HR.out, show V.toNat = k by omega]
      go_wp2
      go_ret
      exact ⟨ret_int HV.out, hb⟩
end Go.Proofs.Ytgojcebdlafbeab.Nq
