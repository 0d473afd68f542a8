/- rotate. -/
import Derived.Test.YtaacocliclibgaaSc
namespace Go.Proofs.Ytaacocliclibgaa.Sr
set_option linter.unusedVariables false
open Go.RowKit Sl Kb So Sc
set_option maxRecDepth 100000 in
set_option maxHeartbeats 400000 in
theorem rotate_any (g n : Nat) (hn : n ≤ 1048576) (cv : Value) (a m b : Nat) (ham : a < m) (hmb : m < b) (hb : b ≤ n) (f : Nat → Nat) (w : World) (hR : Row w g n f) :
    Calls Try.prog 51 #[.slice (some ⟨g, 0, none⟩) n n, .int .i64 (a : Int), .int .i64 (m : Int), .int .i64 (b : Int), cv] w fun e w' => e = .returned (.tuple #[]) ∧ Only g w w' ∧ Row w' g n (rot f a m b) := by
  have HR : Hid (Row w g n f) := hR
  have HB : Hid (a < m ∧ m < b ∧ b ≤ n) := ⟨ham, hmb, hb⟩
  have a1 : (a : Int) < (m : Int) := by omega
  have m1 : (m : Int) < (b : Int) := by omega
  have b1 : (b : Int) ≤ 1048576 := by omega
  clear hR ham hmb hb
  go_enter Try.func51, Try.ntmps51
  go_wp2_with fail
  obtain ⟨i0, hi0⟩ : ∃ i0 : Nat, (m : Int) - (a : Int) = (i0 : Int) := ⟨m - a, by omega⟩
  obtain ⟨j0, hj0⟩ : ∃ j0 : Nat, (b : Int) - (m : Int) = (j0 : Int) := ⟨b - m, by omega⟩
  rw [hi0, hj0]
  have HIJ : Hid (m - a = i0 ∧ b - m = j0) := ⟨by omega, by omega⟩
  clear hi0 hj0
  go_loopw [10, 11] (fun vi vj wr => ∃ i j : Nat, vi = .int .i64 (i : Int) ∧ vj = .int .i64 (j : Int) ∧ Hid (1 ≤ i ∧ 1 ≤ j ∧ i ≤ m ∧ m + j ≤ n) ∧ Hid (Only g w wr ∧ ∃ c, Row wr g n c ∧ rot c (m - i) m (m + j) = rot f a m b)) (fun vi vj _ => (intOf vi).toNat + (intOf vj).toNat)
  case atStart =>
    obtain ⟨h1, h2⟩ := HIJ.out
    obtain ⟨h3, h4, h5⟩ := HB.out
    exact ⟨i0, j0, rfl, rfl, ⟨by omega, by omega, by omega, by omega⟩, Only.refl _ _, f, HR.out, by rw [show m - i0 = a by omega, show m + j0 = b by omega]⟩
  case round =>
    obtain ⟨i, j, rfl, rfl, HL, HI⟩ := hrel
    obtain ⟨l1, l2, l3, l4⟩ := HL.out
    obtain ⟨ho, c, hc, he⟩ := HI.out
    have hm2 : (m : Int) ≤ 1048576 := by omega
    obtain ⟨P, hP⟩ : ∃ P : Nat, P = m - i := ⟨_, rfl⟩
    have eP : (m : Int) - (i : Int) = (P : Int) := by omega
    have i1 : (1 : Int) ≤ (i : Int) := by omega
    have j1 : (1 : Int) ≤ (j : Int) := by omega
    have i2 : (i : Int) ≤ (m : Int) := by omega
    have j2 : (m : Int) + (j : Int) ≤ 1048576 := by omega
    by_cases hij : i = j
    · subst hij
      have ps := swapRange_any g n hn cv P m i (by omega) (by omega) c wr hc
      have HF : Hid (swR c P m i = rot f a m b) := by show _ = _; rw [hP, rot_even c m i (by omega), he]
      have HO : Hid (Only g w wr) := ho
      have ce : ((i : Int) != (i : Int)) = false := by simp
      clear hc he HL HI ho hP l1 l2 l3 l4
      go_wp2_with fail
      refine ps.mono ?_
      rintro e y ⟨rfl, h1, h2⟩
      go_wp2_with fail
      go_end0
      exact ⟨rfl, HO.out.trans h1, by rw [← HF.out]; exact h2⟩
    · have ce : ((i : Int) != (j : Int)) = true := by simp; omega
      by_cases hgt : j < i
      · have hg2 : (j : Int) < (i : Int) := by omega
        have ps := swapRange_any g n hn cv P m j (by omega) (by omega) c wr hc
        obtain ⟨I2, hI2⟩ : ∃ I2 : Nat, I2 = i - j := ⟨_, rfl⟩
        have eI : (i : Int) - (j : Int) = (I2 : Int) := by omega
        have HF : Hid (rot (swR c P m j) (m - I2) m (m + j) = rot f a m b ∧ 1 ≤ I2 ∧ I2 ≤ m ∧ I2 + j < i + j ∧ 1 ≤ j ∧ m + j ≤ n) := by
          refine ⟨?_, by omega, by omega, by omega, by omega, by omega⟩
          rw [hP, show m - I2 = m - i + j by omega, rot_more c m i j (by omega) hgt, he]
        have HO : Hid (Only g w wr) := ho
        clear hc he HL HI ho hP l1 l2 l3 l4 hI2 hij
        go_wp2_with fail
        refine ps.mono ?_
        rintro e y ⟨rfl, h1, h2⟩
        have H2 : Hid _ := h2
        have H1 : Hid _ := HO.out.trans h1
        clear h1 h2 ps
        go_wp2_with fail
        obtain ⟨f1, f2, f3, f4, f5, f6⟩ := HF.out
        exact ⟨⟨I2, j, rfl, rfl, ⟨f2, f5, f3, f6⟩, H1.out, _, H2.out, f1⟩, by simp only [intOf]; omega⟩
      · have hg2 : ¬ (j : Int) < (i : Int) := by omega
        obtain ⟨Q, hQ⟩ : ∃ Q : Nat, Q = m + j - i := ⟨_, rfl⟩
        have eQ : (m : Int) + (j : Int) - (i : Int) = (Q : Int) := by omega
        have ps := swapRange_any g n hn cv P Q i (by omega) (by omega) c wr hc
        obtain ⟨J2, hJ2⟩ : ∃ J2 : Nat, J2 = j - i := ⟨_, rfl⟩
        have eJ : (j : Int) - (i : Int) = (J2 : Int) := by omega
        have HF : Hid (rot (swR c P Q i) (m - i) m (m + J2) = rot f a m b ∧ 1 ≤ J2 ∧ m + J2 ≤ n ∧ i + J2 < i + j ∧ 1 ≤ i ∧ i ≤ m) := by
          refine ⟨?_, by omega, by omega, by omega, by omega, by omega⟩
          rw [hP, hQ, hJ2, rot_less c m i j (by omega) (by omega), he]
        have HO : Hid (Only g w wr) := ho
        clear hc he HL HI ho hP l1 l2 l3 l4 hJ2 hij hQ
        go_wp2_with fail
        refine ps.mono ?_
        rintro e y ⟨rfl, h1, h2⟩
        have H2 : Hid _ := h2
        have H1 : Hid _ := HO.out.trans h1
        clear h1 h2 ps
        go_wp2_with fail
        obtain ⟨f1, f2, f3, f4, f5, f6⟩ := HF.out
        exact ⟨⟨i, J2, rfl, rfl, ⟨f5, f2, f6, f3⟩, H1.out, _, H2.out, f1⟩, by simp only [intOf]; omega⟩
end Go.Proofs.Ytaacocliclibgaa.Sr
