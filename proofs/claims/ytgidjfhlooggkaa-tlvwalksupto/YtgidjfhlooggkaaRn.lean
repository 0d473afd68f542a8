/- The document's numbers as bytes. -/
import Derived.Test.YtgidjfhlooggkaaRr
namespace Go.Proofs.Ytgidjfhlooggkaa.Rn
set_option linter.unusedVariables false
set_option linter.unusedSimpArgs false
open Go.RowKit Kb Ga Gb Gc Gd Nt Gf Gg Nb
def nB : Int → Nat → List UInt8
  | _, 0 => []
  | n, k + 1 => nB (n / 256) k ++ [b8 n]
theorem nB_len : ∀ (k : Nat) (n : Int), (nB n k).length = k
  | 0, n => rfl
  | k + 1, n => by simp [nB, nB_len k]
theorem own_byte (w : World) (x : Int) (h : 0 ≤ x) (h2 : x < 256) : (w.alloc (.cells #[.int .u8 x] 5)).ownsRow 0 5 1 (.slice (some ⟨w.heap.size, 0, none⟩) 1 1) 1 (Lib.byteCells [b8 x]) := by
  have e : Lib.byteCells [b8 x] = [.int .u8 x] := by
    rw [Gc.byte_one (b8 x) x (by rw [b8_val]; omega)]
  refine ⟨rfl, .inr ⟨w.heap.size, 1, #[.int .u8 x], rfl, Nat.zero_le _, heap_alloc_new w _, Nat.le_refl _, by unfold maxLen; omega, rfl, ?_⟩⟩
  rw [e]
  rfl
set_option maxRecDepth 100000 in
set_option maxHeartbeats 1600000 in
theorem number_doc (n : Int) (B : Nat) (w : World) (h0 : 0 ≤ n) (h1 : n ≤ 9223372036854775807) (hB : B ≤ 8) :
    Calls Try.prog 54 #[.int .i64 n, .int .i64 (B : Int)] w fun e w' => e = .returned (.string ⟨(nB n B).toArray⟩) ∧ Below w.heap.size w w' := by
  obtain ⟨R, HR⟩ : ∃ R, Hid (nB n B = R) := ⟨_, rfl⟩
  have HL : Hid (R.length = B) := by show _ = _; rw [← HR.out]; exact nB_len B n
  rw [HR.out]
  go_enter Try.func54, Try.ntmps54
  go_wp2
  go_loopw [0, 5, 6] (fun vn vs vi wr => ∃ (i : Nat) (m : Int) (E : List UInt8) (S : ByteArray), i ≤ B ∧ vi = .int .i64 (i : Int) ∧ vn = .int .i64 m ∧ 0 ≤ m ∧ m ≤ 9223372036854775807 ∧ vs = .string S ∧ Hid (S = ⟨E.toArray⟩ ∧ nB m (B - i) ++ E = R) ∧ S.size ≤ i ∧ Below w.heap.size w wr) (fun _ _ vi _ => B - (intOf vi).toNat)
  case atStart => exact ⟨0, n, [], ⟨#[]⟩, Nat.zero_le _, rfl, rfl, h0, h1, rfl, ⟨rfl, by rw [Nat.sub_zero, List.append_nil]; exact HR.out⟩, Nat.zero_le _, Below.refl _ _⟩
  case round =>
    obtain ⟨i, m, E, S, hi, rfl, rfl, m0, m1, rfl, HS, hsz, hwr⟩ := hrel
    rename World => wr
    by_cases hlt : i < B
    · have hlt' : (i : Int) < (B : Int) := by omega
      have x0 : 0 ≤ m % 256 := by omega
      have x1 : m % 256 < 256 := by omega
      have OB := own_byte wr (m % 256) x0 x1
      have hcv : (convert 81 9 (.slice (some ⟨wr.heap.size, 0, none⟩) 1 1)).run Try.prog (wr.alloc (.cells #[.int .u8 (m % 256)] 5)) = .ok (.string ⟨[b8 (m % 256)].toArray⟩) (wr.alloc (.cells #[.int .u8 (m % 256)] 5)) :=
        Lib0.run_str Try.underlying81 Try.underlying5 Try.underlying9 OB
      have b1 := below_one wr (.cells #[.int .u8 (m % 256)] 5)
      have HS2 : Hid ((⟨[b8 (m % 256)].toArray⟩ : ByteArray) ++ S = ⟨(b8 (m % 256) :: E).toArray⟩ ∧ nB (m / 256) (B - (i + 1)) ++ (b8 (m % 256) :: E) = R) := by
        refine ⟨?_, ?_⟩
        · rw [HS.out.1]
          apply ByteArray.ext
          simp
        · rw [← HS.out.2, show B - i = (B - (i + 1)) + 1 by omega]
          simp only [nB]
          rw [show b8 (m % 256) = b8 m from by
            have e1 := b8_val (m % 256)
            have e2 := b8_val m
            exact UInt8.toNat_inj.1 (by omega)]
          simp
      obtain ⟨S1, HS1⟩ : ∃ S1 : ByteArray, Hid ((⟨[b8 (m % 256)].toArray⟩ : ByteArray) = S1) := ⟨_, rfl⟩
      have hs1 : S1.size = 1 := by rw [← HS1.out]; rfl
      rw [HS1.out] at hcv HS2
      clear HS OB
      go_wp2
      refine ⟨⟨i + 1, m / 256, b8 (m % 256) :: E, S1 ++ S, by omega, by go_num, rfl, by omega, by omega, rfl, HS2, by rw [ByteArray.size_append]; omega, keepB hwr b1⟩, by simp [intOf]; omega⟩
    · have hlt' : ¬ (i : Int) < (B : Int) := by omega
      have HE : Hid (S = ⟨R.toArray⟩) := by
        show _ = _
        rw [HS.out.1, ← HS.out.2, show B - i = 0 by omega]
        rfl
      clear HS
      go_wp2
      go_ret
      exact ⟨by rw [← HE.out]; rfl, hwr⟩
theorem nB1 (n : Int) : nB n 1 = [b8 n] := rfl
theorem nB2 (n : Int) : nB n 2 = [b8 (n / 256), b8 n] := rfl
theorem cat2 (a b : List UInt8) : (⟨a.toArray⟩ : ByteArray) ++ ⟨b.toArray⟩ = ⟨(a ++ b).toArray⟩ := by
  apply ByteArray.ext
  simp
set_option maxRecDepth 100000 in
set_option maxHeartbeats 1600000 in
theorem length_doc (n : Int) (w : World) (h0 : 0 ≤ n) (h1 : n ≤ 65535) :
    Calls Try.prog 71 #[.int .i64 n] w fun e w' => e = .returned (.string ⟨(lnB n).toArray⟩) ∧ Below w.heap.size w w' := by
  obtain ⟨R, HR⟩ : ∃ R : ByteArray, Hid ((⟨(lnB n).toArray⟩ : ByteArray) = R) := ⟨_, rfl⟩
  rw [HR.out]
  by_cases c1 : n < 128
  · have k1 := fun y => number_doc n 1 y h0 (by omega) (by omega)
    rw [show (⟨(nB n 1).toArray⟩ : ByteArray) = R by rw [← HR.out, nB1]; unfold lnB; rw [if_pos (by omega)]] at k1
    go_enter Try.func71, Try.ntmps71
    go_wp2_with fail
    refine (k1 _).mono ?_
    rintro _ y ⟨rfl, hy⟩
    go_wp2
    go_ret
    exact ⟨rfl, hy⟩
  · by_cases c2 : n < 256
    · have k1 := fun y => number_doc n 1 y h0 (by omega) (by omega)
      have k2 := fun y => number_doc 129 1 y (by omega) (by omega) (by omega)
      obtain ⟨A, HA⟩ : ∃ A : ByteArray, Hid ((⟨(nB 129 1).toArray⟩ : ByteArray) = A) := ⟨_, rfl⟩
      obtain ⟨B, HB⟩ : ∃ B : ByteArray, Hid ((⟨(nB n 1).toArray⟩ : ByteArray) = B) := ⟨_, rfl⟩
      have HC : Hid (A ++ B = R) := by
        show _ = _
        rw [← HR.out, ← HA.out, ← HB.out, cat2, nB1, nB1]
        unfold lnB
        rw [if_neg (by omega), if_pos (by omega)]
        rfl
      have sA : A.size = 1 := by rw [← HA.out]; rfl
      have sB : B.size = 1 := by rw [← HB.out]; rfl
      rw [HB.out] at k1
      rw [HA.out] at k2
      go_enter Try.func71, Try.ntmps71
      go_wp2_with fail
      refine (k2 _).mono ?_
      rintro _ y ⟨rfl, hy⟩
      go_wp2_with fail
      refine (k1 _).mono ?_
      rintro _ y2 ⟨rfl, hy2⟩
      go_wp2
      go_ret
      exact ⟨by rw [← HC.out]; rfl, keepB hy hy2⟩
    · have k1 := fun y => number_doc n 2 y h0 (by omega) (by omega)
      have k2 := fun y => number_doc 130 1 y (by omega) (by omega) (by omega)
      obtain ⟨A, HA⟩ : ∃ A : ByteArray, Hid ((⟨(nB 130 1).toArray⟩ : ByteArray) = A) := ⟨_, rfl⟩
      obtain ⟨B, HB⟩ : ∃ B : ByteArray, Hid ((⟨(nB n 2).toArray⟩ : ByteArray) = B) := ⟨_, rfl⟩
      have HC : Hid (A ++ B = R) := by
        show _ = _
        rw [← HR.out, ← HA.out, ← HB.out, cat2, nB1, nB2]
        unfold lnB
        rw [if_neg (by omega), if_neg (by omega)]
        rfl
      have sA : A.size = 1 := by rw [← HA.out]; rfl
      have sB : B.size = 2 := by rw [← HB.out]; rfl
      rw [HB.out] at k1
      rw [HA.out] at k2
      go_enter Try.func71, Try.ntmps71
      go_wp2_with fail
      refine (k2 _).mono ?_
      rintro _ y ⟨rfl, hy⟩
      go_wp2_with fail
      refine (k1 _).mono ?_
      rintro _ y2 ⟨rfl, hy2⟩
      go_wp2
      go_ret
      exact ⟨by rw [← HC.out]; rfl, keepB hy hy2⟩
end Go.Proofs.Ytgidjfhlooggkaa.Rn
