/- journal.recordOf. -/
import Derived.Test.YtabmpngliphdpaaDoorKa
namespace Go.Proofs.YtabmpngliphdpaaDoor.Kd
set_option linter.unusedVariables false
set_option linter.unusedSimpArgs false
open Go.RowKit Go.Conc Lib0 Kb Ja Jb Jd
attribute [local go_sem] Oper.semAt_some
theorem wrap32 (n : Nat) : IntKind.u32.wrap (n : Int) = ((n % 4294967296 : Nat) : Int) := by
  rw [show IntKind.u32.wrap (n : Int) = (n : Int) % 4294967296 by simp [IntKind.wrap, IntKind.bits, IntKind.signed]]
  omega
/-- a record's bytes ahead of its sum -/
def recH (n : Nat) (b : ByteArray) : ByteArray := (⟨(w4 (n % 4294967296)).toArray⟩ ++ ⟨(w4 (b.size % 4294967296)).toArray⟩) ++ b
def recB (n : Nat) (b : ByteArray) : ByteArray := recH n b ++ ⟨(w4 (sumN (recH n b).data.toList)).toArray⟩
theorem recH_list (n : Nat) (b : ByteArray) : (recH n b).data.toList = w4 (n % 4294967296) ++ w4 (b.size % 4294967296) ++ b.data.toList := by
  simp [recH, ByteArray.data_append]
theorem recB_list (n : Nat) (b : ByteArray) : (recB n b).data.toList = w4 (n % 4294967296) ++ w4 (b.size % 4294967296) ++ b.data.toList ++ w4 (sumN (w4 (n % 4294967296) ++ w4 (b.size % 4294967296) ++ b.data.toList)) := by
  rw [show recB n b = recH n b ++ ⟨(w4 (sumN (recH n b).data.toList)).toArray⟩ from rfl, ByteArray.data_append, Array.toList_append, recH_list]
set_option maxRecDepth 100000 in
theorem recordOf_any (n : Nat) (hn : n ≤ 9223372036854775807) (b : ByteArray) (hb : b.size ≤ 4611686018427387000) (w : World) (hT : Hal w) :
    Calls Tryd.prog 37 #[.int .i64 (n : Int), .string b] w fun e w' => e = .returned (.string (recB n b)) ∧ Below w.heap.size w w' := by
  have HT : Hid (Hal w) := hT
  have w1 := wrap32 n
  have w2 := wrap32 b.size
  have h1 : n % 4294967296 < 4294967296 := Nat.mod_lt _ (by decide)
  have h2 : b.size % 4294967296 < 4294967296 := Nat.mod_lt _ (by decide)
  obtain ⟨N, hN⟩ : ∃ N, n % 4294967296 = N := ⟨_, rfl⟩
  obtain ⟨M, hM⟩ : ∃ M, b.size % 4294967296 = M := ⟨_, rfl⟩
  rw [hN] at w1 h1
  rw [hM] at w2 h2
  have h4 : ∀ q, (⟨(w4 q).toArray⟩ : ByteArray).size = 4 := fun q => rfl
  obtain ⟨A, hA⟩ : ∃ A, (⟨(w4 N).toArray⟩ : ByteArray) = A := ⟨_, rfl⟩
  obtain ⟨C, hC⟩ : ∃ C, (⟨(w4 M).toArray⟩ : ByteArray) = C := ⟨_, rfl⟩
  have hAs : A.size = 4 := hA ▸ h4 N
  have hCs : C.size = 4 := hC ▸ h4 M
  obtain ⟨Z, hZ⟩ : ∃ Z, A ++ C = Z := ⟨_, rfl⟩
  have hZs : Z.size = 8 := by rw [← hZ, ByteArray.size_append, hAs, hCs]
  obtain ⟨X, hX⟩ : ∃ X, Z ++ b = X := ⟨_, rfl⟩
  have hXs : X.size = 8 + b.size := by rw [← hX, ByteArray.size_append, hZs]
  have hRX : recH n b = X := by rw [← hX, ← hZ, ← hA, ← hC, ← hN, ← hM]; rfl
  have hsl : sumN X.data.toList < 4294967296 := lt_xor (fold_lt _) (by decide)
  obtain ⟨S, hS⟩ : ∃ S, sumN X.data.toList = S := ⟨_, rfl⟩
  obtain ⟨D, hD⟩ : ∃ D, (⟨(w4 S).toArray⟩ : ByteArray) = D := ⟨_, rfl⟩
  have hDs : D.size = 4 := hD ▸ h4 S
  have HR : Hid (recB n b = X ++ D) := by
    show recB n b = _
    rw [← hD, ← hS, ← hRX]; rfl
  have HN : Hid (N < 4294967296 ∧ M < 4294967296 ∧ S < 4294967296) := ⟨h1, h2, by rw [← hS]; exact hsl⟩
  have HW : Hid ((⟨(w4 N).toArray⟩ : ByteArray) = A ∧ (⟨(w4 M).toArray⟩ : ByteArray) = C ∧ (⟨(w4 S).toArray⟩ : ByteArray) = D) := ⟨hA, hC, hD⟩
  have HZ : Hid (A ++ C = Z) := hZ
  have HX : Hid (Z ++ b = X) := hX
  have HSM : Hid (sumN X.data.toList = S ∧ X.size ≤ 4611686018427387904) := ⟨hS, by rw [hXs]; omega⟩
  have p1 : (A.size : Int) + (C.size : Int) ≤ 9223372036854775807 := by rw [hAs, hCs]; decide
  have p2 : (Z.size : Int) + (b.size : Int) ≤ 9223372036854775807 := by rw [hZs]; omega
  have p3 : (X.size : Int) + (D.size : Int) ≤ 9223372036854775807 := by rw [hXs, hDs]; omega
  clear hN hM hT h1 h2 h4 hA hC hAs hCs hZ hZs hX hXs hRX hsl hS hD hDs
  go_enter Tryd.func37, Tryd.ntmps37
  go_wp2_with fail
  refine (word_any N HN.out.1 w).mono ?_
  rintro e y ⟨rfl, hy⟩
  rw [HW.out.1]
  have HY : Hid (Below w.heap.size w y) := hy
  clear hy
  go_wp2_with fail
  refine (word_any M HN.out.2.1 y).mono ?_
  rintro e y2 ⟨rfl, hy2⟩
  rw [HW.out.2.1]
  have HY2 : Hid (Below w.heap.size w y2) := keepB HY.out hy2
  clear hy2
  have HSM2 := sum_any X y2 HSM.out.2 (Jr.hal_next HT.out HY2.out)
  have HSUM : Hid (Calls _ _ _ _ _) := HSM2
  clear HSM2
  go_wp2_with (first | (rw [HZ.out]) | (rw [HX.out]) | fail)
  refine HSUM.out.mono ?_
  rintro e y3 ⟨rfl, rfl⟩
  rw [HSM.out.1]
  go_wp2_with fail
  refine (word_any S HN.out.2.2 _).mono ?_
  rintro e y4 ⟨rfl, hy4⟩
  rw [HW.out.2.2]
  have HF : Hid (Below w.heap.size w y4) := keepB HY2.out hy4
  clear hy4
  go_wp2_with fail
  go_ret
  exact ⟨by rw [HR.out]; rfl, HF.out⟩
end Go.Proofs.YtabmpngliphdpaaDoor.Kd
