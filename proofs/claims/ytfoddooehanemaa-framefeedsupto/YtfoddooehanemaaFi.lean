/- Frames: the document's Right, Wrap. -/
import Derived.Test.YtfoddooehanemaaFh
namespace Go.Proofs.Ytfoddooehanemaa.Fi
set_option linter.unusedVariables false
set_option linter.unusedSimpArgs false
open Go.RowKit Lib0 Kb Fa Fb Fc Fm Fe Ff Fh
theorem rightr_any (h m : Int) (w : World) : Calls Try.prog 34 #[.int .i64 h, .int .i64 m] w fun e w' => e = .returned (.bool (rgt h m)) ∧ w' = w := by
  have HE : Hid (rgt h m = (decide (1 ≤ h) && decide (h ≤ 4) && decide (1 ≤ m) && decide (m ≤ 9999))) := (rfl : rgt h m = _)
  generalize rgt h m = R at *
  by_cases a : 1 ≤ h
  · by_cases b : h ≤ 4
    · by_cases c : 1 ≤ m
      · by_cases d : m ≤ 9999
        · have H2 : Hid (R = true) := by show _ = _; rw [HE.out]; simp [a, b, c, d]
          go_enter Try.func34, Try.ntmps34
          go_wp2
          go_ret
          exact ⟨by rw [H2.out]; first | rfl | (simp; omega), rfl⟩
        · have H2 : Hid (R = false) := by show _ = _; rw [HE.out]; simp [a, b, c, d]
          go_enter Try.func34, Try.ntmps34
          go_wp2
          go_ret
          exact ⟨by rw [H2.out]; first | rfl | (simp; omega), rfl⟩
      · have H2 : Hid (R = false) := by show _ = _; rw [HE.out]; simp [a, b, c]
        go_enter Try.func34, Try.ntmps34
        go_wp2
        go_ret
        exact ⟨by rw [H2.out]; first | rfl | (simp; omega), rfl⟩
    · have H2 : Hid (R = false) := by show _ = _; rw [HE.out]; simp [a, b]
      go_enter Try.func34, Try.ntmps34
      go_wp2
      go_ret
      exact ⟨by rw [H2.out]; first | rfl | (simp; omega), rfl⟩
  · have H2 : Hid (R = false) := by show _ = _; rw [HE.out]; simp [a]
    go_enter Try.func34, Try.ntmps34
    go_wp2
    go_ret
    exact ⟨by rw [H2.out]; first | rfl | (simp; omega), rfl⟩
set_option maxRecDepth 100000 in
theorem wrapr_1 (b : Nat) (s : ByteArray) (hr : rgt 1 (b : Int) = true) (h0 : ¬ s.size = 0) (g : s.toList.isEmpty = false) (hs9 : s.size ≤ 9999) (h5 : (s.size : Int) ≤ (b : Int)) (w : World) : Calls Try.prog 24 #[.int .i64 1, .int .i64 (b : Int), .string s] w fun e w' => e = .returned (.tuple #[.string (⟨(hb 1 s.size).toArray⟩ ++ s), .int .i64 0]) ∧ Below w.heap.size w w' := by
  have p := fun w => rightr_any 1 b w
  rw [hr] at p
  have HE : Hid (hb 1 s.size = [s.size / 256, s.size % 256].map UInt8.ofNat) := (rfl : hb 1 s.size = [s.size / 256, s.size % 256].map UInt8.ofNat)
  have hbl : (hb 1 s.size).length ≤ 4 := by rw [HE.out]; simp
  generalize hb 1 s.size = R at *
  have g0 : (s.size : Int) ≤ 9999 := by omega
  go_enter Try.func24, Try.ntmps24
  go_wp2_with fail
  refine (p _).mono ?_
  rintro e y ⟨rfl, hy⟩
  rw [hy]
  clear hy y
  go_wp2_with fail
  rw [conv2 _ _ _ _ (s.size / 256) (s.size % 256) (by omega) (by omega) (by simp) (by first | (simp; done) | omega | (simp; omega) | (rw [IntKind.wrap_u8]; omega)) (by first | (simp; done) | omega | (simp; omega) | (rw [IntKind.wrap_u8]; omega)), ← HE.out]
  go_wp2_with fail
  go_ret2
  exact ⟨rfl, below_one w _⟩
set_option maxRecDepth 100000 in
theorem wrapr_2 (b : Nat) (s : ByteArray) (hr : rgt 2 (b : Int) = true) (h0 : ¬ s.size = 0) (g : s.toList.isEmpty = false) (hs9 : s.size ≤ 9999) (h5 : (s.size : Int) ≤ (b : Int)) (w : World) : Calls Try.prog 24 #[.int .i64 2, .int .i64 (b : Int), .string s] w fun e w' => e = .returned (.tuple #[.string (⟨(hb 2 s.size).toArray⟩ ++ s), .int .i64 0]) ∧ Below w.heap.size w w' := by
  have p := fun w => rightr_any 2 b w
  rw [hr] at p
  have HE : Hid (hb 2 s.size = [48 + s.size / 1000 % 10, 48 + s.size / 100 % 10, 48 + s.size / 10 % 10, 48 + s.size / 1 % 10].map UInt8.ofNat) := (rfl : hb 2 s.size = [48 + s.size / 1000 % 10, 48 + s.size / 100 % 10, 48 + s.size / 10 % 10, 48 + s.size / 1 % 10].map UInt8.ofNat)
  have hbl : (hb 2 s.size).length ≤ 4 := by rw [HE.out]; simp
  generalize hb 2 s.size = R at *
  have g0 : (s.size : Int) ≤ 9999 := by omega
  go_enter Try.func24, Try.ntmps24
  go_wp2_with fail
  refine (p _).mono ?_
  rintro e y ⟨rfl, hy⟩
  rw [hy]
  clear hy y
  go_wp2_with fail
  rw [conv4 _ _ _ _ _ _ (48 + s.size / 1000 % 10) (48 + s.size / 100 % 10) (48 + s.size / 10 % 10) (48 + s.size / 1 % 10) (by omega) (by omega) (by omega) (by omega) (by simp) (by first | (simp; done) | omega | (simp; omega) | (rw [IntKind.wrap_u8]; omega)) (by first | (simp; done) | omega | (simp; omega) | (rw [IntKind.wrap_u8]; omega)) (by first | (simp; done) | omega | (simp; omega) | (rw [IntKind.wrap_u8]; omega)) (by first | (simp; done) | omega | (simp; omega) | (rw [IntKind.wrap_u8]; omega)), ← HE.out]
  go_wp2_with fail
  go_ret2
  exact ⟨rfl, below_one w _⟩
set_option maxRecDepth 100000 in
theorem wrapr_3 (b : Nat) (s : ByteArray) (hr : rgt 3 (b : Int) = true) (h0 : ¬ s.size = 0) (g : s.toList.isEmpty = false) (hs9 : s.size ≤ 9999) (h5 : (s.size : Int) ≤ (b : Int)) (w : World) : Calls Try.prog 24 #[.int .i64 3, .int .i64 (b : Int), .string s] w fun e w' => e = .returned (.tuple #[.string (⟨(hb 3 s.size).toArray⟩ ++ s), .int .i64 0]) ∧ Below w.heap.size w w' := by
  have p := fun w => rightr_any 3 b w
  rw [hr] at p
  have HE : Hid (hb 3 s.size = [16 * (s.size / 1000 % 10) + s.size / 100 % 10, 16 * (s.size / 10 % 10) + s.size / 1 % 10].map UInt8.ofNat) := (rfl : hb 3 s.size = [16 * (s.size / 1000 % 10) + s.size / 100 % 10, 16 * (s.size / 10 % 10) + s.size / 1 % 10].map UInt8.ofNat)
  have hbl : (hb 3 s.size).length ≤ 4 := by rw [HE.out]; simp
  generalize hb 3 s.size = R at *
  have g0 : (s.size : Int) ≤ 9999 := by omega
  go_enter Try.func24, Try.ntmps24
  go_wp2_with fail
  refine (p _).mono ?_
  rintro e y ⟨rfl, hy⟩
  rw [hy]
  clear hy y
  go_wp2_with fail
  rw [conv2 _ _ _ _ (16 * (s.size / 1000 % 10) + s.size / 100 % 10) (16 * (s.size / 10 % 10) + s.size / 1 % 10) (by omega) (by omega) (by simp) (by first | (simp; done) | omega | (simp; omega) | (rw [IntKind.wrap_u8]; omega)) (by first | (simp; done) | omega | (simp; omega) | (rw [IntKind.wrap_u8]; omega)), ← HE.out]
  go_wp2_with fail
  go_ret2
  exact ⟨rfl, below_one w _⟩
set_option maxRecDepth 100000 in
theorem wrapr_4 (b : Nat) (s : ByteArray) (hr : rgt 4 (b : Int) = true) (h0 : ¬ s.size = 0) (g : s.toList.isEmpty = false) (hs9 : s.size ≤ 9999) (h5 : (s.size : Int) ≤ (b : Int)) (w : World) : Calls Try.prog 24 #[.int .i64 4, .int .i64 (b : Int), .string s] w fun e w' => e = .returned (.tuple #[.string (⟨(hb 4 s.size).toArray⟩ ++ s), .int .i64 0]) ∧ Below w.heap.size w w' := by
  have p := fun w => rightr_any 4 b w
  rw [hr] at p
  have HE : Hid (hb 4 s.size = [(s.size + 2) / 256, (s.size + 2) % 256].map UInt8.ofNat) := (rfl : hb 4 s.size = [(s.size + 2) / 256, (s.size + 2) % 256].map UInt8.ofNat)
  have hbl : (hb 4 s.size).length ≤ 4 := by rw [HE.out]; simp
  generalize hb 4 s.size = R at *
  have g0 : (s.size : Int) ≤ 9999 := by omega
  go_enter Try.func24, Try.ntmps24
  go_wp2_with fail
  refine (p _).mono ?_
  rintro e y ⟨rfl, hy⟩
  rw [hy]
  clear hy y
  go_wp2_with fail
  rw [conv2 _ _ _ _ ((s.size + 2) / 256) ((s.size + 2) % 256) (by omega) (by omega) (by simp) (by first | (simp; done) | omega | (simp; omega) | (rw [IntKind.wrap_u8]; omega)) (by first | (simp; done) | omega | (simp; omega) | (rw [IntKind.wrap_u8]; omega)), ← HE.out]
  go_wp2_with fail
  go_ret2
  exact ⟨rfl, below_one w _⟩
set_option maxHeartbeats 1600000 in
set_option maxRecDepth 100000 in
theorem wrapr_any (h m : Int) (s : ByteArray) (hs : s.size ≤ maxLen) (w : World) : Calls Try.prog 24 #[.int .i64 h, .int .i64 m, .string s] w fun e w' => e = .returned (.tuple #[.string (wrp h m s).1, .int .i64 ((wrp h m s).2 : Int)]) ∧ Below w.heap.size w w' := by
  have p := fun w => rightr_any h m w
  cases hr : rgt h m with
  | false =>
    rw [hr] at p
    have HE : Hid (wrp h m s = (⟨#[]⟩, 1)) := by show _ = _; rw [wrp, if_pos hr]
    generalize wrp h m s = R at *
    go_enter Try.func24, Try.ntmps24
    go_wp2_with fail
    refine (p _).mono ?_
    rintro e y ⟨rfl, hy⟩
    rw [hy]
    clear hy y
    go_wp2_with fail
    go_ret2
    exact ⟨by rw [HE.out]; rfl, Below.refl _ _⟩
  | true =>
    rw [hr] at p
    by_cases h0 : s.size = 0
    · obtain rfl := empty_of h0
      have HE : Hid (wrp h m ⟨#[]⟩ = (⟨#[]⟩, 142)) := by show _ = _; rw [wrp, if_neg (by rw [hr]; decide), if_pos h0]
      generalize wrp h m ⟨#[]⟩ = R at *
      go_enter Try.func24, Try.ntmps24
      go_wp2_with fail
      refine (p _).mono ?_
      rintro e y ⟨rfl, hy⟩
      rw [hy]
      clear hy y
      go_wp2_with fail
      go_ret2
      exact ⟨by rw [HE.out]; rfl, Below.refl _ _⟩
    · have g : s.toList.isEmpty = false := by
        cases hl : s.toList.isEmpty with
        | false => rfl
        | true =>
          exfalso
          apply h0
          have := congrArg List.length (List.isEmpty_iff.1 hl)
          simpa [ByteArray.toList_eq] using this
      by_cases h1 : m < (s.size : Int)
      · have HE : Hid (wrp h m s = (⟨#[]⟩, 141)) := by show _ = _; rw [wrp, if_neg (by rw [hr]; decide), if_neg h0, if_pos h1]
        generalize wrp h m s = R at *
        go_enter Try.func24, Try.ntmps24
        go_wp2_with fail
        refine (p _).mono ?_
        rintro e y ⟨rfl, hy⟩
        rw [hy]
        clear hy y
        go_wp2_with fail
        go_ret2
        exact ⟨by rw [HE.out]; rfl, Below.refl _ _⟩
      · obtain ⟨a, b, rfl, rfl, a1, a4, b1, b9⟩ := rgt_nat hr
        have HE : wrp a b s = (⟨(hb a s.size).toArray⟩ ++ s, 0) := by rw [wrp, if_neg (by rw [hr]; decide), if_neg h0, if_neg h1]; rfl
        rw [HE]
        obtain rfl | rfl | rfl | rfl : a = 1 ∨ a = 2 ∨ a = 3 ∨ a = 4 := by omega
        · exact wrapr_1 b s hr h0 g (by omega) (by omega) w
        · exact wrapr_2 b s hr h0 g (by omega) (by omega) w
        · exact wrapr_3 b s hr h0 g (by omega) (by omega) w
        · exact wrapr_4 b s hr h0 g (by omega) (by omega) w
end Go.Proofs.Ytfoddooehanemaa.Fi
