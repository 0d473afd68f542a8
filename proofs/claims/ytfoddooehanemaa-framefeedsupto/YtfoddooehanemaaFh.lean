/- Frames: Wrap, both sides. -/
import Derived.Test.YtfoddooehanemaaFf
namespace Go.Proofs.Ytfoddooehanemaa.Fh
set_option linter.unusedVariables false
set_option linter.unusedSimpArgs false
open Go.RowKit Lib0 Kb Fa Fb Fc Fm Fe Ff
/-- the header of a message of n bytes -/
def hbN (h n : Nat) : List Nat :=
  if h = 2 then [48 + n / 1000 % 10, 48 + n / 100 % 10, 48 + n / 10 % 10, 48 + n / 1 % 10]
  else if h = 3 then [16 * (n / 1000 % 10) + n / 100 % 10, 16 * (n / 10 % 10) + n / 1 % 10]
  else if h = 4 then [(n + 2) / 256, (n + 2) % 256]
  else [n / 256, n % 256]
def hb (h n : Nat) : List UInt8 := (hbN h n).map UInt8.ofNat
theorem ofNat_nat (d : Nat) (h : d < 256) : ((UInt8.ofNat d).toNat : Int) = (d : Int) := by
  rw [UInt8.toNat_ofNat_of_lt' (by simpa using h)]
theorem conv4 (x : World) (B : Nat) (z0 z1 z2 z3 : Int) (d0 d1 d2 d3 : Nat) (h0 : d0 < 256) (h1 : d1 < 256) (h2 : d2 < 256) (h3 : d3 < 256) (hB : x.heap.size = B) (e0 : z0 = (d0 : Int)) (e1 : z1 = (d1 : Int)) (e2 : z2 = (d2 : Int)) (e3 : z3 = (d3 : Int)) :
    (convert 37 9 (.slice (some ⟨B, 0, none⟩) 4 4)).run Try.prog (x.alloc (.cells #[.int .u8 z0, .int .u8 z1, .int .u8 z2, .int .u8 z3] 5)) = .ok (.string ⟨([d0, d1, d2, d3].map UInt8.ofNat).toArray⟩) (x.alloc (.cells #[.int .u8 z0, .int .u8 z1, .int .u8 z2, .int .u8 z3] 5)) := by
  subst e0 e1 e2 e3 hB
  have h := h1_0 x (.cells #[.int .u8 (d0 : Int), .int .u8 (d1 : Int), .int .u8 (d2 : Int), .int .u8 (d3 : Int)] 5)
  refine run_convert_bytes_back _ 37 9 5 ⟨x.heap.size, 0, none⟩ 4 ([d0, d1, d2, d3].map UInt8.ofNat) Try.underlying37 Try.underlying5 Try.underlying9 (fun j hj => ?_)
  rw [show (⟨x.heap.size, 0, none⟩ : Addr).add j = ⟨x.heap.size, j, none⟩ by unfold Addr.add; split <;> simp_all]
  unfold World.cell?
  rw [h]
  match j, hj with
  | 0, _ => exact congrArg (fun v => some (Value.int .u8 v)) (ofNat_nat d0 h0).symm
  | 1, _ => exact congrArg (fun v => some (Value.int .u8 v)) (ofNat_nat d1 h1).symm
  | 2, _ => exact congrArg (fun v => some (Value.int .u8 v)) (ofNat_nat d2 h2).symm
  | 3, _ => exact congrArg (fun v => some (Value.int .u8 v)) (ofNat_nat d3 h3).symm
theorem conv2 (x : World) (B : Nat) (z0 z1 : Int) (d0 d1 : Nat) (h0 : d0 < 256) (h1 : d1 < 256) (hB : x.heap.size = B) (e0 : z0 = (d0 : Int)) (e1 : z1 = (d1 : Int)) :
    (convert 37 9 (.slice (some ⟨B, 0, none⟩) 2 2)).run Try.prog (x.alloc (.cells #[.int .u8 z0, .int .u8 z1] 5)) = .ok (.string ⟨([d0, d1].map UInt8.ofNat).toArray⟩) (x.alloc (.cells #[.int .u8 z0, .int .u8 z1] 5)) := by
  subst e0 e1 hB
  have h := h1_0 x (.cells #[.int .u8 (d0 : Int), .int .u8 (d1 : Int)] 5)
  refine run_convert_bytes_back _ 37 9 5 ⟨x.heap.size, 0, none⟩ 2 ([d0, d1].map UInt8.ofNat) Try.underlying37 Try.underlying5 Try.underlying9 (fun j hj => ?_)
  rw [show (⟨x.heap.size, 0, none⟩ : Addr).add j = ⟨x.heap.size, j, none⟩ by unfold Addr.add; split <;> simp_all]
  unfold World.cell?
  rw [h]
  match j, hj with
  | 0, _ => exact congrArg (fun v => some (Value.int .u8 v)) (ofNat_nat d0 h0).symm
  | 1, _ => exact congrArg (fun v => some (Value.int .u8 v)) (ofNat_nat d1 h1).symm
theorem digit_any (n : Nat) (hn : n ≤ 9999) (p : Nat) (hp : p = 1 ∨ p = 10 ∨ p = 100 ∨ p = 1000) (w : World) : Calls Try.prog 49 #[.int .i64 (n : Int), .int .i64 (p : Int)] w fun e w' => e = .returned (.int .u8 ((n / p % 10 : Nat) : Int)) ∧ w' = w := by
  have hn2 : (n : Int) ≤ 9999 := by omega
  rcases hp with rfl | rfl | rfl | rfl
  · go_enter Try.func49, Try.ntmps49
    go_wp2
    go_ret
    exact ⟨by apply Lib0.ret_int; simp; try omega, rfl⟩
  · go_enter Try.func49, Try.ntmps49
    go_wp2
    go_ret
    exact ⟨by apply Lib0.ret_int; simp; try omega, rfl⟩
  · go_enter Try.func49, Try.ntmps49
    go_wp2
    go_ret
    exact ⟨by apply Lib0.ret_int; simp; try omega, rfl⟩
  · go_enter Try.func49, Try.ntmps49
    go_wp2
    go_ret
    exact ⟨by apply Lib0.ret_int; simp; try omega, rfl⟩
set_option maxRecDepth 100000 in
theorem written_four (n : Nat) (hn : n ≤ 9999) (w : World) : Calls Try.prog 41 #[.int .i64 2, .int .i64 (n : Int)] w fun e w' => e = .returned (.string ⟨(hb 2 n).toArray⟩) ∧ Below w.heap.size w w' := by
  have p0 := fun w => digit_any n hn 1000 (by simp) w
  have p1 := fun w => digit_any n hn 100 (by simp) w
  have p2 := fun w => digit_any n hn 10 (by simp) w
  have p3 := fun w => digit_any n hn 1 (by simp) w
  have HE : Hid (hb 2 n = [48 + n / 1000 % 10, 48 + n / 100 % 10, 48 + n / 10 % 10, 48 + n / 1 % 10].map UInt8.ofNat) := (rfl : hb 2 n = [48 + n / 1000 % 10, 48 + n / 100 % 10, 48 + n / 10 % 10, 48 + n / 1 % 10].map UInt8.ofNat)
  generalize hb 2 n = R at *
  have k0 : n / 1000 % 10 < 10 := Nat.mod_lt _ (by decide)
  have k1 : n / 100 % 10 < 10 := Nat.mod_lt _ (by decide)
  have k2 : n / 10 % 10 < 10 := Nat.mod_lt _ (by decide)
  have k3 : n / 1 % 10 < 10 := Nat.mod_lt _ (by decide)
  generalize n / 1000 % 10 = d0 at *
  generalize n / 100 % 10 = d1 at *
  generalize n / 10 % 10 = d2 at *
  generalize n / 1 % 10 = d3 at *
  have g0 : (d0 : Int) < 10 := by omega
  have g1 : (d1 : Int) < 10 := by omega
  have g2 : (d2 : Int) < 10 := by omega
  have g3 : (d3 : Int) < 10 := by omega
  go_enter Try.func41, Try.ntmps41
  go_wp2_with fail
  refine (p0 _).mono ?_
  rintro e y ⟨rfl, hy⟩
  rw [hy]
  clear hy y
  go_wp2_with fail
  refine (p1 _).mono ?_
  rintro e y ⟨rfl, hy⟩
  rw [hy]
  clear hy y
  go_wp2_with fail
  refine (p2 _).mono ?_
  rintro e y ⟨rfl, hy⟩
  rw [hy]
  clear hy y
  go_wp2_with fail
  refine (p3 _).mono ?_
  rintro e y ⟨rfl, hy⟩
  rw [hy]
  clear hy y
  go_wp2_with fail
  rw [conv4 _ _ _ _ _ _ (48 + d0) (48 + d1) (48 + d2) (48 + d3) (by omega) (by omega) (by omega) (by omega) (by simp) (by simp) (by simp) (by simp) (by simp), ← HE.out]
  go_wp2_with fail
  go_ret
  exact ⟨rfl, below_one w _⟩
theorem shl_or (d0 d1 : Nat) (h0 : d0 < 10) (h1 : d1 < 10) : bits .or .u8 ((d0 : Int) * 16) (d1 : Int) = ((16 * d0 + d1 : Nat) : Int) := by
  have e : 16 * d0 ||| d1 = 16 * d0 + d1 := (@Nat.two_pow_add_eq_or_of_lt 4 d1 (by omega) d0).symm
  have h := u8_or_nat (16 * d0) d1 (by omega) (by omega)
  rw [e] at h
  rw [← h]
  congr 1
  simp; omega
set_option maxRecDepth 100000 in
theorem written_bcd (n : Nat) (hn : n ≤ 9999) (w : World) : Calls Try.prog 41 #[.int .i64 3, .int .i64 (n : Int)] w fun e w' => e = .returned (.string ⟨(hb 3 n).toArray⟩) ∧ Below w.heap.size w w' := by
  have p0 := fun w => digit_any n hn 1000 (by simp) w
  have p1 := fun w => digit_any n hn 100 (by simp) w
  have p2 := fun w => digit_any n hn 10 (by simp) w
  have p3 := fun w => digit_any n hn 1 (by simp) w
  have HE : Hid (hb 3 n = [16 * (n / 1000 % 10) + n / 100 % 10, 16 * (n / 10 % 10) + n / 1 % 10].map UInt8.ofNat) := (rfl : hb 3 n = [16 * (n / 1000 % 10) + n / 100 % 10, 16 * (n / 10 % 10) + n / 1 % 10].map UInt8.ofNat)
  generalize hb 3 n = R at *
  have k0 : n / 1000 % 10 < 10 := Nat.mod_lt _ (by decide)
  have k1 : n / 100 % 10 < 10 := Nat.mod_lt _ (by decide)
  have k2 : n / 10 % 10 < 10 := Nat.mod_lt _ (by decide)
  have k3 : n / 1 % 10 < 10 := Nat.mod_lt _ (by decide)
  generalize n / 1000 % 10 = d0 at *
  generalize n / 100 % 10 = d1 at *
  generalize n / 10 % 10 = d2 at *
  generalize n / 1 % 10 = d3 at *
  have g0 : (d0 : Int) < 10 := by omega
  have g1 : (d1 : Int) < 10 := by omega
  have g2 : (d2 : Int) < 10 := by omega
  have g3 : (d3 : Int) < 10 := by omega
  have u0 := shl_or d0 d1 k0 k1
  have u1 := shl_or d2 d3 k2 k3
  go_enter Try.func41, Try.ntmps41
  go_wp2_with fail
  refine (p0 _).mono ?_
  rintro e y ⟨rfl, hy⟩
  rw [hy]
  clear hy y
  go_wp2_with fail
  refine (p1 _).mono ?_
  rintro e y ⟨rfl, hy⟩
  rw [hy]
  clear hy y
  go_wp2_with fail
  refine (p2 _).mono ?_
  rintro e y ⟨rfl, hy⟩
  rw [hy]
  clear hy y
  go_wp2_with fail
  refine (p3 _).mono ?_
  rintro e y ⟨rfl, hy⟩
  rw [hy]
  clear hy y
  go_wp2_with fail
  rw [conv2 _ _ _ _ (16 * d0 + d1) (16 * d2 + d3) (by omega) (by omega) (by simp) (by first | (simp; done) | omega | (simp; omega) | (rw [IntKind.wrap_u8]; omega)) (by first | (simp; done) | omega | (simp; omega) | (rw [IntKind.wrap_u8]; omega)), ← HE.out]
  go_wp2_with fail
  go_ret
  exact ⟨rfl, below_one w _⟩
set_option maxRecDepth 100000 in
theorem written_two (n : Nat) (hn : n ≤ 9999) (w : World) : Calls Try.prog 41 #[.int .i64 1, .int .i64 (n : Int)] w fun e w' => e = .returned (.string ⟨(hb 1 n).toArray⟩) ∧ Below w.heap.size w w' := by
  have HE : Hid (hb 1 n = [n / 256, n % 256].map UInt8.ofNat) := (rfl : hb 1 n = [n / 256, n % 256].map UInt8.ofNat)
  generalize hb 1 n = R at *
  have g0 : (n : Int) ≤ 9999 := by omega
  go_enter Try.func41, Try.ntmps41
  go_wp2_with fail
  rw [conv2 _ _ _ _ (n / 256) (n % 256) (by omega) (by omega) (by simp) (by first | (simp; done) | omega | (simp; omega) | (rw [IntKind.wrap_u8]; omega)) (by first | (simp; done) | omega | (simp; omega) | (rw [IntKind.wrap_u8]; omega)), ← HE.out]
  go_wp2_with fail
  go_ret
  exact ⟨rfl, below_one w _⟩
set_option maxRecDepth 100000 in
theorem written_whole (n : Nat) (hn : n ≤ 9999) (w : World) : Calls Try.prog 41 #[.int .i64 4, .int .i64 (n : Int)] w fun e w' => e = .returned (.string ⟨(hb 4 n).toArray⟩) ∧ Below w.heap.size w w' := by
  have HE : Hid (hb 4 n = [(n + 2) / 256, (n + 2) % 256].map UInt8.ofNat) := (rfl : hb 4 n = [(n + 2) / 256, (n + 2) % 256].map UInt8.ofNat)
  generalize hb 4 n = R at *
  have g0 : (n : Int) ≤ 9999 := by omega
  go_enter Try.func41, Try.ntmps41
  go_wp2_with fail
  rw [conv2 _ _ _ _ ((n + 2) / 256) ((n + 2) % 256) (by omega) (by omega) (by simp) (by first | (simp; done) | omega | (simp; omega) | (rw [IntKind.wrap_u8]; omega)) (by first | (simp; done) | omega | (simp; omega) | (rw [IntKind.wrap_u8]; omega)), ← HE.out]
  go_wp2_with fail
  go_ret
  exact ⟨rfl, below_one w _⟩
theorem written_any (h : Nat) (h1 : 1 ≤ h) (h4 : h ≤ 4) (n : Nat) (hn : n ≤ 9999) (w : World) : Calls Try.prog 41 #[.int .i64 (h : Int), .int .i64 (n : Int)] w fun e w' => e = .returned (.string ⟨(hb h n).toArray⟩) ∧ Below w.heap.size w w' := by
  match h, h1, h4 with
  | 1, _, _ => exact written_two n hn w
  | 2, _, _ => exact written_four n hn w
  | 3, _, _ => exact written_bcd n hn w
  | 4, _, _ => exact written_whole n hn w
/-- Wrap: the text, and what is wrong -/
def wrp (h m : Int) (s : ByteArray) : ByteArray × Nat :=
  if rgt h m = false then (⟨#[]⟩, 1) else if s.size = 0 then (⟨#[]⟩, 142) else if m < (s.size : Int) then (⟨#[]⟩, 141) else (⟨(hb h.toNat s.size).toArray⟩ ++ s, 0)
theorem rgt_nat {h m : Int} (hr : rgt h m = true) : ∃ a b : Nat, h = (a : Int) ∧ m = (b : Int) ∧ 1 ≤ a ∧ a ≤ 4 ∧ 1 ≤ b ∧ b ≤ 9999 := by
  simp only [rgt, Bool.and_eq_true, decide_eq_true_eq] at hr
  exact ⟨h.toNat, m.toNat, by omega, by omega, by omega, by omega, by omega, by omega⟩
theorem empty_of {s : ByteArray} (h : s.size = 0) : s = ⟨#[]⟩ := by
  cases s with
  | mk d => congr 1; exact Array.eq_empty_of_size_eq_zero h
set_option maxRecDepth 100000 in
theorem wrap_any (h m : Int) (s : ByteArray) (hs : s.size ≤ maxLen) (w : World) : Calls Try.prog 23 #[.int .i64 h, .int .i64 m, .string s] w fun e w' => e = .returned (.tuple #[.string (wrp h m s).1, .int .i64 ((wrp h m s).2 : Int)]) ∧ Below w.heap.size w w' := by
  have p := fun w => right_any h m w
  cases hr : rgt h m with
  | false =>
    rw [hr] at p
    have HE : Hid (wrp h m s = (⟨#[]⟩, 1)) := by show _ = _; rw [wrp, if_pos hr]
    generalize wrp h m s = R at *
    go_enter Try.func23, Try.ntmps23
    go_wp2_with fail
    refine (p _).mono ?_
    rintro e y ⟨rfl, hy⟩
    rw [hy]
    clear hy y
    go_wp2_with fail
    go_ret2
    exact ⟨by rw [HE.out]; rfl, Below.refl _ _⟩
  | true =>
    rw [hr] at p
    by_cases h0 : s.size = 0
    · obtain rfl := empty_of h0
      have HE : Hid (wrp h m ⟨#[]⟩ = (⟨#[]⟩, 142)) := by show _ = _; rw [wrp, if_neg (by rw [hr]; decide), if_pos h0]
      generalize wrp h m ⟨#[]⟩ = R at *
      go_enter Try.func23, Try.ntmps23
      go_wp2_with fail
      refine (p _).mono ?_
      rintro e y ⟨rfl, hy⟩
      rw [hy]
      clear hy y
      go_wp2_with fail
      go_ret2
      exact ⟨by rw [HE.out]; rfl, Below.refl _ _⟩
    · have g : s.toList.isEmpty = false := by
        cases hl : s.toList.isEmpty with
        | false => rfl
        | true =>
          exfalso
          apply h0
          have := congrArg List.length (List.isEmpty_iff.1 hl)
          simpa [ByteArray.toList_eq] using this
      by_cases h1 : m < (s.size : Int)
      · have HE : Hid (wrp h m s = (⟨#[]⟩, 141)) := by show _ = _; rw [wrp, if_neg (by rw [hr]; decide), if_neg h0, if_pos h1]
        generalize wrp h m s = R at *
        go_enter Try.func23, Try.ntmps23
        go_wp2_with fail
        refine (p _).mono ?_
        rintro e y ⟨rfl, hy⟩
        rw [hy]
        clear hy y
        go_wp2_with fail
        go_ret2
        exact ⟨by rw [HE.out]; rfl, Below.refl _ _⟩
      · obtain ⟨a, b, rfl, rfl, a1, a4, b1, b9⟩ := rgt_nat hr
        have HE : Hid (wrp a b s = (⟨(hb a s.size).toArray⟩ ++ s, 0)) := by show _ = _; rw [wrp, if_neg (by rw [hr]; decide), if_neg h0, if_neg h1]; rfl
        have hs9 : s.size ≤ 9999 := by omega
        have pw := fun w => written_any a a1 a4 s.size hs9 w
        have hbl : (hb a s.size).length ≤ 4 := by unfold hb hbN; split <;> (try split) <;> (try split) <;> simp
        have h5 : (s.size : Int) ≤ (b : Int) := by omega
        generalize wrp a b s = R at *
        generalize hb a s.size = Z at *
        go_enter Try.func23, Try.ntmps23
        go_wp2_with fail
        refine (p _).mono ?_
        rintro e y ⟨rfl, hy⟩
        rw [hy]
        clear hy y
        go_wp2_with fail
        refine (pw _).mono ?_
        rintro e y ⟨rfl, hy⟩
        have HY : Hid (Below w.heap.size w y) := hy
        clear hy
        go_wp2_with fail
        go_ret2
        exact ⟨by rw [HE.out]; rfl, HY.out⟩
end Go.Proofs.Ytfoddooehanemaa.Fh
