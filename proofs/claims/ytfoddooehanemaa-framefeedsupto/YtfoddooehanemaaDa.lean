/- Frames: the document's Width, length. -/
import Derived.Test.YtfoddooehanemaaFv
namespace Go.Proofs.Ytfoddooehanemaa.Da
set_option linter.unusedVariables false
set_option linter.unusedSimpArgs false
open Go.RowKit Lib0 Kb Fa Fb Fc Fm Fe Ff Fg
theorem widthr_any (h : Nat) (h1 : 1 ≤ h) (h4 : h ≤ 4) (w : World) : Calls Try.prog 47 #[.int .i64 (h : Int)] w fun e w' => e = .returned (.int .i64 (wid h : Int)) ∧ w' = w := by
  obtain rfl | rfl | rfl | rfl : h = 1 ∨ h = 2 ∨ h = 3 ∨ h = 4 := by omega
  all_goals
    go_enter Try.func47, Try.ntmps47
    go_wp2
    go_ret
    exact ⟨rfl, rfl⟩
def lenN : Option Nat → Nat × Nat
  | none => (0, 140)
  | some n => (n, 0)
theorem at_str (s : ByteArray) (i : Nat) (h : i < s.size) : at_ s.data.toList i = (s[i]'h).toNat := by
  have h2 : i < s.data.toList.length := by simpa using h
  simp [at_, List.getD_eq_getElem?_getD, List.getElem?_eq_getElem h2]
  rfl
theorem dec_next (d : Nat) (ds : List Nat) (x : Nat) (h : ¬ 9 < d) : dec (d :: ds) x = dec ds (x * 10 + d) := by simp only [dec]; rw [if_neg h]
theorem dec_stop (d : Nat) (ds : List Nat) (x : Nat) (h : 9 < d) : dec (d :: ds) x = none := by simp only [dec]; rw [if_pos h]
set_option maxRecDepth 100000 in
theorem lengthr_two (s : ByteArray) (hs : 2 ≤ s.size) (w : World) : Calls Try.prog 48 #[.int .i64 1, .string s] w fun e w' => e = .returned (.tuple #[.int .i64 ((lenN (num 1 s.data.toList)).1 : Int), .int .i64 ((lenN (num 1 s.data.toList)).2 : Int)]) ∧ Below w.heap.size w w' := by
  have e0 := at_str s 0 (by omega)
  have e1 := at_str s 1 (by omega)
  have HN : Hid (num 1 s.data.toList = some (256 * at_ s.data.toList 0 + at_ s.data.toList 1)) := (rfl : num 1 s.data.toList = some (256 * at_ s.data.toList 0 + at_ s.data.toList 1))
  rw [e0, e1] at HN
  have l0 := Fc.toNat_lt (s[0]'(by omega))
  have l1 := Fc.toNat_lt (s[1]'(by omega))
  have q0 : (0 : Int) < (s.size : Int) := by omega
  have n0 : 0 < s.size := by omega
  have n1 : 1 < s.size := by omega
  have q1 : (1 : Int) < (s.size : Int) := by omega
  generalize num 1 s.data.toList = Z at *
  clear e0 e1
  go_enter Try.func48, Try.ntmps48
  go_wp2
  go_quiet (fail)
  go_wp2
  go_ret2
  exact ⟨by rw [HN.out]; simp [lenN], below_drewN (Below.refl _ _) _⟩
set_option maxRecDepth 100000 in
theorem lengthr_whole (s : ByteArray) (hs : 2 ≤ s.size) (w : World) : Calls Try.prog 48 #[.int .i64 4, .string s] w fun e w' => e = .returned (.tuple #[.int .i64 ((lenN (num 4 s.data.toList)).1 : Int), .int .i64 ((lenN (num 4 s.data.toList)).2 : Int)]) ∧ Below w.heap.size w w' := by
  have e0 := at_str s 0 (by omega)
  have e1 := at_str s 1 (by omega)
  have HN : Hid (num 4 s.data.toList = if 256 * at_ s.data.toList 0 + at_ s.data.toList 1 < 2 then none else some (256 * at_ s.data.toList 0 + at_ s.data.toList 1 - 2)) := (rfl : num 4 s.data.toList = _)
  rw [e0, e1] at HN
  have l0 := Fc.toNat_lt (s[0]'(by omega))
  have l1 := Fc.toNat_lt (s[1]'(by omega))
  have q0 : (0 : Int) < (s.size : Int) := by omega
  have n0 : 0 < s.size := by omega
  have n1 : 1 < s.size := by omega
  have q1 : (1 : Int) < (s.size : Int) := by omega
  generalize num 4 s.data.toList = Z at *
  clear e0 e1
  by_cases h2 : 256 * (s[0]'(by omega)).toNat + (s[1]'(by omega)).toNat < 2
  · have q2 : 256 * ((s[0]'(by omega)).toNat : Int) + ((s[1]'(by omega)).toNat : Int) - 2 < 0 := by omega
    have H2 : Hid (Z = none) := by show _ = _; rw [HN.out, if_pos h2]
    go_enter Try.func48, Try.ntmps48
    go_wp2
    go_quiet (fail)
    go_wp2
    go_ret2
    exact ⟨by rw [H2.out]; rfl, below_drewN (Below.refl _ _) _⟩
  · have q2 : ¬ 256 * ((s[0]'(by omega)).toNat : Int) + ((s[1]'(by omega)).toNat : Int) - 2 < 0 := by omega
    have H2 : Hid (Z = some (256 * (s[0]'(by omega)).toNat + (s[1]'(by omega)).toNat - 2)) := by show _ = _; rw [HN.out, if_neg h2]
    go_enter Try.func48, Try.ntmps48
    go_wp2
    go_quiet (fail)
    go_wp2
    go_ret2
    exact ⟨by rw [H2.out]; simp only [lenN]; congr 3; simp; omega, below_drewN (Below.refl _ _) _⟩
set_option maxRecDepth 100000 in
set_option maxHeartbeats 1600000 in
theorem lengthr_four (s : ByteArray) (hs : 4 ≤ s.size) (w : World) : Calls Try.prog 48 #[.int .i64 2, .string s] w fun e w' => e = .returned (.tuple #[.int .i64 ((lenN (num 2 s.data.toList)).1 : Int), .int .i64 ((lenN (num 2 s.data.toList)).2 : Int)]) ∧ Below w.heap.size w w' := by
  have e0 := at_str s 0 (by omega)
  have e1 := at_str s 1 (by omega)
  have e2 := at_str s 2 (by omega)
  have e3 := at_str s 3 (by omega)
  have HN : Hid (num 2 s.data.toList = dec [(at_ s.data.toList 0 + 208) % 256, (at_ s.data.toList 1 + 208) % 256, (at_ s.data.toList 2 + 208) % 256, (at_ s.data.toList 3 + 208) % 256] 0) := (rfl : num 2 s.data.toList = _)
  rw [e0, e1, e2, e3] at HN
  have l0 := Fc.toNat_lt (s[0]'(by omega))
  have q0 : (0 : Int) < (s.size : Int) := by omega
  clear e0
  have l1 := Fc.toNat_lt (s[1]'(by omega))
  have q1 : (1 : Int) < (s.size : Int) := by omega
  clear e1
  have l2 := Fc.toNat_lt (s[2]'(by omega))
  have q2 : (2 : Int) < (s.size : Int) := by omega
  clear e2
  have l3 := Fc.toNat_lt (s[3]'(by omega))
  have q3 : (3 : Int) < (s.size : Int) := by omega
  clear e3
  generalize num 2 s.data.toList = Z at *
  go_enter Try.func48, Try.ntmps48
  go_wp2
  go_loopw [6, 7] (fun nv iv wr => ∃ (k x : Nat), k ≤ 4 ∧ x < 10 ^ k ∧ iv = .int .i64 (k : Int) ∧ nv = .int .i64 (x : Int) ∧ Z = dec ([((s[0]'(by omega)).toNat + 208) % 256, ((s[1]'(by omega)).toNat + 208) % 256, ((s[2]'(by omega)).toNat + 208) % 256, ((s[3]'(by omega)).toNat + 208) % 256].drop k) x ∧ wr = w) (fun _ iv _ => 5 - (intOf iv).toNat)
  case atStart => exact ⟨0, 0, by omega, by omega, rfl, rfl, HN.out, rfl⟩
  case round =>
    obtain ⟨k, x, hk, hx, rfl, rfl, hd, rfl⟩ := hrel
    clear HN
    obtain rfl | rfl | rfl | rfl | rfl : k = 0 ∨ k = 1 ∨ k = 2 ∨ k = 3 ∨ k = 4 := by omega
    · simp only [List.drop_succ_cons, List.drop_zero] at hd
      have HD : Hid (Z = dec (((s[0]'(by omega)).toNat + 208) % 256 :: [((s[1]'(by omega)).toNat + 208) % 256, ((s[2]'(by omega)).toNat + 208) % 256, ((s[3]'(by omega)).toNat + 208) % 256]) x) := hd
      have hx3 : (x : Int) < 1 := by simp at hx; omega
      clear hd hx
      by_cases h1 : (s[0]'(by omega)).toNat < 48
      · have p1 : ((s[0]'(by omega)).toNat : Int) < 48 := by omega
        have H2 : Hid (Z = none) := HD.out.trans (dec_stop _ _ _ (by omega))
        go_wp2
        go_ret2
        exact ⟨by rw [H2.out]; rfl, Below.refl _ _⟩
      · have p1 : ¬ ((s[0]'(by omega)).toNat : Int) < 48 := by omega
        by_cases h2 : 57 < (s[0]'(by omega)).toNat
        · have p2 : (57 : Int) < ((s[0]'(by omega)).toNat : Int) := by omega
          have H2 : Hid (Z = none) := HD.out.trans (dec_stop _ _ _ (by omega))
          go_wp2
          go_ret2
          exact ⟨by rw [H2.out]; rfl, Below.refl _ _⟩
        · have p2 : ¬ (57 : Int) < ((s[0]'(by omega)).toNat : Int) := by omega
          have p3 : (48 : Int) ≤ ((s[0]'(by omega)).toNat : Int) := by omega
          have H2 : Hid (Z = dec [((s[1]'(by omega)).toNat + 208) % 256, ((s[2]'(by omega)).toNat + 208) % 256, ((s[3]'(by omega)).toNat + 208) % 256] (x * 10 + ((s[0]'(by omega)).toNat + 208) % 256)) := HD.out.trans (dec_next _ _ _ (by omega))
          have wd : IntKind.u8.wrap (((s[0]'(by omega)).toNat : Int) - 48) = ((s[0]'(by omega)).toNat : Int) - 48 := by rw [IntKind.wrap_u8]; omega
          go_wp2
          refine ⟨⟨1, x * 10 + ((s[0]'(by omega)).toNat + 208) % 256, by omega, by simp; omega, by simp, ?_, H2.out, trivial⟩, ?_⟩
          · congr 1; simp; omega
          · simp [intOf]
    · simp only [List.drop_succ_cons, List.drop_zero] at hd
      have HD : Hid (Z = dec (((s[1]'(by omega)).toNat + 208) % 256 :: [((s[2]'(by omega)).toNat + 208) % 256, ((s[3]'(by omega)).toNat + 208) % 256]) x) := hd
      have hx3 : (x : Int) < 10 := by simp at hx; omega
      clear hd hx
      by_cases h1 : (s[1]'(by omega)).toNat < 48
      · have p1 : ((s[1]'(by omega)).toNat : Int) < 48 := by omega
        have H2 : Hid (Z = none) := HD.out.trans (dec_stop _ _ _ (by omega))
        go_wp2
        go_ret2
        exact ⟨by rw [H2.out]; rfl, Below.refl _ _⟩
      · have p1 : ¬ ((s[1]'(by omega)).toNat : Int) < 48 := by omega
        by_cases h2 : 57 < (s[1]'(by omega)).toNat
        · have p2 : (57 : Int) < ((s[1]'(by omega)).toNat : Int) := by omega
          have H2 : Hid (Z = none) := HD.out.trans (dec_stop _ _ _ (by omega))
          go_wp2
          go_ret2
          exact ⟨by rw [H2.out]; rfl, Below.refl _ _⟩
        · have p2 : ¬ (57 : Int) < ((s[1]'(by omega)).toNat : Int) := by omega
          have p3 : (48 : Int) ≤ ((s[1]'(by omega)).toNat : Int) := by omega
          have H2 : Hid (Z = dec [((s[2]'(by omega)).toNat + 208) % 256, ((s[3]'(by omega)).toNat + 208) % 256] (x * 10 + ((s[1]'(by omega)).toNat + 208) % 256)) := HD.out.trans (dec_next _ _ _ (by omega))
          have wd : IntKind.u8.wrap (((s[1]'(by omega)).toNat : Int) - 48) = ((s[1]'(by omega)).toNat : Int) - 48 := by rw [IntKind.wrap_u8]; omega
          go_wp2
          refine ⟨⟨2, x * 10 + ((s[1]'(by omega)).toNat + 208) % 256, by omega, by simp; omega, by simp, ?_, H2.out, trivial⟩, ?_⟩
          · congr 1; simp; omega
          · simp [intOf]
    · simp only [List.drop_succ_cons, List.drop_zero] at hd
      have HD : Hid (Z = dec (((s[2]'(by omega)).toNat + 208) % 256 :: [((s[3]'(by omega)).toNat + 208) % 256]) x) := hd
      have hx3 : (x : Int) < 100 := by simp at hx; omega
      clear hd hx
      by_cases h1 : (s[2]'(by omega)).toNat < 48
      · have p1 : ((s[2]'(by omega)).toNat : Int) < 48 := by omega
        have H2 : Hid (Z = none) := HD.out.trans (dec_stop _ _ _ (by omega))
        go_wp2
        go_ret2
        exact ⟨by rw [H2.out]; rfl, Below.refl _ _⟩
      · have p1 : ¬ ((s[2]'(by omega)).toNat : Int) < 48 := by omega
        by_cases h2 : 57 < (s[2]'(by omega)).toNat
        · have p2 : (57 : Int) < ((s[2]'(by omega)).toNat : Int) := by omega
          have H2 : Hid (Z = none) := HD.out.trans (dec_stop _ _ _ (by omega))
          go_wp2
          go_ret2
          exact ⟨by rw [H2.out]; rfl, Below.refl _ _⟩
        · have p2 : ¬ (57 : Int) < ((s[2]'(by omega)).toNat : Int) := by omega
          have p3 : (48 : Int) ≤ ((s[2]'(by omega)).toNat : Int) := by omega
          have H2 : Hid (Z = dec [((s[3]'(by omega)).toNat + 208) % 256] (x * 10 + ((s[2]'(by omega)).toNat + 208) % 256)) := HD.out.trans (dec_next _ _ _ (by omega))
          have wd : IntKind.u8.wrap (((s[2]'(by omega)).toNat : Int) - 48) = ((s[2]'(by omega)).toNat : Int) - 48 := by rw [IntKind.wrap_u8]; omega
          go_wp2
          refine ⟨⟨3, x * 10 + ((s[2]'(by omega)).toNat + 208) % 256, by omega, by simp; omega, by simp, ?_, H2.out, trivial⟩, ?_⟩
          · congr 1; simp; omega
          · simp [intOf]
    · simp only [List.drop_succ_cons, List.drop_zero] at hd
      have HD : Hid (Z = dec (((s[3]'(by omega)).toNat + 208) % 256 :: []) x) := hd
      have hx3 : (x : Int) < 1000 := by simp at hx; omega
      clear hd hx
      by_cases h1 : (s[3]'(by omega)).toNat < 48
      · have p1 : ((s[3]'(by omega)).toNat : Int) < 48 := by omega
        have H2 : Hid (Z = none) := HD.out.trans (dec_stop _ _ _ (by omega))
        go_wp2
        go_ret2
        exact ⟨by rw [H2.out]; rfl, Below.refl _ _⟩
      · have p1 : ¬ ((s[3]'(by omega)).toNat : Int) < 48 := by omega
        by_cases h2 : 57 < (s[3]'(by omega)).toNat
        · have p2 : (57 : Int) < ((s[3]'(by omega)).toNat : Int) := by omega
          have H2 : Hid (Z = none) := HD.out.trans (dec_stop _ _ _ (by omega))
          go_wp2
          go_ret2
          exact ⟨by rw [H2.out]; rfl, Below.refl _ _⟩
        · have p2 : ¬ (57 : Int) < ((s[3]'(by omega)).toNat : Int) := by omega
          have p3 : (48 : Int) ≤ ((s[3]'(by omega)).toNat : Int) := by omega
          have H2 : Hid (Z = dec [] (x * 10 + ((s[3]'(by omega)).toNat + 208) % 256)) := HD.out.trans (dec_next _ _ _ (by omega))
          have wd : IntKind.u8.wrap (((s[3]'(by omega)).toNat : Int) - 48) = ((s[3]'(by omega)).toNat : Int) - 48 := by rw [IntKind.wrap_u8]; omega
          go_wp2
          refine ⟨⟨4, x * 10 + ((s[3]'(by omega)).toNat + 208) % 256, by omega, by simp; omega, by simp, ?_, H2.out, trivial⟩, ?_⟩
          · congr 1; simp; omega
          · simp [intOf]
    · have HD : Hid (Z = some x) := hd
      clear hd
      go_wp2
      go_ret2
      exact ⟨by rw [HD.out]; rfl, Below.refl _ _⟩
set_option maxRecDepth 100000 in
set_option maxHeartbeats 1600000 in
theorem lengthr_bcd (s : ByteArray) (hs : 2 ≤ s.size) (w : World) : Calls Try.prog 48 #[.int .i64 3, .string s] w fun e w' => e = .returned (.tuple #[.int .i64 ((lenN (num 3 s.data.toList)).1 : Int), .int .i64 ((lenN (num 3 s.data.toList)).2 : Int)]) ∧ Below w.heap.size w w' := by
  have e0 := at_str s 0 (by omega)
  have e1 := at_str s 1 (by omega)
  have HN : Hid (num 3 s.data.toList = dec [at_ s.data.toList 0 / 16, at_ s.data.toList 0 % 16, at_ s.data.toList 1 / 16, at_ s.data.toList 1 % 16] 0) := (rfl : num 3 s.data.toList = _)
  rw [e0, e1] at HN
  have l0 := Fc.toNat_lt (s[0]'(by omega))
  have q0 : (0 : Int) < (s.size : Int) := by omega
  clear e0
  have l1 := Fc.toNat_lt (s[1]'(by omega))
  have q1 : (1 : Int) < (s.size : Int) := by omega
  clear e1
  generalize num 3 s.data.toList = Z at *
  go_enter Try.func48, Try.ntmps48
  go_wp2
  go_loopw [6, 8] (fun nv iv wr => ∃ (k x : Nat), k ≤ 4 ∧ x < 10 ^ k ∧ iv = .int .i64 (k : Int) ∧ nv = .int .i64 (x : Int) ∧ Z = dec ([(s[0]'(by omega)).toNat / 16, (s[0]'(by omega)).toNat % 16, (s[1]'(by omega)).toNat / 16, (s[1]'(by omega)).toNat % 16].drop k) x ∧ wr = w) (fun _ iv _ => 5 - (intOf iv).toNat)
  case atStart => exact ⟨0, 0, by omega, by omega, rfl, rfl, HN.out, rfl⟩
  case round =>
    obtain ⟨k, x, hk, hx, rfl, rfl, hd, rfl⟩ := hrel
    clear HN
    obtain rfl | rfl | rfl | rfl | rfl : k = 0 ∨ k = 1 ∨ k = 2 ∨ k = 3 ∨ k = 4 := by omega
    · simp only [List.drop_succ_cons, List.drop_zero] at hd
      have HD : Hid (Z = dec ((s[0]'(by omega)).toNat / 16 :: [(s[0]'(by omega)).toNat % 16, (s[1]'(by omega)).toNat / 16, (s[1]'(by omega)).toNat % 16]) x) := hd
      have hx3 : (x : Int) < 1 := by simp at hx; omega
      clear hd hx
      by_cases h1 : 9 < (s[0]'(by omega)).toNat / 16
      · have p1 : (9 : Int) < ((s[0]'(by omega)).toNat : Int) / 16 := by omega
        have H2 : Hid (Z = none) := HD.out.trans (dec_stop _ _ _ h1)
        go_wp2
        go_ret2
        exact ⟨by rw [H2.out]; rfl, Below.refl _ _⟩
      · have p1 : ¬ (9 : Int) < ((s[0]'(by omega)).toNat : Int) / 16 := by omega
        have H2 : Hid (Z = dec [(s[0]'(by omega)).toNat % 16, (s[1]'(by omega)).toNat / 16, (s[1]'(by omega)).toNat % 16] (x * 10 + (s[0]'(by omega)).toNat / 16)) := HD.out.trans (dec_next _ _ _ h1)
        go_wp2
        refine ⟨⟨1, x * 10 + (s[0]'(by omega)).toNat / 16, by omega, by simp; omega, by simp, ?_, H2.out, trivial⟩, ?_⟩
        · congr 1; simp; omega
        · simp [intOf]
    · simp only [List.drop_succ_cons, List.drop_zero] at hd
      have HD : Hid (Z = dec ((s[0]'(by omega)).toNat % 16 :: [(s[1]'(by omega)).toNat / 16, (s[1]'(by omega)).toNat % 16]) x) := hd
      have hx3 : (x : Int) < 10 := by simp at hx; omega
      clear hd hx
      by_cases h1 : 9 < (s[0]'(by omega)).toNat % 16
      · have p1 : (9 : Int) < ((s[0]'(by omega)).toNat : Int) % 16 := by omega
        have H2 : Hid (Z = none) := HD.out.trans (dec_stop _ _ _ h1)
        go_wp2
        go_ret2
        exact ⟨by rw [H2.out]; rfl, Below.refl _ _⟩
      · have p1 : ¬ (9 : Int) < ((s[0]'(by omega)).toNat : Int) % 16 := by omega
        have H2 : Hid (Z = dec [(s[1]'(by omega)).toNat / 16, (s[1]'(by omega)).toNat % 16] (x * 10 + (s[0]'(by omega)).toNat % 16)) := HD.out.trans (dec_next _ _ _ h1)
        go_wp2
        refine ⟨⟨2, x * 10 + (s[0]'(by omega)).toNat % 16, by omega, by simp; omega, by simp, ?_, H2.out, trivial⟩, ?_⟩
        · congr 1; simp; omega
        · simp [intOf]
    · simp only [List.drop_succ_cons, List.drop_zero] at hd
      have HD : Hid (Z = dec ((s[1]'(by omega)).toNat / 16 :: [(s[1]'(by omega)).toNat % 16]) x) := hd
      have hx3 : (x : Int) < 100 := by simp at hx; omega
      clear hd hx
      by_cases h1 : 9 < (s[1]'(by omega)).toNat / 16
      · have p1 : (9 : Int) < ((s[1]'(by omega)).toNat : Int) / 16 := by omega
        have H2 : Hid (Z = none) := HD.out.trans (dec_stop _ _ _ h1)
        go_wp2
        go_ret2
        exact ⟨by rw [H2.out]; rfl, Below.refl _ _⟩
      · have p1 : ¬ (9 : Int) < ((s[1]'(by omega)).toNat : Int) / 16 := by omega
        have H2 : Hid (Z = dec [(s[1]'(by omega)).toNat % 16] (x * 10 + (s[1]'(by omega)).toNat / 16)) := HD.out.trans (dec_next _ _ _ h1)
        go_wp2
        refine ⟨⟨3, x * 10 + (s[1]'(by omega)).toNat / 16, by omega, by simp; omega, by simp, ?_, H2.out, trivial⟩, ?_⟩
        · congr 1; simp; omega
        · simp [intOf]
    · simp only [List.drop_succ_cons, List.drop_zero] at hd
      have HD : Hid (Z = dec ((s[1]'(by omega)).toNat % 16 :: []) x) := hd
      have hx3 : (x : Int) < 1000 := by simp at hx; omega
      clear hd hx
      by_cases h1 : 9 < (s[1]'(by omega)).toNat % 16
      · have p1 : (9 : Int) < ((s[1]'(by omega)).toNat : Int) % 16 := by omega
        have H2 : Hid (Z = none) := HD.out.trans (dec_stop _ _ _ h1)
        go_wp2
        go_ret2
        exact ⟨by rw [H2.out]; rfl, Below.refl _ _⟩
      · have p1 : ¬ (9 : Int) < ((s[1]'(by omega)).toNat : Int) % 16 := by omega
        have H2 : Hid (Z = dec [] (x * 10 + (s[1]'(by omega)).toNat % 16)) := HD.out.trans (dec_next _ _ _ h1)
        go_wp2
        refine ⟨⟨4, x * 10 + (s[1]'(by omega)).toNat % 16, by omega, by simp; omega, by simp, ?_, H2.out, trivial⟩, ?_⟩
        · congr 1; simp; omega
        · simp [intOf]
    · have HD : Hid (Z = some x) := hd
      clear hd
      go_wp2
      go_ret2
      exact ⟨by rw [HD.out]; rfl, Below.refl _ _⟩
theorem lengthr_any (h : Nat) (h1 : 1 ≤ h) (h4 : h ≤ 4) (s : ByteArray) (hs : wid h ≤ s.size) (w : World) : Calls Try.prog 48 #[.int .i64 (h : Int), .string s] w fun e w' => e = .returned (.tuple #[.int .i64 ((lenN (num h s.data.toList)).1 : Int), .int .i64 ((lenN (num h s.data.toList)).2 : Int)]) ∧ Below w.heap.size w w' := by
  obtain rfl | rfl | rfl | rfl : h = 1 ∨ h = 2 ∨ h = 3 ∨ h = 4 := by omega
  · exact lengthr_two s hs w
  · exact lengthr_four s hs w
  · exact lengthr_bcd s hs w
  · exact lengthr_whole s hs w
end Go.Proofs.Ytfoddooehanemaa.Da
