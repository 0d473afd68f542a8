/- Frames: the small functions of headers. -/
import Derived.Test.YtfoddooehanemaaFa
import Derived.BigQuiet
namespace Go.Proofs.Ytfoddooehanemaa.Fb
set_option linter.unusedVariables false
set_option linter.unusedSimpArgs false
open Go.RowKit Kb Fa
def widI (h : Int) : Nat := if h = 1 then 2 else if h = 3 then 2 else if h = 4 then 2 else if h = 2 then 4 else 0
theorem widI_nat (h : Nat) (h1 : 1 ≤ h) (h2 : h ≤ 4) : widI (h : Int) = wid h := by
  match h, h1, h2 with
  | 1, _, _ => rfl
  | 2, _, _ => rfl
  | 3, _, _ => rfl
  | 4, _, _ => rfl
theorem width_int (h : Int) (w : World) : Calls Try.prog 36 #[.int .i64 h] w fun e w' => e = .returned (.int .i64 (widI h : Int)) ∧ w' = w := by
  by_cases h1 : h = 1
  · subst h1
    go_enter Try.func36, Try.ntmps36
    go_wp2
    go_ret
    exact ⟨rfl, rfl⟩
  by_cases h3 : h = 3
  · subst h3
    go_enter Try.func36, Try.ntmps36
    go_wp2
    go_ret
    exact ⟨rfl, rfl⟩
  by_cases h4 : h = 4
  · subst h4
    go_enter Try.func36, Try.ntmps36
    go_wp2
    go_ret
    exact ⟨rfl, rfl⟩
  by_cases h2 : h = 2
  · subst h2
    go_enter Try.func36, Try.ntmps36
    go_wp2
    go_ret
    exact ⟨rfl, rfl⟩
  rw [widI, if_neg h1, if_neg h3, if_neg h4, if_neg h2]
  go_enter Try.func36, Try.ntmps36
  go_wp2
  go_ret
  exact ⟨rfl, rfl⟩
theorem width_any (h : Nat) (h1 : 1 ≤ h) (h2 : h ≤ 4) (w : World) : Calls Try.prog 36 #[.int .i64 (h : Int)] w fun e w' => e = .returned (.int .i64 (wid h : Int)) ∧ w' = w := by
  have := width_int h w
  rwa [widI_nat h h1 h2] at this
def rgt (h m : Int) : Bool := decide (1 ≤ h) && decide (h ≤ 4) && decide (1 ≤ m) && decide (m ≤ 9999)
theorem widI_pos (h : Int) : 0 < widI h ↔ (1 ≤ h ∧ h ≤ 4) := by
  unfold widI
  by_cases h1 : h = 1
  · rw [if_pos h1]; omega
  rw [if_neg h1]
  by_cases h3 : h = 3
  · rw [if_pos h3]; omega
  rw [if_neg h3]
  by_cases h4 : h = 4
  · rw [if_pos h4]; omega
  rw [if_neg h4]
  by_cases h2 : h = 2
  · rw [if_pos h2]; omega
  rw [if_neg h2]; omega
theorem right_any (h m : Int) (w : World) : Calls Try.prog 33 #[.int .i64 h, .int .i64 m] w fun e w' => e = .returned (.bool (rgt h m)) ∧ w' = w := by
  have p := fun w => width_int h w
  have e : Hid (rgt h m = (decide (0 < widI h) && (decide (1 ≤ m) && decide (m ≤ 9999)))) := by
    show _ = _
    have hw := widI_pos h
    by_cases q : 0 < widI h
    · obtain ⟨q1, q2⟩ := hw.1 q
      simp [rgt, q, q1, q2]
    · have q3 : ¬ (1 ≤ h ∧ h ≤ 4) := fun z => q (hw.2 z)
      rw [rgt, decide_eq_false q, Bool.false_and, ← Bool.decide_and, decide_eq_false q3]; simp
  by_cases a : 0 < widI h
  · have a2 : (0 : Int) < (widI h : Int) := by omega
    by_cases b : 1 ≤ m
    · by_cases c : m ≤ 9999
      · have e2 : Hid (rgt h m = true) := by show _ = _; rw [e.out]; simp [a, b, c]
        clear e a
        generalize widI h = W at *
        go_enter Try.func33, Try.ntmps33
        go_wp2_with (go_at_call 36; refine (p _).mono ?_; rintro e y ⟨rfl, hy⟩; rw [hy]; clear hy y)
        go_ret
        exact ⟨by rw [e2.out]; first | rfl | (simp; omega), rfl⟩
      · have e2 : Hid (rgt h m = false) := by show _ = _; rw [e.out]; simp [a, b, c]
        clear e a
        generalize widI h = W at *
        go_enter Try.func33, Try.ntmps33
        go_wp2_with (go_at_call 36; refine (p _).mono ?_; rintro e y ⟨rfl, hy⟩; rw [hy]; clear hy y)
        go_ret
        exact ⟨by rw [e2.out]; first | rfl | (simp; omega), rfl⟩
    · have e2 : Hid (rgt h m = false) := by show _ = _; rw [e.out]; simp [a, b]
      clear e a
      generalize widI h = W at *
      go_enter Try.func33, Try.ntmps33
      go_wp2_with (go_at_call 36; refine (p _).mono ?_; rintro e y ⟨rfl, hy⟩; rw [hy]; clear hy y)
      go_ret
      exact ⟨by rw [e2.out]; first | rfl | (simp; omega), rfl⟩
  · have e2 : Hid (rgt h m = false) := by show _ = _; rw [e.out]; simp [a]
    obtain a2 : widI h = 0 := by omega
    rw [a2] at p
    clear e a
    go_enter Try.func33, Try.ntmps33
    go_wp2_with (go_at_call 36; refine (p _).mono ?_; rintro e y ⟨rfl, hy⟩; rw [hy]; clear hy y)
    go_ret
    exact ⟨by rw [e2.out]; first | rfl | (simp; omega), rfl⟩
theorem dec_lt : ∀ (ds : List Nat) (n k : Nat), dec ds n = some k → k < (n + 1) * 10 ^ ds.length
  | [], n, k, h => by
    simp only [dec, Option.some.injEq] at h
    subst h
    simp
  | d :: ds, n, k, h => by
    simp only [dec] at h
    by_cases hd : 9 < d
    · rw [if_pos hd] at h; cases h
    · rw [if_neg hd] at h
      have := dec_lt ds _ _ h
      rw [List.length_cons, Nat.pow_succ]
      refine Nat.lt_of_lt_of_le this ?_
      rw [Nat.mul_comm (10 ^ ds.length) 10, ← Nat.mul_assoc]
      exact Nat.mul_le_mul_right _ (by omega)
def decB (ds : List Nat) (n : Nat) : Bool := (dec ds n).isSome
def decN (ds : List Nat) (n : Nat) : Nat := (dec ds n).getD 0
set_option maxRecDepth 100000 in
set_option maxHeartbeats 1600000 in
/-- four digits in a block of their own -/
theorem decimal_any (d0 d1 d2 d3 : Nat) (h0 : d0 < 256) (h1 : d1 < 256) (h2 : d2 < 256) (h3 : d3 < 256) (g c : Nat) (w : World)
    (c0 : w.cell? ⟨g, 0, none⟩ = some (.int .u8 (d0 : Int))) (c1 : w.cell? ⟨g, 1, none⟩ = some (.int .u8 (d1 : Int))) (c2 : w.cell? ⟨g, 2, none⟩ = some (.int .u8 (d2 : Int))) (c3 : w.cell? ⟨g, 3, none⟩ = some (.int .u8 (d3 : Int))) :
    Calls Try.prog 75 #[.slice (some ⟨g, 0, none⟩) 4 c] w fun e w' => e = .returned (.tuple #[.int .i64 (decN [d0, d1, d2, d3] 0 : Int), .bool (decB [d0, d1, d2, d3] 0)]) ∧ w' = w := by
  have fall : ∀ k : Nat, k < 4 → ∃ d : Nat, d < 256 ∧ w.cell? ⟨g, k, none⟩ = some (.int .u8 (d : Int)) ∧ [d0, d1, d2, d3].drop k = d :: [d0, d1, d2, d3].drop (k + 1) := by
    intro k hk
    match k, hk with
    | 0, _ => exact ⟨d0, h0, c0, rfl⟩
    | 1, _ => exact ⟨d1, h1, c1, rfl⟩
    | 2, _ => exact ⟨d2, h2, c2, rfl⟩
    | 3, _ => exact ⟨d3, h3, c3, rfl⟩
  have hd4 : [d0, d1, d2, d3].drop 4 = [] := rfl
  have FF : Hid (∀ k : Nat, k < 4 → ∃ d : Nat, d < 256 ∧ w.cell? ⟨g, k, none⟩ = some (.int .u8 (d : Int)) ∧ [d0, d1, d2, d3].drop k = d :: [d0, d1, d2, d3].drop (k + 1)) := fall
  have e0 : [d0, d1, d2, d3].drop 0 = [d0, d1, d2, d3] := rfl
  generalize [d0, d1, d2, d3] = L at *
  have HD : Hid (L.drop 4 = []) := hd4
  have HE : Hid (L.drop 0 = L) := e0
  clear fall c0 c1 c2 c3 h0 h1 h2 h3 hd4 e0
  go_enter Try.func75, Try.ntmps75
  go_wp2
  go_loopw [4, 9] (fun n i wr => ∃ (k x : Nat), k ≤ 4 ∧ x < 10 ^ k ∧ i = .int .i64 (k : Int) ∧ n = .int .i64 (x : Int) ∧ dec L 0 = dec (L.drop k) x ∧ wr = w) (fun _ i _ => 5 - (intOf i).toNat)
  case atStart => exact ⟨0, 0, by omega, by omega, rfl, rfl, by rw [HE.out], rfl⟩
  case round =>
    obtain ⟨k, x, hk, hx, rfl, rfl, hd, rfl⟩ := hrel
    have HX : Hid (dec L 0 = dec (L.drop k) x) := hd
    clear hd
    by_cases hk4 : k < 4
    · obtain ⟨d, hd, hc, hl⟩ := FF.out k hk4
      have HL : Hid (L.drop k = d :: L.drop (k + 1)) := hl
      clear hl
      have q0 : (0 : Int) ≤ (k : Int) := by omega
      have q1 : (k : Int) < 4 := by omega
      have hx2 : x < 10000 := Nat.lt_of_lt_of_le hx (Nat.pow_le_pow_right (n := 10) (by decide) (show k ≤ 4 by omega))
      have HXP : Hid (x < 10 ^ k) := hx
      clear hx
      have hx3 : (x : Int) < 10000 := by omega
      have hd3 : (d : Int) < 256 := by omega
      by_cases h9 : 9 < d
      · have q2 : (9 : Int) < (d : Int) := by omega
        go_wp2
        go_ret2
        refine ⟨?_, rfl⟩
        have e1 : dec L 0 = none := by rw [HX.out, HL.out]; simp only [dec]; rw [if_pos h9]
        rw [decN, decB, e1]; rfl
      · have q2 : (d : Int) ≤ 9 := by omega
        go_wp2
        refine ⟨⟨k + 1, x * 10 + d, by omega, ?_, by simp, by simp, ?_, trivial⟩, ?_⟩
        · have := HXP.out; rw [Nat.pow_succ]; omega
        · rw [HX.out, HL.out]; simp only [dec]; rw [if_neg h9]
        · simp only [intOf]; omega
    · obtain rfl : k = 4 := by omega
      have e1 : Hid (dec L 0 = some x) := by show _ = _; rw [HX.out, HD.out]; rfl
      go_wp2
      go_ret2
      exact ⟨by rw [decN, decB, e1.out]; rfl, rfl⟩
theorem i64_or_nat (a b : Nat) (ha : a < 9223372036854775808) (hb : b < 9223372036854775808) : bits .or .i64 (a : Int) (b : Int) = ((a ||| b : Nat) : Int) := by
  have hx : a ||| b < 2 ^ 63 := Nat.or_lt_two_pow (by omega) (by omega)
  show IntKind.i64.wrap ((BitVec.ofInt 64 (a : Int) ||| BitVec.ofInt 64 (b : Int)).toNat : Int) = _
  rw [BitVec.toNat_or, ofInt_u64 a (by omega), ofInt_u64 b (by omega), IntKind.wrap_i64]
  omega
theorem or_low (x y : Nat) (hx : x < 256) (hy : y < 256) : bits .or .i64 ((x : Int) * 256) (y : Int) = ((256 * x + y : Nat) : Int) := by
  have e : 256 * x ||| y = 256 * x + y := (@Nat.two_pow_add_eq_or_of_lt 8 y hy x).symm
  have h := i64_or_nat (256 * x) y (by omega) (by omega)
  rw [e] at h
  rw [← h]
  congr 1
  simp; omega
end Go.Proofs.Ytfoddooehanemaa.Fb
