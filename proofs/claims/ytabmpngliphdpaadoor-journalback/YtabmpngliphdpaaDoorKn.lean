/- journal, plain: records one behind the other; one byte turned; cut anywhere. -/
import Derived.Test.YtabmpngliphdpaaDoorKm
import Derived.Test.YtabmpngliphdpaaDoorKl
namespace Go.Proofs.YtabmpngliphdpaaDoor.Kn
set_option linter.unusedVariables false
set_option linter.unusedSimpArgs false
open Go.RowKit Ja Jb Jd Ji Jj Jk Jl Jn Jp Jq Jr Jx Kd Ke Kf Kl Km
/- the sum -/
theorem bit_lt {c : Nat} (h : c < 4294967296) : bit c < 4294967296 := by
  unfold bit
  refine lt_xor (by omega) ?_
  split
  · decide
  · decide
theorem xor_left {a b c : Nat} (h : a ^^^ b = a ^^^ c) : b = c := by
  have : a ^^^ (a ^^^ b) = a ^^^ (a ^^^ c) := by rw [h]
  rwa [← Nat.xor_assoc, ← Nat.xor_assoc, Nat.xor_self, Nat.zero_xor, Nat.zero_xor] at this
theorem xor_right {a b c : Nat} (h : b ^^^ a = c ^^^ a) : b = c := xor_left (a := a) (by rwa [Nat.xor_comm a b, Nat.xor_comm a c])
theorem bit_inj {c d : Nat} (hc : c < 4294967296) (hd : d < 4294967296) (h : bit c = bit d) : c = d := by
  unfold bit at h
  have top : ∀ x y : Nat, x < 2147483648 → y < 2147483648 → x ^^^ poly ≠ y := fun x y hx hy e => by
    have h1 : (x ^^^ poly).testBit 31 = y.testBit 31 := by rw [e]
    rw [Nat.testBit_xor, Nat.testBit_lt_two_pow (show x < 2 ^ 31 from hx), Nat.testBit_lt_two_pow (show y < 2 ^ 31 from hy)] at h1
    have h2 : poly.testBit 31 = true := by decide
    rw [h2] at h1
    cases h1
  by_cases h1 : c % 2 = 1
  · by_cases h2 : d % 2 = 1
    · rw [if_pos h1, if_pos h2] at h
      have := xor_right h
      omega
    · rw [if_pos h1, if_neg h2, Nat.xor_zero] at h
      exact absurd h (top _ _ (by omega) (by omega))
  · by_cases h2 : d % 2 = 1
    · rw [if_neg h1, if_pos h2, Nat.xor_zero] at h
      exact absurd h.symm (top _ _ (by omega) (by omega))
    · rw [if_neg h1, if_neg h2, Nat.xor_zero, Nat.xor_zero] at h
      omega
theorem bitK_inj : ∀ (k : Nat) {c d : Nat}, c < 4294967296 → d < 4294967296 → bitK k c = bitK k d → c = d
  | 0, c, d, _, _, h => h
  | k + 1, c, d, hc, hd, h => bit_inj hc hd (bitK_inj k (bit_lt hc) (bit_lt hd) h)
theorem byte_lt (b : UInt8) : b.toNat < 4294967296 := by have := b.toNat_lt; omega
theorem step_injc {c d : Nat} {b : UInt8} (hc : c < 4294967296) (hd : d < 4294967296) (h : Jb.step c b = Jb.step d b) : c = d :=
  xor_right (bitK_inj 8 (lt_xor hc (byte_lt b)) (lt_xor hd (byte_lt b)) h)
theorem step_injb {c : Nat} {b d : UInt8} (hc : c < 4294967296) (h : Jb.step c b = Jb.step c d) : b = d :=
  UInt8.toNat_inj.1 (xor_left (bitK_inj 8 (lt_xor hc (byte_lt b)) (lt_xor hc (byte_lt d)) h))
theorem foldl_lt : ∀ (l : List UInt8) (c : Nat), c < 4294967296 → l.foldl Jb.step c < 4294967296
  | [], c, h => h
  | b :: t, c, h => foldl_lt t _ (step_lt c b h)
theorem foldl_inj : ∀ (l : List UInt8) {c d : Nat}, c < 4294967296 → d < 4294967296 → l.foldl Jb.step c = l.foldl Jb.step d → c = d
  | [], c, d, _, _, h => h
  | b :: t, c, d, hc, hd, h => step_injc hc hd (foldl_inj t (step_lt c b hc) (step_lt d b hd) h)
/-- one byte turned: another sum -/
theorem sum_turn (l1 l2 : List UInt8) (b d : UInt8) (h : sumN (l1 ++ b :: l2) = sumN (l1 ++ d :: l2)) : b = d := by
  have h1 := xor_right h
  unfold fold at h1
  rw [List.foldl_append, List.foldl_append, List.foldl_cons, List.foldl_cons] at h1
  have hc := foldl_lt l1 4294967295 (by decide)
  exact step_injb hc (foldl_inj l2 (step_lt _ _ hc) (step_lt _ _ hc) h1)
theorem sum_lt (l : List UInt8) : sumN l < 4294967296 := lt_xor (fold_lt _) (by decide)
/- four bytes -/
theorem wl_w4 (n : Nat) (hn : n < 4294967296) (t : List UInt8) : wl (w4 n ++ t) = n := by
  have h8 : ∀ m, (UInt8.ofNat m).toNat = m % 256 := fun m => by simp
  unfold wl n4 w4
  simp only [List.cons_append, List.nil_append, List.getD_cons_zero, List.getD_cons_succ, h8]
  omega
/-- the number of four bytes tells each of them -/
theorem wl_inj {l m : List UInt8} (h : wl l = wl m) (i : Nat) (hi : i < 4) : l.getD i 0 = m.getD i 0 := by
  have b0 := (l.getD 0 0).toNat_lt
  have b1 := (l.getD 1 0).toNat_lt
  have b2 := (l.getD 2 0).toNat_lt
  have b3 := (l.getD 3 0).toNat_lt
  have d0 := (m.getD 0 0).toNat_lt
  have d1 := (m.getD 1 0).toNat_lt
  have d2 := (m.getD 2 0).toNat_lt
  have d3 := (m.getD 3 0).toNat_lt
  unfold wl n4 at h
  apply UInt8.toNat_inj.1
  match i, hi with
  | 0, _ => omega
  | 1, _ => omega
  | 2, _ => omega
  | 3, _ => omega
/- what is read of a beginning is read of the whole -/
theorem wd_more : ∀ f k u l v t s, wd f k u l = some (v, t) → wd f k u (l ++ s) = some (v, t ++ s)
  | 0, _, _, _, _, _, _, h => by simp [wd] at h
  | f + 1, _, _, [], _, _, _, h => by simp [wd] at h
  | f + 1, k, u, c :: l, v, t, s, h => by
    rw [wd] at h
    rw [List.cons_append, wd]
    split at h
    · cases h
    · rename_i h1
      rw [if_neg h1]
      split at h
      · rename_i h2
        cases h
        rw [if_pos h2]
      · rename_i h2
        rw [if_neg h2]
        exact wd_more f _ _ l v t s h
theorem wdR_more {l t : List UInt8} (s : List UInt8) (h : wdR (some l) = some t) : wdR (some (l ++ s)) = some (t ++ s) ∧ nmV (some (l ++ s)) = nmV (some l) := by
  unfold nmV wdV
  unfold wdR at h ⊢
  simp only [Option.bind_some] at h ⊢
  cases hw : wd 10 0 0 l with
  | none => rw [hw] at h; cases h
  | some x =>
    obtain ⟨v, t'⟩ := x
    rw [hw] at h
    cases h
    rw [wd_more _ _ _ _ _ _ s hw]
    exact ⟨rfl, rfl⟩
theorem ctR_more {l t : List UInt8} (s : List UInt8) (h : ctR (some l) = some t) : ctR (some (l ++ s)) = some (t ++ s) ∧ ctV (some (l ++ s)) = ctV (some l) := by
  unfold ctV
  unfold ctR at h ⊢
  split at h
  · cases h
  · rename_i h1
    obtain ⟨h2, h3⟩ := wdR_more s h
    rw [h3, if_neg h1, h2]
    exact ⟨rfl, rfl⟩
theorem txR_more {l t : List UInt8} (s : List UInt8) (h : txR (some l) = some t) : txR (some (l ++ s)) = some (t ++ s) := by
  unfold txR at h ⊢
  cases hc : ctR (some l) with
  | none => rw [hc] at h; cases h
  | some x =>
    obtain ⟨h2, h3⟩ := ctR_more s hc
    rw [hc] at h
    rw [h2, h3]
    simp only [Option.bind_some] at h ⊢
    split at h
    · cases h
    · rename_i h1
      cases h
      rw [if_neg (by rw [List.length_append]; omega), List.drop_append_of_le_length (by omega)]
theorem wdR_none : wdR none = none := rfl
theorem txR_none : txR none = none := by
  unfold txR ctR
  split <;> rfl
theorem otR_more {l t : List UInt8} (s : List UInt8) (h : Jo.otR (some l) = some t) : Jo.otR (some (l ++ s)) = some (t ++ s) := by
  unfold Jo.otR at h ⊢
  cases h1 : wdR (some l) with
  | none => rw [h1, wdR_none, wdR_none, wdR_none, txR_none] at h; cases h
  | some l1 =>
    rw [h1] at h
    rw [(wdR_more s h1).1]
    cases h2 : wdR (some l1) with
    | none => rw [h2, wdR_none, wdR_none, txR_none] at h; cases h
    | some l2 =>
      rw [h2] at h
      rw [(wdR_more s h2).1]
      cases h3 : wdR (some l2) with
      | none => rw [h3, wdR_none, txR_none] at h; cases h
      | some l3 =>
        rw [h3] at h
        rw [(wdR_more s h3).1]
        cases h4 : wdR (some l3) with
        | none => rw [h4, txR_none] at h; cases h
        | some l4 =>
          rw [h4] at h
          rw [(wdR_more s h4).1]
          exact txR_more s h
theorem evR_more {l t : List UInt8} (s : List UInt8) (h : Jo.evR (some l) = some t) : Jo.evR (some (l ++ s)) = some (t ++ s) := by
  unfold Jo.evR at h ⊢
  cases h1 : wdR (some l) with
  | none => rw [h1, wdR_none, wdR_none, txR_none] at h; cases h
  | some l1 =>
    rw [h1] at h
    rw [(wdR_more s h1).1]
    cases h2 : wdR (some l1) with
    | none => rw [h2, wdR_none, txR_none] at h; cases h
    | some l2 =>
      rw [h2] at h
      rw [(wdR_more s h2).1]
      cases h3 : wdR (some l2) with
      | none => rw [h3, txR_none] at h; cases h
      | some l3 =>
        rw [h3] at h
        rw [(wdR_more s h3).1]
        exact txR_more s h
theorem lp_more : ∀ (n : Nat) (l t : List UInt8) (s : List UInt8) (xs ys : List Value), (lp n (some l) xs).2 = some t → (lp n (some (l ++ s)) ys).2 = some (t ++ s)
  | 0, l, t, s, xs, ys, h => by
    simp only [lp] at h ⊢
    cases h; rfl
  | n + 1, l, t, s, xs, ys, h => by
    rw [lp] at h ⊢
    cases ho : Jo.otR (some l) with
    | none => rw [ho, lp_none] at h; cases h
    | some l2 =>
      rw [ho] at h
      rw [otR_more s ho]
      exact lp_more n l2 t s _ _ h
theorem osR_more {l t : List UInt8} (s : List UInt8) (h : osR (some l) = some t) : osR (some (l ++ s)) = some (t ++ s) := by
  unfold osR at h ⊢
  cases hc : ctR (some l) with
  | none => rw [hc, lp_none] at h; cases h
  | some l2 =>
    obtain ⟨h2, h3⟩ := ctR_more s hc
    rw [hc] at h
    rw [h2, h3]
    exact lp_more _ l2 t s _ _ h
/-- a body with something behind it is none -/
theorem isB_ext {l s : List UInt8} (h : isB l = true) (hs : s ≠ []) : isB (l ++ s) = false := by
  have h1 : osR (Jo.evR (some l)) = some [] := by
    unfold isB at h
    simpa using h
  cases he : Jo.evR (some l) with
  | none =>
    rw [he] at h1
    unfold osR at h1
    rw [show ctR none = none from by unfold ctR; split <;> rfl, lp_none] at h1
    cases h1
  | some l2 =>
    rw [he] at h1
    unfold isB
    rw [evR_more s he, osR_more s h1, List.nil_append]
    cases s with
    | nil => exact absurd rfl hs
    | cons a b => rfl
end Go.Proofs.YtabmpngliphdpaaDoor.Kn
