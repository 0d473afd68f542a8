/- Plain facts: how many bits a number has, by the parts of the count. -/
import Derived.Test.YtkleoklcaalogaaPla
namespace Go.Proofs.Ytkleoklcaalogaa.Pop
set_option linter.unusedVariables false
open Go.RowKit Pla
def popN : Nat → Nat → Nat
  | 0, _ => 0
  | k + 1, x => x % 2 + popN k (x / 2)
theorem popN_le : ∀ (k x : Nat), popN k x ≤ k
  | 0, _ => Nat.le_refl _
  | k + 1, x => by have := popN_le k (x / 2); rw [popN]; omega
theorem popN_bits : ∀ (k x y z : Nat), (∀ i, i < k → (x.testBit i).toNat + (y.testBit i).toNat = (z.testBit i).toNat) → popN k x + popN k y = popN k z
  | 0, _, _, _, _ => rfl
  | k + 1, x, y, z, h => by
    have h0 := h 0 (by omega)
    have hr := popN_bits k (x / 2) (y / 2) (z / 2) (fun i hi => by simpa [Nat.testBit_succ] using h (i + 1) (by omega))
    simp only [Nat.testBit_zero] at h0
    rw [popN, popN, popN]
    have e : ∀ v : Nat, (decide (v % 2 = 1)).toNat = v % 2 := fun v => by
      rcases Nat.mod_two_eq_zero_or_one v with e | e <;> simp [e]
    rw [e, e, e] at h0
    omega
def cntN (f : Nat → Bool) (b : Nat) : Nat → Nat
  | 0 => 0
  | k + 1 => cntN f b k + (f (b + (k + 1))).toNat
theorem pop_half (f : Nat → Bool) (b : Nat) : ∀ k, popN k (halfN f b k) = cntN f b k
  | 0 => rfl
  | k + 1 => by
    have e1 : (2 * halfN f b k + (f (b + (k + 1))).toNat) / 2 = halfN f b k := by cases f (b + (k + 1)) <;> simp <;> omega
    have e2 : (2 * halfN f b k + (f (b + (k + 1))).toNat) % 2 = (f (b + (k + 1))).toNat := by cases f (b + (k + 1)) <;> simp <;> omega
    rw [popN, halfN, e1, e2, pop_half f b k, cntN]; omega
/-- a mask, byte by byte -/
def M (c : Nat) : Nat → Nat
  | 0 => 0
  | k + 1 => c + 256 * M c k
theorem and_split (b c x m : Nat) (hb : b < 256) (hc : c < 256) : (b + 256 * x) &&& (c + 256 * m) = (b &&& c) + 256 * (x &&& m) := by
  have h1 := @Nat.and_mod_two_pow (b + 256 * x) (c + 256 * m) 8
  have h2 := @Nat.and_div_two_pow (b + 256 * x) (c + 256 * m) 8
  have e1 : (b + 256 * x) % 2 ^ 8 = b := by omega
  have e2 : (c + 256 * m) % 2 ^ 8 = c := by omega
  have e3 : (b + 256 * x) / 2 ^ 8 = x := by omega
  have e4 : (c + 256 * m) / 2 ^ 8 = m := by omega
  rw [e1, e2] at h1
  rw [e3, e4] at h2
  omega
def t1 (b : Nat) : Nat := (b / 2 &&& 85) + (b &&& 85)
def t2 (b : Nat) : Nat := (b / 4 &&& 51) + (b &&& 51)
def t3 (b : Nat) : Nat := (b / 16 + b) &&& 15
def s1 (k x : Nat) : Nat := (x / 2 &&& M 85 k) + (x &&& M 85 k)
def s2 (k x : Nat) : Nat := (x / 4 &&& M 51 k) + (x &&& M 51 k)
def s3 (k x : Nat) : Nat := (x / 16 + x) &&& M 15 k
theorem low1 : ∀ b, b < 256 → (b / 2 + 128) &&& 85 = b / 2 &&& 85 := by decide +kernel
theorem low2 : ∀ b, b < 256 → ∀ q, q < 4 → (b / 4 + 64 * q) &&& 51 = b / 4 &&& 51 := by decide +kernel
theorem t1_lt : ∀ b, b < 256 → t1 b < 256 := by decide +kernel
theorem t12 : ∀ b, b < 256 → t2 (t1 b) < 69 ∧ t2 (t1 b) % 16 < 5 ∧ t2 (t1 b) / 16 < 5 ∧ t3 (t2 (t1 b)) = popN 8 b := by decide +kernel
theorem low3 : ∀ b, b < 69 → b % 16 < 5 → ∀ q, q < 5 → (b / 16 + b + 16 * q) &&& 15 = t3 b ∧ b / 16 + b + 16 * q < 256 := by decide +kernel
theorem s1_step (k b x : Nat) (hb : b < 256) : s1 (k + 1) (b + 256 * x) = t1 b + 256 * s1 k x := by
  have e : (b + 256 * x) / 2 = (b / 2 + 128 * (x % 2)) + 256 * (x / 2) := by omega
  have l : (b / 2 + 128 * (x % 2)) &&& 85 = b / 2 &&& 85 := by
    rcases Nat.mod_two_eq_zero_or_one x with h | h
    · rw [h]; rfl
    · rw [h]; exact low1 b hb
  rw [s1, M, e, and_split _ _ _ _ (by omega) (by decide), and_split _ _ _ _ hb (by decide), l, t1, s1]
  omega
theorem s2_step (k b x : Nat) (hb : b < 256) : s2 (k + 1) (b + 256 * x) = t2 b + 256 * s2 k x := by
  have e : (b + 256 * x) / 4 = (b / 4 + 64 * (x % 4)) + 256 * (x / 4) := by omega
  rw [s2, M, e, and_split _ _ _ _ (by omega) (by decide), and_split _ _ _ _ hb (by decide), low2 b hb _ (by omega), t2, s2]
  omega
theorem s3_step (k b x : Nat) (hb : b < 69) (hb' : b % 16 < 5) (hx : x % 16 < 5) : s3 (k + 1) (b + 256 * x) = t3 b + 256 * s3 k x := by
  have e : (b + 256 * x) / 16 + (b + 256 * x) = (b / 16 + b + 16 * (x % 16)) + 256 * (x / 16 + x) := by omega
  have l := low3 b hb hb' (x % 16) hx
  rw [s3, M, e, and_split _ _ _ _ l.2 (by decide), l.1, s3]
/-- the numbers of the bytes -/
def byts : Nat → Nat → Nat
  | 0, _ => 0
  | k + 1, x => popN 8 (x % 256) + 256 * byts k (x / 256)
theorem s_low : ∀ (k x : Nat), s2 k (s1 k x) % 16 < 5
  | 0, x => by simp [s2, M]
  | k + 1, x => by
    have e : x = x % 256 + 256 * (x / 256) := by omega
    rw [e, s1_step _ _ _ (by omega), s2_step _ _ _ (t1_lt _ (by omega))]
    have := (t12 (x % 256) (by omega)).2.1
    omega
theorem s_all : ∀ (k x : Nat), s3 k (s2 k (s1 k x)) = byts k x
  | 0, x => by simp [s3, M, byts]
  | k + 1, x => by
    have e : x = x % 256 + 256 * (x / 256) := by omega
    have t := t12 (x % 256) (by omega)
    rw [byts]
    conv => lhs; rw [e, s1_step _ _ _ (by omega), s2_step _ _ _ (t1_lt _ (by omega)), s3_step _ _ _ t.1 t.2.1 (s_low k _), t.2.2.2, s_all k]
theorem popN_add : ∀ (j k x : Nat), popN (j + k) x = popN j x + popN k (x / 2 ^ j)
  | 0, k, x => by simp [popN]
  | j + 1, k, x => by
    rw [show j + 1 + k = (j + k) + 1 by omega, popN, popN_add j k, popN, Nat.div_div_eq_div_mul, ← Nat.pow_succ', Nat.add_assoc]
theorem popN_mod : ∀ (j x : Nat), popN j (x % 2 ^ j) = popN j x
  | 0, x => rfl
  | j + 1, x => by
    have e1 : x % 2 ^ (j + 1) % 2 = x % 2 := by rw [Nat.pow_succ', Nat.mod_mul_right_mod]
    have e2 : x % 2 ^ (j + 1) / 2 = x / 2 % 2 ^ j := by rw [Nat.pow_succ', Nat.mod_mul_right_div_self]
    rw [popN, popN, e1, e2, popN_mod j]
theorem pop_byte (k x : Nat) : popN (8 + k) x = popN 8 (x % 256) + popN k (x / 256) := by
  rw [popN_add, ← popN_mod 8 x]
theorem sums (p0 p1 p2 p3 p4 p5 p6 p7 P a b c : Nat) (l0 : p0 ≤ 8) (l1 : p1 ≤ 8) (l2 : p2 ≤ 8) (l3 : p3 ≤ 8) (l4 : p4 ≤ 8) (l5 : p5 ≤ 8) (l6 : p6 ≤ 8) (l7 : p7 ≤ 8)
    (hP : P = p0 + 256 * (p1 + 256 * (p2 + 256 * (p3 + 256 * (p4 + 256 * (p5 + 256 * (p6 + 256 * (p7 + 256 * 0))))))))
    (ha : a = P + P / 256) (hb : b = a + a / 65536) (hc : c = b + b / 4294967296) :
    a < 18446744073709551616 ∧ b < 18446744073709551616 ∧ c < 18446744073709551616 ∧ c % 128 = p0 + p1 + p2 + p3 + p4 + p5 + p6 + p7 := by
  obtain ⟨Q, hQ⟩ : ∃ Q, Q = p1 + 256 * (p2 + 256 * (p3 + 256 * (p4 + 256 * (p5 + 256 * (p6 + 256 * (p7 + 256 * 0)))))) := ⟨_, rfl⟩
  rw [← hQ] at hP
  have e1 : P / 256 = Q := by omega
  rw [e1] at ha
  obtain ⟨A, hA⟩ : ∃ A, A = (p2 + p3) + 256 * (p3 + p4) + 65536 * (p4 + p5) + 16777216 * (p5 + p6) + 4294967296 * (p6 + p7) + 1099511627776 * p7 := ⟨_, rfl⟩
  have ha' : a = ((p0 + p1) + 256 * (p1 + p2)) + 65536 * A := by subst hP hA ha hQ; omega
  have e2 : a / 65536 = A := by clear hA ha hP hQ hb hc e1; omega
  rw [e2] at hb
  obtain ⟨B, hB⟩ : ∃ B, B = (p4 + p5 + p6 + p7) + 256 * (p5 + p6 + p7) + 65536 * (p6 + p7) + 16777216 * p7 := ⟨_, rfl⟩
  have hb' : b = ((p0 + p1 + p2 + p3) + 256 * (p1 + p2 + p3 + p4) + 65536 * (p2 + p3 + p4 + p5) + 16777216 * (p3 + p4 + p5 + p6)) + 4294967296 * B := by
    clear ha hP hQ e1 e2 hc; subst hb ha' hA hB; omega
  have e3 : b / 4294967296 = B := by clear hA ha ha' hP hQ hb hc e1 e2 hB; omega
  rw [e3] at hc
  have hA' : A < 281474976710656 := by clear ha ha' hb hb' hc hP hQ e1 e2 e3 hB; omega
  have hB' : B < 4294967296 := by clear ha ha' hb hb' hc hP hQ e1 e2 e3 hA hA'; omega
  refine ⟨by clear ha hb hb' hc hP hQ e1 e2 e3 hB hA hB'; omega, by clear ha hb ha' hc hP hQ e1 e2 e3 hB hA hA'; omega, ?_, ?_⟩
  · clear ha hb ha' hP hQ e1 e2 e3 hA hA'
    have : B ≤ 33 * 16777216 := by omega
    clear hB; omega
  · clear ha hb ha' hP hQ e1 e2 e3 hA hA' hB'
    subst hc hb' hB
    omega
/-- what stands behind the three sums -/
theorem count (x a b c : Nat) (ha : a = byts 8 x + byts 8 x / 256) (hb : b = a + a / 65536) (hc : c = b + b / 4294967296) :
    a < 18446744073709551616 ∧ b < 18446744073709551616 ∧ c < 18446744073709551616 ∧ c % 128 = popN 64 x := by
  have hl : ∀ y, popN 8 y ≤ 8 := popN_le 8
  have h := sums _ _ _ _ _ _ _ _ (byts 8 x) a b c (hl (x % 256)) (hl (x / 256 % 256)) (hl (x / 256 / 256 % 256)) (hl (x / 256 / 256 / 256 % 256)) (hl (x / 256 / 256 / 256 / 256 % 256)) (hl (x / 256 / 256 / 256 / 256 / 256 % 256)) (hl (x / 256 / 256 / 256 / 256 / 256 / 256 % 256)) (hl (x / 256 / 256 / 256 / 256 / 256 / 256 / 256 % 256)) rfl ha hb hc
  refine ⟨h.1, h.2.1, h.2.2.1, h.2.2.2.trans ?_⟩
  have hp : popN 64 x = _ := pop_byte 56 x
  rw [pop_byte 48, pop_byte 40, pop_byte 32, pop_byte 24, pop_byte 16, pop_byte 8] at hp
  rw [hp, ← popN_mod 8 (x / 256 / 256 / 256 / 256 / 256 / 256 / 256)]
  simp only [Nat.add_assoc]
end Go.Proofs.Ytkleoklcaalogaa.Pop
