/- The lowest bits of a key's bytes go nowhere; parts that are alike; plain. -/
import Derived.Test.YtdgiekaiagpdjaaBl
import Derived.Test.YtdgiekaiagpdjaaPm
namespace Go.Proofs.Ytdgiekaiagpdjaa.Lo
set_option linter.unusedVariables false
open Go.RowKit Pla
theorem hlv_of (a b : List Bool) (h : tk tK1 a = tk tK1 b) : ∀ n, hlv a n = hlv b n
  | 0 => by rw [hlv, hlv, h]
  | n + 1 => by rw [hlv, hlv, hlv_of a b h n]
theorem sched_of (a b : List Bool) (h : tk tK1 a = tk tK1 b) : sched a = sched b := by
  unfold sched
  congr 1
  funext n
  rw [rk, rk, hlv_of a b h]
theorem bits_at : ∀ (l : List UInt8) (q r : Nat), r < 8 → (bitsS l).getD (8 * q + r) false = (l.getD q 0).toNat.testBit (7 - r)
  | [], q, r, hr => by simp [bitsS]
  | c :: l, 0, r, hr => by
      have hl : r < (bitsN 8 c.toNat).length := by rw [bitsN_len]; exact hr
      have e : bitsS (c :: l) = bitsN 8 c.toNat ++ bitsS l := by simp [bitsS]
      rw [e, List.getD_eq_getElem?_getD, show 8 * 0 + r = r by omega, List.getElem?_append_left hl, ← List.getD_eq_getElem?_getD, bitsN_get 8 _ r hr]; rfl
  | c :: l, q + 1, r, hr => by
      have hl : (bitsN 8 c.toNat).length = 8 := bitsN_len _ _
      have e : bitsS (c :: l) = bitsN 8 c.toNat ++ bitsS l := by simp [bitsS]
      rw [e, List.getD_eq_getElem?_getD, List.getElem?_append_right (by omega), ← List.getD_eq_getElem?_getD, hl, show 8 * (q + 1) + r - 8 = 8 * q + r by omega, bits_at l q r hr]; rfl
/-- the same bytes but for their lowest bits -/
def Alk (a b : List UInt8) : Prop := ∀ t, (a.getD t 0).toNat / 2 = (b.getD t 0).toNat / 2
theorem k1_no8 : ∀ i ∈ tK1, 1 ≤ i ∧ (i - 1) % 8 < 7 := by decide
theorem tk_low (a b : List UInt8) (h : Alk a b) : tk tK1 (bitsS a) = tk tK1 (bitsS b) := by
  unfold tk
  apply List.map_congr_left
  intro i hi
  obtain ⟨h1, h2⟩ := k1_no8 i hi
  have e : i - 1 = 8 * ((i - 1) / 8) + (i - 1) % 8 := by omega
  rw [e, bits_at a _ _ (by omega), bits_at b _ _ (by omega)]
  have s : 7 - (i - 1) % 8 = (6 - (i - 1) % 8) + 1 := by omega
  rw [s, Nat.testBit_succ, Nat.testBit_succ, h]
theorem sched_low (a b : List UInt8) (h : Alk a b) : sched (bitsS a) = sched (bitsS b) := sched_of _ _ (tk_low a b h)
theorem alike_pt (a b : List UInt8) (h : Alk a b) (i : Nat) : Alk (pt a i) (pt b i) := by
  intro t
  by_cases ht : t < 8
  · have e : ∀ l : List UInt8, (pt l i).getD t 0 = l.getD (8 * i + t) 0 := by
      intro l; simp [pt, ht]
    rw [e, e]; exact h _
  · have e : ∀ l : List UInt8, (pt l i).getD t 0 = 0 := by
      intro l
      rw [List.getD_eq_getElem?_getD, List.getElem?_eq_none (by rw [pt, List.length_take]; omega)]; rfl
    rw [e, e]
theorem sc_low (a b : List UInt8) (h : Alk a b) (i : Nat) : sc a i = sc b i := sched_low _ _ (alike_pt a b h i)
theorem enc_low (a b : List UInt8) (h : Alk a b) (hl : a.length = b.length) (x : List Bool) : enc a x = enc b x := by
  unfold enc lst
  simp only [hl, sc_low a b h]
theorem dec_low (a b : List UInt8) (h : Alk a b) (hl : a.length = b.length) (x : List Bool) : dec a x = dec b x := by
  unfold dec lst
  simp only [hl, sc_low a b h]
theorem pt_zero (a b : List UInt8) (h : a.length = 8) : pt (a ++ b) 0 = a := by
  simp [pt, h]
theorem pt_one (a : List UInt8) (h : a.length = 8) : pt a 0 = a := by
  rw [pt, Nat.mul_zero, List.drop_zero, List.take_of_length_le (by omega)]
theorem pt_next (a b : List UInt8) (h : a.length = 8) (i : Nat) : pt (a ++ b) (i + 1) = pt b i := by
  have e : List.drop (8 * (i + 1)) (a ++ b) = List.drop (8 * i) b := by
    rw [List.drop_append, List.drop_of_length_le (by omega), List.nil_append]; congr 1; omega
  rw [pt, pt, e]
theorem enc_aa (a : List UInt8) (ha : a.length = 8) (x : List Bool) (hx : x.length = 64) : enc (a ++ a) x = enc a x := by
  have h0 : sc (a ++ a) 0 = sc a 0 := by rw [sc, sc, pt_zero a a ha, pt_one a ha]
  have h1 : sc (a ++ a) 1 = sc a 0 := by rw [sc, sc, pt_next a a ha 0]
  unfold enc lst
  rw [if_neg (by rw [List.length_append]; omega), if_pos (by rw [List.length_append]; omega), if_pos ha, h0, h1, Pm.des_back _ _ hx]
theorem enc_aac (a c : List UInt8) (ha : a.length = 8) (hc : c.length = 8) (x : List Bool) (hx : x.length = 64) : enc (a ++ (a ++ c)) x = enc c x := by
  have h0 : sc (a ++ (a ++ c)) 0 = sc a 0 := by rw [sc, sc, pt_zero a _ ha, pt_one a ha]
  have h1 : sc (a ++ (a ++ c)) 1 = sc a 0 := by rw [sc, sc, pt_next a _ ha 0, pt_zero a _ ha, pt_one a ha]
  have h2 : sc (a ++ (a ++ c)) 2 = sc c 0 := by rw [sc, sc, pt_next a _ ha 1, pt_next a _ ha 0]
  unfold enc lst
  rw [if_neg (by rw [List.length_append, List.length_append]; omega), if_neg (by rw [List.length_append, List.length_append]; omega), if_pos hc, h0, h1, h2, Pm.des_back _ _ hx]
theorem enc_acc (a c : List UInt8) (ha : a.length = 8) (hc : c.length = 8) (x : List Bool) (hx : x.length = 64) : enc (a ++ (c ++ c)) x = enc a x := by
  have h0 : sc (a ++ (c ++ c)) 0 = sc a 0 := by rw [sc, sc, pt_zero a _ ha, pt_one a ha]
  have h1 : sc (a ++ (c ++ c)) 1 = sc c 0 := by rw [sc, sc, pt_next a _ ha 0, pt_zero c _ hc, pt_one c hc]
  have h2 : sc (a ++ (c ++ c)) 2 = sc c 0 := by rw [sc, sc, pt_next a _ ha 1, pt_next c _ hc 0]
  unfold enc lst
  rw [if_neg (by rw [List.length_append, List.length_append]; omega), if_neg (by rw [List.length_append, List.length_append]; omega), if_pos ha, h0, h1, h2]
  have := Pm.des_back (sc c 0).reverse (des (sc a 0) x) (des_len _ _)
  rw [List.reverse_reverse] at this
  exact this
theorem enc_aca (a c : List UInt8) (ha : a.length = 8) (hc : c.length = 8) (x : List Bool) : enc (a ++ (c ++ a)) x = enc (a ++ c) x := by
  have h0 : sc (a ++ (c ++ a)) 0 = sc a 0 := by rw [sc, sc, pt_zero a _ ha, pt_one a ha]
  have h1 : sc (a ++ (c ++ a)) 1 = sc c 0 := by rw [sc, sc, pt_next a _ ha 0, pt_zero c _ hc, pt_one c hc]
  have h2 : sc (a ++ (c ++ a)) 2 = sc a 0 := by rw [sc, sc, pt_next a _ ha 1, pt_next c _ hc 0]
  have g0 : sc (a ++ c) 0 = sc a 0 := by rw [sc, sc, pt_zero a _ ha, pt_one a ha]
  have g1 : sc (a ++ c) 1 = sc c 0 := by rw [sc, sc, pt_next a _ ha 0]
  unfold enc lst
  rw [if_neg (by rw [List.length_append, List.length_append]; omega), if_neg (by rw [List.length_append, List.length_append]; omega), if_neg (by rw [List.length_append]; omega), if_pos (by rw [List.length_append]; omega), h0, h1, h2, g0, g1]
/-- the weak keys' rows of round keys read the same from behind -/
theorem wk_rev : ∀ l ∈ ([[1, 1, 1, 1, 1, 1, 1, 1], [254, 254, 254, 254, 254, 254, 254, 254], [224, 224, 224, 224, 241, 241, 241, 241], [31, 31, 31, 31, 14, 14, 14, 14]] : List (List UInt8)), (sched (bitsS l)).reverse = sched (bitsS l) := by decide +kernel
theorem enc_twice (l k : List UInt8) (hl : l.length = 8) (hk : (sched (bitsS k)).reverse = sched (bitsS k)) (h : Alk l k) (x : List Bool) (hx : x.length = 64) : enc l (enc l x) = x := by
  have e : sc l 0 = sched (bitsS k) := by rw [sc, pt_one l hl, sched_low l k h]
  unfold enc
  rw [if_pos hl, if_pos hl, e]
  have := Pm.des_back (sched (bitsS k)) x hx
  rw [hk] at this
  exact this
end Go.Proofs.Ytdgiekaiagpdjaa.Lo
