/- Plain: what both Decodes read is alike. -/
import Derived.Test.YtiepchghlopfnaaRr
import Derived.Test.YtiepchghlopfnaaEq
import Derived.Test.YtiepchghlopfnaaDv
namespace Go.Proofs.Ytiepchghlopfnaa.Dq
set_option linter.unusedVariables false
open Go.RowKit Pla Bm Bn Br Bv Bw Bx Hf Wr Wt Rh Re Rd Rs Rb De Dv Sx Rr Ak
def stp (enc : Int) : Nat := if enc = 5 then 8 else 4
theorem halfN_congr {f g : Nat → Bool} {b : Nat} : ∀ k, (∀ i, b < i → i ≤ b + k → f i = g i) → halfN f b k = halfN g b k
  | 0, _ => rfl
  | k + 1, h => by rw [halfN, halfN, halfN_congr k (fun i h1 h2 => h i h1 (by omega)), h (b + (k + 1)) (by omega) (by omega)]
theorem half_setB (f : Nat → Bool) (b step v : Nat) (hv : v < 2 ^ step) : halfN (setB f (b + 1) step v step) b step = v := by
  apply Nat.eq_of_testBit_eq
  intro i
  rw [halfN_bit]
  by_cases hi : i < step
  · rw [decide_eq_true hi, Bool.true_and, setB, if_pos (by omega)]; congr 1; omega
  · rw [decide_eq_false hi, Bool.false_and]
    exact (Nat.testBit_lt_two_pow (Nat.lt_of_lt_of_le hv (Nat.pow_le_pow_right (by decide) (by omega)))).symm
def pn (step : Nat) (v : Nat → Nat) : Nat → Nat
  | 0 => 0
  | j + 1 => 2 ^ step * pn step v j + v j
theorem fRow_out (enc : Int) (s : ByteArray) (at_ b step : Nat) (f : Nat → Bool) : ∀ (j i : Nat), (i ≤ b ∨ b + step * j < i) → fRow enc s at_ b step f j i = f i
  | 0, i, _ => rfl
  | j + 1, i, h => by
    rw [fRow, setB]
    have e : step * (j + 1) = step * j + step := by rw [Nat.mul_succ]
    rw [if_neg (by omega)]
    exact fRow_out enc s at_ b step f j i (by omega)
theorem half_fRow (enc : Int) (s : ByteArray) (at_ b step : Nat) (f : Nat → Bool) (n : Nat) (hv : ∀ j, j < n → (valN enc s (at_ + j)).toNat < 2 ^ step) : ∀ j, j ≤ n →
    halfN (fRow enc s at_ b step f j) b (step * j) = pn step (fun j => (valN enc s (at_ + j)).toNat) j
  | 0, _ => rfl
  | j + 1, hj => by
    have ih := half_fRow enc s at_ b step f n hv j (by omega)
    rw [Nat.mul_succ, Eq.half_split, pn, ← ih]
    have e1 : halfN (fRow enc s at_ b step f (j + 1)) b (step * j) = halfN (fRow enc s at_ b step f j) b (step * j) := halfN_congr _ fun i h1 h2 => by
      rw [fRow, setB, if_neg (by omega)]
    have e2 : halfN (fRow enc s at_ b step f (j + 1)) (b + step * j) step = (valN enc s (at_ + j)).toNat := half_setB _ _ _ _ (hv j (by omega))
    rw [e1, e2]
theorem bitsN_pn8 (v : Nat → Nat) : ∀ k, bitsN v k = pn 8 v k
  | 0 => rfl
  | k + 1 => by rw [bitsN, pn, bitsN_pn8 v k]
theorem bitsN_pn4 (v u : Nat → Nat) (n : Nat) (h : ∀ k, k < n → v k = 16 * u (2 * k) + u (2 * k + 1)) : ∀ k, k ≤ n → bitsN v k = pn 4 u (2 * k)
  | 0, _ => rfl
  | k + 1, hk => by
    rw [bitsN, bitsN_pn4 v u n h k (by omega), h k (by omega), show 2 * (k + 1) = (2 * k + 1) + 1 by omega, pn, pn]
    omega
theorem pn_congr {step : Nat} {u v : Nat → Nat} : ∀ n, (∀ j, j < n → u j = v j) → pn step u n = pn step v n
  | 0, _ => rfl
  | n + 1, h => by rw [pn, pn, pn_congr n (fun j hj => h j (by omega)), h n (by omega)]
/-! the tail of a text -/
def tl (s : ByteArray) (a : Nat) : ByteArray := s.extract a s.size
theorem tl_size (s : ByteArray) (a : Nat) : (tl s a).size = s.size - a := by rw [tl, ByteArray.size_extract]; omega
theorem tl_zero (s : ByteArray) : tl s 0 = s := by
  apply ByteArray.ext
  rw [tl, ByteArray.data_extract]
  simp
theorem tl_at (s : ByteArray) (a j : Nat) (h : a + j < s.size) : (tl s a).data[j]! = s.data[a + j]! := by
  have h1 : j < (tl s a).data.size := by have := tl_size s a; have e : (tl s a).data.size = (tl s a).size := rfl; omega
  have h2 : a + j < s.data.size := h
  rw [getElem!_pos _ j h1, getElem!_pos _ (a + j) h2]
  simp [tl, ByteArray.data_extract]
theorem scan_tl (enc : Int) (h5 : enc ≠ 5) (s : ByteArray) (a : Nat) (ha : a ≤ s.size) : ∀ (k i : Nat), i ≤ (tl s a).size → scanD enc s k (a + i) = (scan enc (tl s a) k i).map fun x => (x.1, a + x.2)
  | 0, i, _ => rfl
  | k + 1, i, hi => by
    have ht := tl_size s a
    rw [scanD, scan]
    by_cases h1 : i = (tl s a).size
    · rw [if_pos h1, if_pos (by omega)]; simp; omega
    · rw [if_neg h1, if_neg (by omega)]
      have hv : valN enc s (a + i) = wl enc (tl s a) i := by rw [valN, if_neg h5, wl, wl, tl_at s a i (by omega)]
      rw [hv]
      by_cases h2 : wl enc (tl s a) i < 0
      · rw [if_pos h2, if_pos h2]; rfl
      · rw [if_neg h2, if_neg h2, Nat.add_assoc]; exact scan_tl enc h5 s a ha k (i + 1) (by omega)
theorem scan_five (s : ByteArray) : ∀ (k i : Nat), i ≤ s.size → scanD 5 s k i = if i + k ≤ s.size then none else some (10, s.size)
  | 0, i, h => by rw [if_pos (by omega)]; rfl
  | k + 1, i, h => by
    rw [scanD]
    by_cases h1 : s.size ≤ i
    · rw [if_pos h1, if_neg (by omega)]
    · rw [if_neg h1, if_neg (by rw [valN, if_pos rfl]; omega), scan_five s k (i + 1) (by omega)]
      by_cases h2 : i + 1 + k ≤ s.size
      · rw [if_pos h2, if_pos (by omega)]
      · rw [if_neg h2, if_neg (by omega)]
/-- both read a half alike: the error, its place -/
theorem read_like (enc : Int) (hw : widthN enc ≠ 0) (s : ByteArray) (a : Nat) (ha : a ≤ s.size) :
    (scanD enc s (widthN enc) a = none ∧ (rhV enc (tl s a)).2.1 = 0) ∨ (∃ e p, scanD enc s (widthN enc) a = some (e, p) ∧ (rhV enc (tl s a)).2.1 = e ∧ a + (rhV enc (tl s a)).2.2 = p ∧ e ≠ 0) := by
  have ht := tl_size s a
  rcases width_cases enc hw with ⟨h5, e⟩ | ⟨h5, e⟩
  · subst h5
    rw [e, scan_five s 8 a ha, rhV, if_pos rfl, rbV]
    by_cases h : a + 8 ≤ s.size
    · rw [if_pos h, if_neg (by omega)]; exact Or.inl ⟨rfl, rfl⟩
    · rw [if_neg h, if_pos (by omega)]; exact Or.inr ⟨10, s.size, rfl, rfl, by show a + (tl s a).size = _; omega, by decide⟩
  · have hs := scan_tl enc h5 s a ha 16 0 (by omega)
    rw [Nat.add_zero] at hs
    rw [e, hs, rhV, if_neg h5, rsV]
    cases hq : scan enc (tl s a) 16 0 with
    | none => exact Or.inl ⟨rfl, rfl⟩
    | some x =>
      obtain ⟨e', p⟩ := x
      have := scan_some enc (tl s a) 16 0 e' p hq
      exact Or.inr ⟨e', a + p, rfl, rfl, rfl, by omega⟩
/-- both read a half alike: its bits -/
theorem bits_like (enc : Int) (hw : widthN enc ≠ 0) (s : ByteArray) (a b : Nat) (f : Nat → Bool) (ha : a ≤ s.size) (h : (rhV enc (tl s a)).2.1 = 0) :
    halfN (fRow enc s a b (stp enc) f (widthN enc)) b 64 = bitsN (rhV enc (tl s a)).1 8 := by
  have ht := tl_size s a
  have hok := rhV_ok enc (tl s a) hw h
  rcases width_cases enc hw with ⟨h5, e⟩ | ⟨h5, e⟩
  · subst h5
    have hb := half_fRow 5 s a b 8 f 8 (fun j _ => by rw [valN, if_pos rfl]; exact UInt8.toNat_lt _) 8 (Nat.le_refl _)
    rw [e] at hok ⊢
    rw [show stp 5 = 8 from rfl, hb, bitsN_pn8, rhV, if_pos rfl, rbV, if_neg (by omega)]
    refine pn_congr 8 fun j hj => ?_
    rw [valN, if_pos rfl, Int.toNat_natCast, ← tl_at s a j (by omega)]; rfl
  · have hv : ∀ j, j < 16 → (valN enc s (a + j)).toNat = nb enc (tl s a) j := fun j hj => by
      rw [valN, if_neg h5, nb, wl, wl, tl_at s a j (by omega)]
    have hb := half_fRow enc s a b 4 f 16 (fun j hj => by rw [hv j hj]; exact nb_lt _ _ _) 16 (Nat.le_refl _)
    rw [e] at hok ⊢
    have hn : scan enc (tl s a) 16 0 = none := by
      cases hq : scan enc (tl s a) 16 0 with
      | none => rfl
      | some x =>
        obtain ⟨e', p⟩ := x
        have := scan_some enc (tl s a) 16 0 e' p hq
        rw [rhV, if_neg h5, rsV, hq] at h; simp at h; omega
    rw [show stp enc = 4 by rw [stp, if_neg h5], hb, rhV, if_neg h5, rsV, hn]
    show _ = bitsN (hU enc (tl s a) 16) 8
    rw [bitsN_pn4 (hU enc (tl s a) 16) (nb enc (tl s a)) 8 (fun k hk => by rw [hU, if_pos (by omega)]) 8 (Nat.le_refl _)]
    exact pn_congr 16 hv
end Go.Proofs.Ytiepchghlopfnaa.Dq
