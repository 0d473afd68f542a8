/- What is written is read: plain. -/
import Derived.Test.YtkleoklcaalogaaAg
namespace Go.Proofs.Ytkleoklcaalogaa.Bp
set_option linter.unusedVariables false
open Go.RowKit Pla Bm Bn Br Bv Bw Bx Hf Wr Wt En Eo Rd Rs Rb De Dv Ag
theorem hb_lt (x i : Nat) : Hf.hb x i < 256 := Nat.mod_lt _ (by decide)
theorem bitsN_congr {u v : Nat → Nat} : ∀ k, (∀ i, i < k → u i = v i) → bitsN u k = bitsN v k
  | 0, _ => rfl
  | k + 1, h => by rw [bitsN, bitsN, bitsN_congr k (fun i hi => h i (by omega)), h k (by omega)]
theorem bits_hb (x : Nat) (hx : x < 18446744073709551616) : bitsN (Hf.hb x) 8 = x := by
  simp only [bitsN, Hf.hb, Nat.reduceMul, Nat.reduceSub, Nat.reducePow]
  omega
theorem wv_chr (enc : Int) (n : Nat) (h : n < 16) : wv enc (chr enc n) = (n : Int) := by
  unfold wv chr
  by_cases h4 : enc = 4
  · rw [if_pos h4, if_pos h4]
    by_cases a : n < 10
    · rw [if_pos a, if_pos (by omega)]; omega
    · rw [if_neg a, if_neg (by omega), if_pos (by omega)]; omega
  · rw [if_neg h4, if_neg h4]
    by_cases a : n < 10
    · rw [if_pos a, if_pos (by omega)]; omega
    · rw [if_neg a, if_neg (by omega), if_pos (by omega)]; omega
theorem chr_lt (enc : Int) (n : Nat) (h : n < 16) : chr enc n < 256 := by
  unfold chr
  (repeat' split) <;> omega
theorem nib_lt (x j : Nat) : nib (Hf.hb x) j < 16 := by
  unfold nib
  have := hb_lt x (j / 2)
  split <;> omega
theorem scan_all (enc : Int) (s : ByteArray) : ∀ (k i : Nat), (∀ j, i ≤ j → j < i + k → 0 ≤ wl enc s j) → i + k ≤ s.size → scan enc s k i = none
  | 0, _, _, _ => rfl
  | k + 1, i, h, hs => by
    rw [scan, if_neg (by omega), if_neg (by have := h i (by omega) (by omega); omega)]
    exact scan_all enc s k (i + 1) (fun j h1 h2 => h j (by omega) (by omega)) (by omega)
theorem scan_short (enc : Int) (s : ByteArray) : ∀ (k i : Nat), (∀ j, i ≤ j → j < s.size → 0 ≤ wl enc s j) → i ≤ s.size → s.size < i + k → scan enc s k i = some (10, s.size)
  | 0, i, _, h1, h2 => by omega
  | k + 1, i, h, h1, h2 => by
    rw [scan]
    by_cases e : i = s.size
    · rw [if_pos e, e]
    · rw [if_neg e, if_neg (by have := h i (by omega) (by omega); omega)]
      exact scan_short enc s k (i + 1) (fun j h1 h2 => h j (by omega) (by omega)) (by omega) (by omega)
/-- the text begins as a half is written, as far as it goes -/
def Beg (enc : Int) (x : Nat) (s : ByteArray) : Prop := ∀ i, i < widthN enc → i < s.size → s.data[i]! = (wrL enc (Hf.hb x))[i]!
theorem wrL_len (enc : Int) (v : Nat → Nat) (hw : widthN enc ≠ 0) : (wrL enc v).length = widthN enc := by
  rcases width_cases enc hw with ⟨h5, e⟩ | ⟨h5, e⟩
  · rw [wrL, if_pos h5, e]; simp
  · rw [wrL, if_neg h5, e]; simp
theorem beg5 {enc : Int} {x : Nat} {s : ByteArray} (h : Beg enc x s) (h5 : enc = 5) (e : widthN enc = 8) (i : Nat) (hi : i < 8) (hs : i < s.size) : (s.data[i]!).toNat = Hf.hb x i := by
  rw [h i (by omega) hs, wrL, if_pos h5]
  rw [getElem!_pos _ i (by simp; exact hi)]
  simp only [List.getElem_map, List.getElem_range]
  have := hb_lt x i
  simp [UInt8.toNat_ofNat']; omega
theorem beg16 {enc : Int} {x : Nat} {s : ByteArray} (h : Beg enc x s) (h5 : enc ≠ 5) (e : widthN enc = 16) (i : Nat) (hi : i < 16) (hs : i < s.size) : wl enc s i = (nib (Hf.hb x) i : Int) := by
  have hn := nib_lt x i
  have hc := chr_lt enc _ hn
  rw [wl, h i (by omega) hs, wrL, if_neg h5, getElem!_pos _ i (by simp; exact hi)]
  simp only [List.getElem_map, List.getElem_range]
  rw [show (UInt8.ofNat (chr enc (nib (Hf.hb x) i))).toNat = chr enc (nib (Hf.hb x) i) by simp [UInt8.toNat_ofNat']; omega, wv_chr _ _ hn]
theorem read_all (enc : Int) (x : Nat) (s : ByteArray) (hw : widthN enc ≠ 0) (hx : x < 18446744073709551616) (h : Beg enc x s) (hs : widthN enc ≤ s.size) : (rhV enc s).2.1 = 0 ∧ bitsN (rhV enc s).1 8 = x := by
  rcases width_cases enc hw with ⟨h5, e⟩ | ⟨h5, e⟩
  · rw [rhV, if_pos h5, rbV, if_neg (by omega)]
    refine ⟨rfl, ?_⟩
    rw [← bits_hb x hx]
    exact bitsN_congr 8 fun i hi => beg5 h h5 e i hi (by omega)
  · have hn : scan enc s 16 0 = none := scan_all enc s 16 0 (fun j _ hj => by rw [beg16 h h5 e j (by omega) (by omega)]; omega) (by omega)
    rw [rhV, if_neg h5, rsV, hn]
    refine ⟨rfl, ?_⟩
    rw [← bits_hb x hx]
    refine bitsN_congr 8 fun k hk => ?_
    show hU enc s 16 k = _
    rw [hU, if_pos (by omega), nb, nb, beg16 h h5 e (2 * k) (by omega) (by omega), beg16 h h5 e (2 * k + 1) (by omega) (by omega)]
    simp only [Int.toNat_natCast, nib]
    rw [if_pos (by omega), if_neg (by omega), show 2 * k / 2 = k by omega, show (2 * k + 1) / 2 = k by omega]
    omega
theorem read_short (enc : Int) (x : Nat) (s : ByteArray) (hw : widthN enc ≠ 0) (h : Beg enc x s) (hs : s.size < widthN enc) : (rhV enc s).2.1 = 10 ∧ (rhV enc s).2.2 = s.size := by
  rcases width_cases enc hw with ⟨h5, e⟩ | ⟨h5, e⟩
  · rw [rhV, if_pos h5, rbV, if_pos (by omega)]
    exact ⟨rfl, rfl⟩
  · have hn : scan enc s 16 0 = some (10, s.size) := scan_short enc s 16 0 (fun j _ hj => by rw [beg16 h h5 e j (by omega) (by omega)]; omega) (by omega) (by omega)
    rw [rhV, if_neg h5, rsV, hn]
    exact ⟨rfl, rfl⟩
/-- how long it is -/
theorem encL_len (enc : Int) (F S : Nat) (hw : widthN enc ≠ 0) : (encL enc F S).length = if S = 0 then widthN enc else 2 * widthN enc := by
  unfold encL
  split
  · exact wrL_len enc _ hw
  · rw [List.length_append, wrL_len enc _ hw, wrL_len enc _ hw]; omega
theorem at_list (L : List UInt8) (b : ByteArray) (i : Nat) (h : i < L.length) : ((⟨L.toArray⟩ : ByteArray) ++ b).data[i]! = L[i]! := by
  rw [ByteArray.data_append, getElem!_pos L i h]
  rw [getElem!_pos _ i (by simp; omega), Array.getElem_append_left (by simpa using h)]
  simp
theorem at_extract (s : ByteArray) (a b i : Nat) (h : i < min b s.size - a) : (s.extract a b).data[i]! = s.data[a + i]! := by
  have e : s.data.size = s.size := rfl
  rw [ByteArray.data_extract]
  rw [getElem!_pos _ i (by simp; omega), getElem!_pos _ (a + i) (by omega)]
  simp
theorem size_list (L : List UInt8) : (⟨L.toArray⟩ : ByteArray).size = L.length := by show L.toArray.size = _; simp
theorem back (enc : Int) (F S : Nat) (hw : widthN enc ≠ 0) (hF : F < 9223372036854775808) (hS : S < 9223372036854775808) (b : ByteArray) :
    decV enc ((⟨(encL enc F S).toArray⟩ : ByteArray) ++ b) = (F, S, 0, (encL enc F S).length) := by
  have hl := encL_len enc F S hw
  have hsz : ((⟨(encL enc F S).toArray⟩ : ByteArray) ++ b).size = (encL enc F S).length + b.size := by rw [ByteArray.size_append, size_list]
  have ha := at_list (encL enc F S) b
  generalize ((⟨(encL enc F S).toArray⟩ : ByteArray) ++ b) = s at *
  by_cases h0 : S = 0
  · subst h0
    rw [if_pos rfl] at hl
    obtain ⟨r1, r2⟩ := read_all enc F s hw (by omega) (fun i hi _ => by rw [ha i (by omega), encL, if_pos rfl]) (by omega)
    rw [decV, if_neg hw, if_neg (by simp [r1]), r2, if_pos hF, hl]
  · rw [if_neg h0] at hl
    have wl1 := wrL_len enc (Hf.hb (F + 9223372036854775808)) hw
    have wl2 := wrL_len enc (Hf.hb S) hw
    obtain ⟨r1, r2⟩ := read_all enc (F + 9223372036854775808) s hw (by omega) (fun i hi _ => by
      rw [ha i (by omega), encL, if_neg h0, getElem!_pos _ i (by simp; omega), getElem!_pos _ i (by omega), List.getElem_append_left (by omega)]) (by omega)
    have hes : (s.extract (widthN enc) s.size).size = s.size - widthN enc := by rw [ByteArray.size_extract]; omega
    obtain ⟨q1, q2⟩ := read_all enc S (s.extract (widthN enc) s.size) hw (by omega) (fun i hi _ => by
      rw [at_extract s _ _ i (by omega), ha _ (by omega), encL, if_neg h0, getElem!_pos _ _ (by simp; omega), getElem!_pos _ i (by omega), List.getElem_append_right (by omega)]
      congr 1; omega) (by omega)
    rw [decV, if_neg hw, if_neg (by simp [r1]), r2, if_neg (by omega), if_neg (by simp [q1]), q2, if_neg (by omega), hl, Nat.add_sub_cancel]
theorem short (enc : Int) (F S : Nat) (hw : widthN enc ≠ 0) (hF : F < 9223372036854775808) (hS : S < 9223372036854775808) :
    decV enc ((⟨(encL enc F S).toArray⟩ : ByteArray).extract 0 ((encL enc F S).length - 1)) = (0, 0, 10, (encL enc F S).length - 1) := by
  have hl := encL_len enc F S hw
  have hpos : 0 < widthN enc := by omega
  have hL : 0 < (encL enc F S).length := by rw [hl]; split <;> omega
  have hsz : ((⟨(encL enc F S).toArray⟩ : ByteArray).extract 0 ((encL enc F S).length - 1)).size = (encL enc F S).length - 1 := by rw [ByteArray.size_extract, size_list]; omega
  have ha : ∀ i, i < (encL enc F S).length - 1 → ((⟨(encL enc F S).toArray⟩ : ByteArray).extract 0 ((encL enc F S).length - 1)).data[i]! = (encL enc F S)[i]! := fun i hi => by
    rw [at_extract _ _ _ i (by rw [size_list]; omega), Nat.zero_add]
    rw [getElem!_pos (encL enc F S) i (by omega), getElem!_pos _ i (by simp; omega)]
    simp
  generalize ((⟨(encL enc F S).toArray⟩ : ByteArray).extract 0 ((encL enc F S).length - 1)) = s at *
  by_cases h0 : S = 0
  · subst h0
    rw [if_pos rfl] at hl
    obtain ⟨r1, r2⟩ := read_short enc F s hw (fun i hi _ => by rw [ha i (by omega), encL, if_pos rfl]) (by omega)
    rw [decV, if_neg hw, if_pos (by simp [r1]), r1, r2, hsz]
  · rw [if_neg h0] at hl
    have wl1 := wrL_len enc (Hf.hb (F + 9223372036854775808)) hw
    have wl2 := wrL_len enc (Hf.hb S) hw
    obtain ⟨r1, r2⟩ := read_all enc (F + 9223372036854775808) s hw (by omega) (fun i hi _ => by
      rw [ha i (by omega), encL, if_neg h0, getElem!_pos _ i (by simp; omega), getElem!_pos _ i (by omega), List.getElem_append_left (by omega)]) (by omega)
    have hes : (s.extract (widthN enc) s.size).size = s.size - widthN enc := by rw [ByteArray.size_extract]; omega
    obtain ⟨q1, q2⟩ := read_short enc S (s.extract (widthN enc) s.size) hw (fun i hi hi2 => by
      rw [at_extract s _ _ i (by omega), ha _ (by omega), encL, if_neg h0, getElem!_pos _ _ (by simp; omega), getElem!_pos _ i (by omega), List.getElem_append_right (by omega)]
      congr 1; omega) (by omega)
    rw [decV, if_neg hw, if_neg (by simp [r1]), r2, if_neg (by omega), if_pos (by simp [q1]), q1, q2, hes, hsz]
    congr 3; omega
end Go.Proofs.Ytkleoklcaalogaa.Bp
