/- What CipherEach asks, out of the contracts. -/
import Derived.Test.YtciblmdpngnakaaBl
import Derived.Test.YtciblmdpngnakaaCk
namespace Go.Proofs.Ytciblmdpngnakaa.Ea
set_option linter.unusedVariables false
open Go.RowKit Pla Cb Wd Nw Bk Eb Et Cc Ch Pm Bl Xo
theorem bitsN_xor (n x y : Nat) : bitsN n (x ^^^ y) = xr (bitsN n x) (bitsN n y) := by
  simp only [bitsN, xr, Nat.testBit_xor]
  apply List.ext_getElem?
  intro i
  simp only [List.getElem?_zipWith, List.getElem?_map]
  by_cases hi : i < n
  · rw [List.getElem?_range hi]; rfl
  · rw [List.getElem?_eq_none (by simp; omega)]; rfl
theorem bits_xorL : ∀ a b : List UInt8, a.length = b.length → bitsS (xorL a b) = xr (bitsS a) (bitsS b)
  | [], [], _ => rfl
  | x :: a, y :: b, h => by
    have ih := bits_xorL a b (by simpa using h)
    have e : ∀ (p q r s : List Bool), p.length = q.length → xr (p ++ r) (q ++ s) = xr p q ++ xr r s := fun p q r s hpq => by simp only [xr]; exact List.zipWith_append hpq
    simp only [bitsS, xorL, List.zipWith_cons_cons, List.flatMap_cons] at ih ⊢
    rw [ih, UInt8.toNat_xor, bitsN_xor, ← e _ _ _ _ (by rw [bitsN_len, bitsN_len])]
  | [], y :: b, h => by simp at h
  | x :: a, [], h => by simp at h
theorem cat_mk (a b : List UInt8) : (⟨a.toArray⟩ : ByteArray) ++ ⟨b.toArray⟩ = ⟨(a ++ b).toArray⟩ := by
  apply ByteArray.ext
  simp
/-- the bytes ahead of block j -/
def lastB (l : List UInt8) (f t : ByteArray) : Nat → ByteArray
  | 0 => f
  | j + 1 => ⟨(byW (ahd l (bitsS f.data.toList) t.data.toList (j + 1))).toArray⟩
def allB (l : List UInt8) (t : ByteArray) (j : Nat) : ByteArray := ⟨(outN (fun i => enc l (blk t.data.toList i)) j).toArray⟩
def rowB (l : List UInt8) (f t : ByteArray) (j : Nat) : ByteArray := ⟨(outN (fun i => ahd l (bitsS f.data.toList) t.data.toList (i + 1)) j).toArray⟩
def oneB (l : List UInt8) (t : ByteArray) (j : Nat) : ByteArray := ⟨(byW (enc l (blk t.data.toList j))).toArray⟩
def mixB (l : List UInt8) (f t : ByteArray) (j : Nat) : ByteArray := ⟨(byW (xr (blk t.data.toList j) (ahd l (bitsS f.data.toList) t.data.toList j))).toArray⟩
theorem dl (L : List UInt8) : (ByteArray.mk L.toArray).data.toList = L := by simp
theorem szL (L : List UInt8) : (ByteArray.mk L.toArray).size = L.length := by show L.toArray.size = _; simp
theorem last_bits (l : List UInt8) (f t : ByteArray) (j : Nat) : bitsS (lastB l f t j).data.toList = ahd l (bitsS f.data.toList) t.data.toList j := by
  cases j with
  | zero => rfl
  | succ j => rw [lastB, dl, bits_byW _ (ahd_lenS _ _ _ _)]
theorem last_size (l : List UInt8) (f t : ByteArray) (hf : f.size = 8) (j : Nat) : (lastB l f t j).size = 8 := by
  cases j with
  | zero => exact hf
  | succ j => rw [lastB, szL, byW_len]
theorem all_succ (l : List UInt8) (t : ByteArray) (j : Nat) : allB l t j ++ oneB l t j = allB l t (j + 1) := by rw [allB, oneB, cat_mk, allB, outN_succ]
theorem row_succ (l : List UInt8) (f t : ByteArray) (j : Nat) : rowB l f t j ++ lastB l f t (j + 1) = rowB l f t (j + 1) := by rw [rowB, lastB, cat_mk, rowB, outN_succ]
theorem all_size (l : List UInt8) (t : ByteArray) (j : Nat) : (allB l t j).size = 8 * j := by rw [allB, szL, outN_len]
theorem row_size (l : List UInt8) (f t : ByteArray) (j : Nat) : (rowB l f t j).size = 8 * j := by rw [rowB, szL, outN_len]
theorem one_size (l : List UInt8) (t : ByteArray) (j : Nat) : (oneB l t j).size = 8 := by rw [oneB, szL, byW_len]
theorem ext_list (t : ByteArray) (j : Nat) : (t.extract (8 * j) (8 * j + 8)).data.toList = pt t.data.toList j := by
  rw [pt, ByteArray.data_extract, Array.toList_extract, List.extract_eq_take_drop, show 8 * j + 8 - 8 * j = 8 by omega]
theorem map_one (f : List Bool → List Bool) (s : List UInt8) (h : s.length = 8) : mapB f s = byW (f (bitsS s)) := by
  rw [mapB, h, show 8 / 8 = 0 + 1 from rfl, outN_succ, blk, pt, Nat.mul_zero, List.drop_zero, List.take_of_length_le (by omega)]; rfl
variable (l : List UInt8) (K : Nat) (t f : ByteArray) (N : Nat)
theorem enc_piece (hK : kindN l.length = K ∧ 1 ≤ K) (hN : t.size = 8 * N) (j : Nat) (hj : j < N) (g : Nat) (u : World) (hk : Key u g K l) :
    Calls Try.prog 22 #[.pointer (some ⟨g, 0, none⟩), .string (t.extract (8 * j) (8 * j + 8))] u (Ret (oneB l t j) u) := by
  have hs : (t.extract (8 * j) (8 * j + 8)).size = 8 * 1 := by rw [ByteArray.size_extract]; omega
  have h := Enc_good (t.extract (8 * j) (8 * j + 8)) g K 1 l u hs (by rw [hs]; decide) hK hk
  rw [map_one _ _ (by rw [len_size, hs]), ext_list] at h
  exact h
theorem xor_piece (hf : f.size = 8) (hN : t.size = 8 * N) (j : Nat) (hj : j < N) (u : World) :
    Calls Try.prog 60 #[.string (lastB l f t j), .string (t.extract (8 * j) (8 * j + 8))] u (Ret (mixB l f t j) u) := by
  have hs : (t.extract (8 * j) (8 * j + 8)).size = 8 := by rw [ByteArray.size_extract]; omega
  have h := xor_any (lastB l f t j) (t.extract (8 * j) (8 * j + 8)) 8 (last_size l f t hf j) hs (by decide) u
  have e : xorL (lastB l f t j).data.toList (t.extract (8 * j) (8 * j + 8)).data.toList = byW (xr (blk t.data.toList j) (ahd l (bitsS f.data.toList) t.data.toList j)) := by
    have l1 : (lastB l f t j).data.toList.length = 8 := by rw [len_size, last_size l f t hf j]
    have l2 : (t.extract (8 * j) (8 * j + 8)).data.toList.length = 8 := by rw [len_size, hs]
    have hx := bits_xorL _ _ (l1.trans l2.symm)
    rw [last_bits, ext_list, xr_comm] at hx
    have hb : (blk t.data.toList j).length = 64 := blk_len' t j (by omega)
    refine bitsS_inj _ _ (by rw [xorL_len _ _ (l1.trans l2.symm), l1, byW_len]) ?_
    rw [ext_list, hx, bits_byW _ (xr_len _ _ 64 hb (ahd_len l _ (by rw [bitsS_len, len_size, hf]) _ _))]; rfl
  rw [e] at h
  exact h
theorem enc_mix (hK : kindN l.length = K ∧ 1 ≤ K) (hf : f.size = 8) (hN : t.size = 8 * N) (j : Nat) (hj : j < N) (g : Nat) (u : World) (hk : Key u g K l) :
    Calls Try.prog 22 #[.pointer (some ⟨g, 0, none⟩), .string (mixB l f t j)] u (Ret (lastB l f t (j + 1)) u) := by
  have hs : (mixB l f t j).size = 8 * 1 := by rw [mixB, szL, byW_len]
  have h := Enc_good (mixB l f t j) g K 1 l u hs (by rw [hs]; decide) hK hk
  have hb : (blk t.data.toList j).length = 64 := blk_len' t j (by omega)
  rw [map_one _ _ (by rw [len_size, hs]), mixB, dl, bits_byW _ (xr_len _ _ 64 hb (ahd_len l _ (by rw [bitsS_len, len_size, hf]) _ _))] at h
  exact h
theorem enc_whole (hK : kindN l.length = K ∧ 1 ≤ K) (hN : t.size = 8 * N) (hN2 : N ≤ 1000) (g : Nat) (u : World) (hk : Key u g K l) :
    Calls Try.prog 22 #[.pointer (some ⟨g, 0, none⟩), .string t] u (Ret (allB l t N) u) := by
  have h := Enc_good t g K N l u hN (by omega) hK hk
  rw [← mapB_N _ t N hN] at h
  exact h
end Go.Proofs.Ytciblmdpngnakaa.Ea
