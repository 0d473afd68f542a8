/- What SealKeys asks: keys alike but for their lowest bits. -/
import Derived.Test.YtpifebapodfeaaaTg
import Derived.Test.YtpifebapodfeaaaFt
import Derived.Test.YtpifebapodfeaaaLo
import Derived.Lib.SlicesS
namespace Go.Proofs.Ytpifebapodfeaaa.Ks
set_option linter.unusedVariables false
open Go.RowKit Pla Cb Wd Nw Bk Eb Et Cc Ch Pm Fp Sp Pe Tg Se Lo
open Ck (z64)
theorem take_pt (a : List UInt8) : a.take 8 = pt a 0 := by simp [pt]
theorem drop_pt (a : List UInt8) (h : a.length ≤ 16) : a.drop 8 = pt a 1 := by
  rw [pt, List.take_of_length_le]
  rw [List.length_drop]; omega
theorem last_low (a b p : List UInt8) (h : Alk a b) (hl : a.length = b.length) (N : Nat) (hp : p.length = 8 * N) : lastC a p = lastC b p := by
  rw [lastC, lastC, hp, show 8 * N / 8 = N by omega]
  exact ahd_congr a b (fun x _ => enc_low a b h hl x) p N hp N (Nat.le_refl _)
theorem tag_low (alg m : Nat) (a b s : ByteArray) (h : Alk a.data.toList b.data.toList) (hl : a.size = b.size) (h16 : a.size ≤ 16) : tagB alg m a s = tagB alg m b s := by
  have e : a.data.toList.length = b.data.toList.length := by rw [len_size, len_size, hl]
  have h1 : Alk (a.data.toList.take 8) (b.data.toList.take 8) := by rw [take_pt, take_pt]; exact alike_pt _ _ h 0
  have l1 : (a.data.toList.take 8).length = (b.data.toList.take 8).length := by rw [List.length_take, List.length_take, e]
  have h2 : Alk (a.data.toList.drop 8) (b.data.toList.drop 8) := by
    rw [drop_pt _ (by rw [len_size]; exact h16), drop_pt _ (by rw [len_size, ← hl]; exact h16)]; exact alike_pt _ _ h 1
  have l2 : (a.data.toList.drop 8).length = (b.data.toList.drop 8).length := by rw [List.length_drop, List.length_drop, e]
  rw [tagB, tagB, tagC, tagC, last_low _ _ _ h1 l1 _ (fillL_len m s.data.toList), dec_low _ _ h2 l2, enc_low _ _ h1 l1]
theorem tag_twice (m : Nat) (k s : ByteArray) (hk : k.size = 8) : tagB 3 m (k ++ k) s = tagB 1 m k s := by
  have hl : k.data.toList.length = 8 := by rw [len_size, hk]
  have d : (k ++ k).data.toList = k.data.toList ++ k.data.toList := by simp
  have e1 : (k.data.toList ++ k.data.toList).take 8 = k.data.toList := by rw [← hl]; simp
  have e2 : (k.data.toList ++ k.data.toList).drop 8 = k.data.toList := by rw [← hl]; simp
  have e3 : k.data.toList.take 8 = k.data.toList := List.take_of_length_le (by omega)
  rw [tagB, tagB, d, tagC, tagC, if_pos rfl, if_neg (by decide), e1, e2, e3, enc_dec _ _ (lastC_len _ _)]
/-- the row holds these bytes, which are those of s but for their lowest bits -/
def Rw (s : ByteArray) (l : List UInt8) (A : Array Value) : Prop := l.length = s.size ∧ s.size ≤ A.size ∧ Alk l s.data.toList ∧ ∀ i (h : i < l.length), A[i]? = some (.int .u8 (l[i].toNat : Int))
theorem low_half (x y : UInt8) : (x ^^^ (y &&& 1)).toNat / 2 = x.toNat / 2 := by
  rw [UInt8.toNat_xor, UInt8.toNat_and]
  have e : (x.toNat ^^^ (y.toNat &&& (1 : UInt8).toNat)) / 2 = (x.toNat / 2) ^^^ ((y.toNat &&& (1 : UInt8).toNat) / 2) := by
    exact Nat.xor_div_two
  rw [e]
  have : (y.toNat &&& (1 : UInt8).toNat) / 2 = 0 := by
    have h : y.toNat &&& (1 : UInt8).toNat ≤ 1 := Nat.and_le_right
    omega
  rw [this, Nat.xor_zero]
theorem rw_zero (s : ByteArray) (C : Nat) : Rw s s.data.toList (bytesRow s C) := by
  refine ⟨by simp, by simp [bytesRow], fun _ => rfl, fun i h => ?_⟩
  have h' : i < s.size := by simpa using h
  rw [bytesRow_at s C i h']; rfl
theorem rw_set (s : ByteArray) (l : List UInt8) (A : Array Value) (j : Nat) (h : Rw s l A) (hj : j < l.length) (v : UInt8) (hv : v.toNat / 2 = l[j].toNat / 2) : Rw s (l.set j v) (A.setIfInBounds j (.int .u8 (v.toNat : Int))) := by
  refine ⟨by simpa using h.1, by simpa using h.2.1, fun t => ?_, fun i hi => ?_⟩
  · rw [← h.2.2.1 t]
    by_cases e : j = t
    · subst e
      rw [List.getD_eq_getElem?_getD, List.getD_eq_getElem?_getD, List.getElem?_set_self hj, List.getElem?_eq_getElem hj]
      exact hv
    · rw [List.getD_eq_getElem?_getD, List.getD_eq_getElem?_getD, List.getElem?_set_ne e]
  · have hi' : i < l.length := by simpa using hi
    rw [Array.getElem?_setIfInBounds]
    by_cases e : j = i
    · subst e
      rw [if_pos rfl, if_pos (by have := h.2.1; have := h.1; omega)]
      simp
    · rw [if_neg e, h.2.2.2 i hi', List.getElem_set_ne e]
theorem rw_str {P : Program} {w : World} {src dst e : TypeId} {g C : Nat} {s : ByteArray} {l : List UInt8} {A : Array Value} {t : TypeId} {fr : Nat × Nat} (h : Rw s l A) (hs : P.underlying src = some (.slice e)) (he : P.underlying e = some (.int .u8)) (hd : P.underlying dst = some .string)
    (hg : w.heap[g]? = some (.cells A t fr)) : (convert src dst (.slice (some ⟨g, 0, none⟩) l.length C)).run P w = .ok (.string ⟨l.toArray⟩) w :=
  run_convert_bytes_back (P := P) w src dst e ⟨g, 0, none⟩ C l hs he hd (fun j hj => by
    rw [show (⟨g, 0, none⟩ : Addr).add j = ⟨g, j, none⟩ by unfold Addr.add; split <;> simp_all, cell_of_row w g j _ t fr hg, h.2.2.2 j hj])
theorem xor_and (x y : UInt8) : bits .xor .u8 (x.toNat : Int) (bits .and .u8 (y.toNat : Int) 1) = ((x ^^^ (y &&& 1)).toNat : Int) := by
  have e : bits .and .u8 (y.toNat : Int) 1 = (((y &&& 1).toNat : Nat) : Int) := by
    have h := u8_and_nat y.toNat 1 y.toNat_lt (by decide)
    rw [UInt8.toNat_and]
    exact h
  rw [e, u8_xor_nat _ _ x.toNat_lt (y &&& 1).toNat_lt, UInt8.toNat_xor]
end Go.Proofs.Ytpifebapodfeaaa.Ks
