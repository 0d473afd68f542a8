/- What CipherBack asks, out of the contracts. -/
import Derived.Test.YtlnnhhnnkdfddaaFi
import Derived.Test.YtlnnhhnnkdfddaaPm
namespace Go.Proofs.Ytlnnhhnnkdfddaa.Bl
set_option linter.unusedVariables false
open Go.RowKit Pla Cb Wd Nw Bk Eb Et Cc Ch Pm
def Ret (s : ByteArray) (w : World) : Ending → World → Prop := fun e w' => e = .returned (.tuple #[.string s, .int .i64 0]) ∧ Below w.heap.size w w'
theorem mk_eq (s : ByteArray) : (⟨s.data.toList.toArray⟩ : ByteArray) = s := by cases s; simp
theorem len_size (s : ByteArray) : s.data.toList.length = s.size := by simp
/-- there and back, blocks and chains: with letters for what comes between -/
theorem back_all (l : List UInt8) (K : Nat) (hK : kindN l.length = K ∧ 1 ≤ K) (t f : ByteArray) (N : Nat) (hN : t.size = 8 * N) (hN2 : N ≤ 1000) (hf : f.size = 8) :
    ∃ X Z C G : ByteArray, X.size = t.size ∧ Z.size = t.size ∧ C.size = t.size ∧ G.size = t.size ∧
      (∀ g u, Key u g K l → Calls Try.prog 26 #[.pointer (some ⟨g, 0, none⟩), .string t] u (Ret X u)) ∧
      (∀ g u, Key u g K l → Calls Try.prog 27 #[.pointer (some ⟨g, 0, none⟩), .string X] u (Ret t u)) ∧
      (∀ g u, Key u g K l → Calls Try.prog 27 #[.pointer (some ⟨g, 0, none⟩), .string t] u (Ret Z u)) ∧
      (∀ g u, Key u g K l → Calls Try.prog 26 #[.pointer (some ⟨g, 0, none⟩), .string Z] u (Ret t u)) ∧
      (∀ g u, Key u g K l → Calls Try.prog 28 #[.pointer (some ⟨g, 0, none⟩), .string f, .string t] u (Ret C u)) ∧
      (∀ g u, Key u g K l → Calls Try.prog 29 #[.pointer (some ⟨g, 0, none⟩), .string f, .string C] u (Ret t u)) ∧
      (∀ g u, Key u g K l → Calls Try.prog 29 #[.pointer (some ⟨g, 0, none⟩), .string f, .string t] u (Ret G u)) ∧
      (∀ g u, Key u g K l → Calls Try.prog 28 #[.pointer (some ⟨g, 0, none⟩), .string f, .string G] u (Ret t u)) := by
  have hl : t.data.toList.length = 8 * N := by rw [len_size, hN]
  have hfl : (bitsS f.data.toList).length = 64 := by rw [bitsS_len, len_size, hf]
  have sz : ∀ L : List UInt8, L.length = 8 * N → (ByteArray.mk L.toArray).size = 8 * N := fun L h => by show L.toArray.size = _; simpa using h
  have mt := mk_eq t
  refine ⟨⟨(mapB (enc l) t.data.toList).toArray⟩, ⟨(mapB (dec l) t.data.toList).toArray⟩, ⟨(chainL l (bitsS f.data.toList) t.data.toList).toArray⟩, ⟨(unchL l (bitsS f.data.toList) t.data.toList).toArray⟩,
    by rw [sz _ (mapB_len _ _ N hl), hN], by rw [sz _ (mapB_len _ _ N hl), hN], by rw [sz _ (chain_len _ _ _ N hl), hN], by rw [sz _ (unch_len _ _ _ N hl), hN], ?_, ?_, ?_, ?_, ?_, ?_, ?_, ?_⟩
  · intro g u hk; exact Enc_good t g K N l u hN (by omega) hK hk
  · intro g u hk
    have h := Dec_good ⟨(mapB (enc l) t.data.toList).toArray⟩ g K N l u (sz _ (mapB_len _ _ N hl)) (by rw [sz _ (mapB_len _ _ N hl)]; omega) hK hk
    rw [show (ByteArray.mk (mapB (enc l) t.data.toList).toArray).data.toList = mapB (enc l) t.data.toList by simp, map_back (enc l) (dec l) (enc_len l) (dec_enc l) _ N hl, mt] at h
    exact h
  · intro g u hk; exact Dec_good t g K N l u hN (by omega) hK hk
  · intro g u hk
    have h := Enc_good ⟨(mapB (dec l) t.data.toList).toArray⟩ g K N l u (sz _ (mapB_len _ _ N hl)) (by rw [sz _ (mapB_len _ _ N hl)]; omega) hK hk
    rw [show (ByteArray.mk (mapB (dec l) t.data.toList).toArray).data.toList = mapB (dec l) t.data.toList by simp, map_back (dec l) (enc l) (dec_len l) (enc_dec l) _ N hl, mt] at h
    exact h
  · intro g u hk; exact Cha_good f t g K N l u hf hN (by omega) hK hk
  · intro g u hk
    have h := Unc_good f ⟨(chainL l (bitsS f.data.toList) t.data.toList).toArray⟩ g K N l u hf (sz _ (chain_len _ _ _ N hl)) (by rw [sz _ (chain_len _ _ _ N hl)]; omega) hK hk
    rw [show (ByteArray.mk (chainL l (bitsS f.data.toList) t.data.toList).toArray).data.toList = chainL l (bitsS f.data.toList) t.data.toList by simp, unch_chain l _ hfl _ N hl, mt] at h
    exact h
  · intro g u hk; exact Unc_good f t g K N l u hf hN (by omega) hK hk
  · intro g u hk
    have h := Cha_good f ⟨(unchL l (bitsS f.data.toList) t.data.toList).toArray⟩ g K N l u hf (sz _ (unch_len _ _ _ N hl)) (by rw [sz _ (unch_len _ _ _ N hl)]; omega) hK hk
    rw [show (ByteArray.mk (unchL l (bitsS f.data.toList) t.data.toList).toArray).data.toList = unchL l (bitsS f.data.toList) t.data.toList by simp, chain_unch l _ hfl _ N hl, mt] at h
    exact h
theorem kind_p (r : ByteArray) (p : Nat) (h : r.size = 8 + 8 * p) (hp : p < 3) : kindN r.size = p + 1 := by
  have : p = 0 ∨ p = 1 ∨ p = 2 := by omega
  rcases this with rfl | rfl | rfl <;> rw [h] <;> rfl
theorem keyOf {s : ByteArray} {w : World} {g K : Nat} (h : w.heap[g]? = some (.cells (bkC K (Tk.up (bf s.data.toList) (128 * K))) 51)) : Key w g K s.data.toList := h
end Go.Proofs.Ytlnnhhnnkdfddaa.Bl
