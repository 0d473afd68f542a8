/- Sixteenths there and back: plain facts on lists. -/
import Derived.Test.YtekbonfaaofdiacUnh
namespace Go.Proofs.Ytekbonfaaofdiac.SixM
open Go.RowKit Lib0 Six Unh
theorem six_hx_all : ∀ m : Fin 16, six (hx m.val) = (m.val : Int) := by decide +kernel
theorem six_hx (n : Nat) (h : n < 16) : six (hx n) = n := six_hx_all ⟨n, h⟩
theorem hx_six_all : ∀ m : Fin 256, 0 ≤ six (UInt8.ofNat m.val) → hx (six (UInt8.ofNat m.val)).toNat = UInt8.ofNat m.val := by decide +kernel
theorem hx_six (c : UInt8) (h : 0 ≤ six c) : hx (six c).toNat = c := by
  have := hx_six_all ⟨c.toNat, c.toNat_lt⟩
  simp only [UInt8.ofNat_toNat] at this
  exact this h
theorem unhex_hex : ∀ l : List UInt8, unhexL (hexL l) = l
  | [] => rfl
  | b :: l => by
    have hb := b.toNat_lt
    have e : hexL (b :: l) = hx (b.toNat / 16) :: hx (b.toNat % 16) :: hexL l := by simp [hexL]
    rw [e, unhexL, unhex_hex l, six_hx _ (by omega), six_hx _ (by omega)]
    have e2 : (16 * ((b.toNat / 16 : Nat) : Int) + ((b.toNat % 16 : Nat) : Int)).toNat = b.toNat := by omega
    rw [e2]
    simp
theorem all_hex (l : List UInt8) : (hexL l).all isSix = true := by
  induction l with
  | nil => rfl
  | cons b l ih =>
    have hb := b.toNat_lt
    have e : hexL (b :: l) = hx (b.toNat / 16) :: hx (b.toNat % 16) :: hexL l := by simp [hexL]
    rw [e]
    simp only [List.all_cons, ih, Bool.and_true, Bool.and_eq_true, isSix, decide_eq_true_eq]
    rw [six_hx _ (by omega), six_hx _ (by omega)]
    omega
theorem hex_unhex : ∀ l : List UInt8, l.all isSix = true → l.length % 2 = 0 → hexL (unhexL l) = l
  | [], _, _ => rfl
  | [x], _, h => by simp at h
  | a :: b :: l, ha, h => by
    simp only [List.all_cons, Bool.and_eq_true, isSix, decide_eq_true_eq] at ha
    obtain ⟨h1, h2, h3⟩ := ha
    have y1 := (six_bd a).2
    have y2 := (six_bd b).2
    have ih := hex_unhex l (by simpa [isSix] using h3) (by simp only [List.length_cons] at h; omega)
    have e : hexL (unhexL (a :: b :: l)) = hx ((16 * six a + six b).toNat.toUInt8.toNat / 16) :: hx ((16 * six a + six b).toNat.toUInt8.toNat % 16) :: hexL (unhexL l) := by simp [hexL, unhexL]
    rw [e, ih]
    have e1 : (16 * six a + six b).toNat.toUInt8.toNat = 16 * (six a).toNat + (six b).toNat := by
      simp only [UInt8.toNat_ofNat', Nat.toUInt8]; omega
    rw [e1, show (16 * (six a).toNat + (six b).toNat) / 16 = (six a).toNat by omega, show (16 * (six a).toNat + (six b).toNat) % 16 = (six b).toNat by omega, hx_six a h1, hx_six b h2]
theorem unhexL_length : ∀ l : List UInt8, (unhexL l).length = l.length / 2
  | [] => rfl
  | [x] => by simp [unhexL]
  | a :: b :: l => by simp only [unhexL, List.length_cons, unhexL_length l]; omega
def val (l : List UInt8) : Value := .tuple #[.string ⟨(unhexR l).1.toArray⟩, .int .i64 (unhexR l).2.1, .int .i64 (unhexR l).2.2]
theorem val_yes (l : List UInt8) (h : l.all isSix = true) (h2 : l.length % 2 = 0) : val l = .tuple #[.string ⟨(unhexL l).toArray⟩, .int .i64 0, .int .i64 0] := by
  simp only [val]; rw [r_yes l (by rw [fuL_all _ _ h]; omega) (by omega)]
theorem val_odd (l : List UInt8) (h : l.all isSix = true) (h2 : l.length % 2 = 1) : val l = .tuple #[.string ⟨#[]⟩, .int .i64 10, .int .i64 (l.length : Int)] := by
  simp only [val]; rw [r_odd l (by rw [fuL_all _ _ h]; omega) h2]
theorem val_char (l : List UInt8) (h : fuL isSix l < l.length) : val l = .tuple #[.string ⟨#[]⟩, .int .i64 11, .int .i64 (fuL isSix l : Int)] := by
  simp only [val]; rw [r_char l h]
theorem val_hex (s : ByteArray) : val (ByteArray.mk (hexL s.data.toList).toArray).data.toList = .tuple #[.string s, .int .i64 0, .int .i64 0] := by
  have e : (ByteArray.mk (hexL s.data.toList).toArray).data.toList = hexL s.data.toList := by simp
  rw [e, val_yes _ (all_hex _) (by rw [hexL_length]; omega), unhex_hex]
theorem val_more (s : ByteArray) (h : s.data.toList.all isSix = true) (h2 : s.size % 2 = 1) : ∃ x, val (s ++ ByteArray.mk #[48]).data.toList = .tuple #[.string x, .int .i64 0, .int .i64 0] := by
  have e : (s ++ ByteArray.mk #[48]).data.toList = s.data.toList ++ [48] := by simp
  have hl := len_eq s
  rw [e, val_yes _ (by rw [List.all_append, h]; decide) (by rw [List.length_append, hl]; simp; omega)]
  exact ⟨_, rfl⟩
theorem val_front (s : ByteArray) (k : Nat) (hk : k % 2 = 0) (h : k ≤ fuL isSix s.data.toList) : ∃ x, val (s.extract 0 k).data.toList = .tuple #[.string x, .int .i64 0, .int .i64 0] := by
  have e : (s.extract 0 k).data.toList = s.data.toList.take k := by simp
  have hf := fuL_le isSix s.data.toList
  have hb := fuL_before isSix s.data.toList
  have ha : (s.data.toList.take k).all isSix = true := by
    have e2 : s.data.toList.take k = (s.data.toList.take (fuL isSix s.data.toList)).take k := by rw [List.take_take, Nat.min_eq_left h]
    rw [e2, List.all_eq_true]
    intro x hx
    exact List.all_eq_true.1 hb x (List.mem_of_mem_take hx)
  rw [e, val_yes _ ha (by rw [List.length_take_of_le (by omega)]; exact hk)]
  exact ⟨_, rfl⟩
theorem val_one (s : ByteArray) (t : Nat) (ht : t < s.size) (h : isSix s[t] = false) : val (s.extract t (t + 1) ++ ByteArray.mk #[48]).data.toList = .tuple #[.string ⟨#[]⟩, .int .i64 11, .int .i64 0] := by
  have hl := len_eq s
  have e : (s.extract t (t + 1) ++ ByteArray.mk #[48]).data.toList = [s[t], 48] := by
    have h1 : (s.data.toList.drop t).take 1 = [s[t]] := by
      rw [List.drop_eq_getElem_cons (by omega)]; rfl
    simp only [ByteArray.data_append, Array.toList_append, ByteArray.data_extract, Array.toList_extract, List.extract_eq_take_drop]
    rw [show t + 1 - t = 1 by omega, h1]
    rfl
  have f : fuL isSix [s[t], 48] = 0 := by simp [fuL, h]
  rw [e, val_char _ (by rw [f]; simp), f]
  rfl
end Go.Proofs.Ytekbonfaaofdiac.SixM
