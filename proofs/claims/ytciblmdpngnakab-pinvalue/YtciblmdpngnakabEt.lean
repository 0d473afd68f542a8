/- Encrypt, Decrypt. -/
import Derived.Test.YtciblmdpngnakabEb
namespace Go.Proofs.Ytciblmdpngnakab.Et
set_option linter.unusedVariables false
open Go.RowKit Pla Cb Tk Wd Nw Bk Aw Eb
theorem blk_len (l : List UInt8) (i : Nat) (h : 8 * i + 8 ≤ l.length) : (blk l i).length = 64 := by
  rw [blk, bitsS_len, pt, List.length_take, List.length_drop]; omega
theorem blk_len' (s : ByteArray) (i : Nat) (h : 8 * i + 8 ≤ s.size) : (blk s.data.toList i).length = 64 := blk_len _ _ (by simpa using h)
/-- what comes of all blocks -/
def mapB (f : List Bool → List Bool) (l : List UInt8) : List UInt8 := outN (fun i => f (blk l i)) (l.length / 8)
theorem Enc_bad (s : ByteArray) (g : Nat) (w : World) (h : Hid (s.size % 8 ≠ 0)) (hs : s.size ≤ 1099511627776) :
    Calls Try.prog 27 #[.pointer (some ⟨g, 0, none⟩), .string s] w fun e w' => e = .returned (.tuple #[.string ⟨#[]⟩, .int .i64 31]) ∧ w' = w := by
  go_enter Try.func27, Try.ntmps27
  go_wp2_with (go_at_call 38; refine (eachE_bad s g _ h hs).mono ?_; rintro e x ⟨rfl, rfl⟩)
  exact bodyPost_ret (v := .tuple #[.string ⟨#[]⟩, .int .i64 31]) (by simp [results, Try.results27, go_sem]) rfl ⟨rfl, rfl⟩
theorem mapB_N (f : List Bool → List Bool) (s : ByteArray) (N : Nat) (hN : s.size = 8 * N) : outN (fun i => f (blk s.data.toList i)) N = mapB f s.data.toList := by
  rw [mapB, show s.data.toList.length / 8 = N by rw [show s.data.toList.length = s.size by simp, hN]; omega]
theorem Enc_good (s : ByteArray) (g K N : Nat) (l : List UInt8) (w : World) (hN : Hid (s.size = 8 * N)) (hs : s.size ≤ 1099511627776) (hK : Hid (kindN l.length = K ∧ 1 ≤ K)) (hk : Key w g K l) :
    Calls Try.prog 27 #[.pointer (some ⟨g, 0, none⟩), .string s] w fun e w' => e = .returned (.tuple #[.string ⟨(mapB (enc l) s.data.toList).toArray⟩, .int .i64 0]) ∧ Below w.heap.size w w' := by
  rw [← mapB_N (enc l) s N hN.out]
  have EA := eachE s N hN hs g (fun i => enc l (blk s.data.toList i)) (fun i _ => enc_len _ _ : ∀ i, i < N → _) w (fun _ y => Below w.heap.size w y) (Below.refl _ _) (fun i y y' h1 h2 => h1.trans h2 : ∀ i y y', _) (fun i y hi hs1 hI => (encB l g K hK (blk s.data.toList i) (blk_len' s i (by have := hN.out; omega)) y (key_kept hI hk)).mono fun e y' h => ⟨h.1, keepB hI h.2, fun v n xs ho => row_keeps ho h.2, h.2.size⟩ : ∀ i y, _)
  generalize (outN (fun i => enc l (blk s.data.toList i)) N).toArray = L at *
  clear hN hK
  go_enter Try.func27, Try.ntmps27
  go_wp2_with (go_at_call 38; refine EA.mono ?_; rintro e x ⟨rfl, hx, hx2⟩)
  exact bodyPost_ret (v := .tuple #[.string ⟨L⟩, .int .i64 0]) (by simp [results, Try.results27, go_sem]) rfl ⟨rfl, hx⟩
end Go.Proofs.Ytciblmdpngnakab.Et
