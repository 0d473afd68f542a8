/- Chain, Unchain. -/
import Derived.Test.YtpifebapodfeaabCc
namespace Go.Proofs.Ytpifebapodfeaab.Ch
set_option linter.unusedVariables false
open Go.RowKit Pla Cb Tk Sm Wd Nw Bk Aw Eb Ec Et Cc
theorem prv_lenS (F : List Bool) (hF : F.length = 64) (s : ByteArray) (N : Nat) (h : s.size = 8 * N) : ∀ i, i < N → (prv F s.data.toList i).length = 64
  | 0, _ => hF
  | i + 1, hi => blk_len' s i (by omega)
theorem Cha_first (f s : ByteArray) (g : Nat) (w : World) (q : ((f.size : Int) != 8) = true) :
    Calls Try.prog 40 #[.pointer (some ⟨g, 0, none⟩), .string f, .string s] w fun e w' => e = .returned (.tuple #[.string ⟨#[]⟩, .int .i64 31]) ∧ Below w.heap.size w w' := by
  go_enter Try.func40, Try.ntmps40
  go_wp2
  exact bodyPost_ret (v := .tuple #[.string ⟨#[]⟩, .int .i64 31]) (by simp [results, Try.results40, go_sem]) rfl ⟨rfl, by first | exact Below.refl _ _ | exact below_one w _⟩
theorem Cha_bad (f s : ByteArray) (g : Nat) (w : World) (hf : 8 ≤ f.size) (q : ((f.size : Int) != 8) = false) (h : Hid (s.size % 8 ≠ 0)) (hs : s.size ≤ 1099511627776) :
    Calls Try.prog 40 #[.pointer (some ⟨g, 0, none⟩), .string f, .string s] w fun e w' => e = .returned (.tuple #[.string ⟨#[]⟩, .int .i64 31]) ∧ Below w.heap.size w w' := by
  have WO := fun y => word_any f hf y
  go_enter Try.func40, Try.ntmps40
  go_wp2_with (first
    | (go_at_call 27; refine (WO _).mono ?_; rintro e x ⟨rfl, rfl⟩)
    | (go_at_call 29; refine (eachC_bad s _ _ _ h hs).mono ?_; rintro e x2 ⟨rfl, rfl⟩))
  exact bodyPost_ret (v := .tuple #[.string ⟨#[]⟩, .int .i64 31]) (by simp [results, Try.results40, go_sem]) rfl ⟨rfl, below_two _ _ _⟩
set_option maxRecDepth 100000 in
set_option maxHeartbeats 1600000 in
theorem Cha_good (f s : ByteArray) (g K N : Nat) (l : List UInt8) (w : World) (hf : Hid (f.size = 8)) (hN : Hid (s.size = 8 * N)) (hs : s.size ≤ 1099511627776) (hK : Hid (kindN l.length = K ∧ 1 ≤ K)) (hk : Key w g K l) :
    Calls Try.prog 40 #[.pointer (some ⟨g, 0, none⟩), .string f, .string s] w fun e w' => e = .returned (.tuple #[.string ⟨(chainL l (bitsS f.data.toList) s.data.toList).toArray⟩, .int .i64 0]) ∧ Below w.heap.size w w' := by
  have hf8 : f.data.toList.length = 8 := by rw [show f.data.toList.length = f.size by simp]; exact hf.out
  have WO := fun y => word_any f (by rw [hf.out]; exact Nat.le_refl _) y
  rw [List.take_of_length_le (show f.data.toList.length ≤ 8 by omega)] at WO
  have q : ((f.size : Int) != 8) = false := by have := hf.out; simp only [bne_eq_false_iff_eq]; omega
  have fl : (bitsS f.data.toList).length = 64 := by rw [bitsS_len, hf8]
  generalize bitsS f.data.toList = F0 at *
  have w2 : World := (w.alloc (Obj.cells #[.pointer (some ⟨g, 0, none⟩)] 38)).alloc (Obj.cells #[.int .u64 (val F0 : Int)] 75)
  have EA : Calls Try.prog 29 #[.string s, .func (Fn.func 64) #[] #[.pointer (some ⟨w.heap.size, 0, none⟩), .pointer (some ⟨w.heap.size + 1, 0, none⟩)]] ((w.alloc (Obj.cells #[.pointer (some ⟨g, 0, none⟩)] 38)).alloc (Obj.cells #[.int .u64 (val F0 : Int)] 75)) fun e w' => e = .returned (.tuple #[.string ⟨(chainL l F0 s.data.toList).toArray⟩, .int .i64 0]) ∧ Below w.heap.size w w' := by
    have hb2 := h2_0 w (Obj.cells #[.pointer (some ⟨g, 0, none⟩)] 38) (Obj.cells #[.int .u64 (val F0 : Int)] 75)
    have hc2 := h2_1 w (Obj.cells #[.pointer (some ⟨g, 0, none⟩)] 38) (Obj.cells #[.int .u64 (val F0 : Int)] 75)
    have hbl := below_two w (Obj.cells #[.pointer (some ⟨g, 0, none⟩)] 38) (Obj.cells #[.int .u64 (val F0 : Int)] 75)
    have hsz : ((w.alloc (Obj.cells #[.pointer (some ⟨g, 0, none⟩)] 38)).alloc (Obj.cells #[.int .u64 (val F0 : Int)] 75)).heap.size = w.heap.size + 2 := by simp
    generalize (w.alloc (Obj.cells #[.pointer (some ⟨g, 0, none⟩)] 38)).alloc (Obj.cells #[.int .u64 (val F0 : Int)] 75) = W at *
    have gl := key_lt hk
    have E := eachC s N hN hs w.heap.size (w.heap.size + 1) (fun i => ahd l F0 s.data.toList (i + 1)) (fun i _ => ahd_lenS _ _ _ _ : ∀ i, i < N → _) W (fun i y => Xc (w.heap.size + 1) W y ∧ y.heap[w.heap.size + 1]? = some (.cells #[.int .u64 (val (ahd l F0 s.data.toList i) : Int)] 75)) ⟨Xc.refl _ _, hc2⟩ (fun i y y' h1 h2 => ⟨h1.1.below h2, (h2.block _ (by omega)).trans h1.2⟩ : ∀ i y y', _)
      (fun i y hi hsy hI => by
        have hky : Key y g K l := (hI.1.2.2.2.2 g (by omega) (by omega)).trans (key_kept hbl hk)
        have hby := (hI.1.2.2.2.2 w.heap.size (by omega) (by omega)).trans hb2
        refine (chain1 l g K w.heap.size (w.heap.size + 1) hK (blk s.data.toList i) (ahd l F0 s.data.toList i) (blk_len' s i (by have := hN.out; omega)) (ahd_len l F0 fl s.data.toList i) y hky hby hI.2).mono ?_
        rintro e y' ⟨rfl, z, hz, rfl⟩
        exact ⟨rfl, ⟨(hI.1.below (hz.mono hsy)).set _, setCell_heap (kept hz hI.2) 0 _⟩, fun v n xs ho => row_set (row_keeps ho hz) (by omega), by rw [setCell_size]; exact hz.size⟩ : ∀ i y, _)
    refine E.mono ?_
    rintro e w' ⟨rfl, ⟨hx, _⟩, _⟩
    refine ⟨by rw [chainL, show s.data.toList.length / 8 = N by rw [show s.data.toList.length = s.size by simp, hN.out]; omega], hbl.trans ⟨hx.1, hx.2.1, hx.2.2.1, hx.2.2.2.1, fun k hk => hx.2.2.2.2 k (by omega) (by omega)⟩⟩
  clear hN hK hf hf8 fl w2
  generalize (chainL l F0 s.data.toList).toArray = R at *
  go_enter Try.func40, Try.ntmps40
  go_wp2_with (first
    | (go_at_call 27; refine (WO _).mono ?_; rintro e x ⟨rfl, hx⟩; rw [hx])
    | (go_at_call 29; refine EA.mono ?_; rintro e x2 ⟨rfl, hx2⟩))
  exact bodyPost_ret (v := .tuple #[.string ⟨R⟩, .int .i64 0]) (by simp [results, Try.results40, go_sem]) rfl ⟨rfl, hx2⟩
end Go.Proofs.Ytpifebapodfeaab.Ch
