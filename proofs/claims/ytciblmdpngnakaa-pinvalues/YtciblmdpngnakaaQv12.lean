import Derived.Test.YtciblmdpngnakaaQv11
/- eachBlock, over a function value. -/
namespace Go.Proofs.Ytciblmdpngnakaa.Eb
set_option linter.unusedVariables false
open Go.RowKit Pla Cb Tk Wd Nw Bk Aw
open Lib0 (bs bs_length bs_append owns_len run_str own_ge)
theorem row_keeps {w w' : World} {B e size n : Nat} {v : Value} {xs : List Value} (h : w.ownsRow B e size v n xs) (hb : Below w.heap.size w w') : w'.ownsRow B e size v n xs := by
  obtain ⟨hl, h2⟩ := h
  cases h2 with
  | inl h => exact ⟨hl, Or.inl h⟩
  | inr h =>
    obtain ⟨g, cap, cur, hv, hB, hat, hrest⟩ := h
    have hg : g < w.heap.size := by
      rcases Nat.lt_or_ge g w.heap.size with h | h
      · exact h
      · rw [Array.getElem?_eq_none h] at hat; cases hat
    exact ⟨hl, Or.inr ⟨g, cap, cur, hv, hB, (hb.block g hg).trans hat, hrest⟩⟩
/-- what is made of n blocks -/
def outN (f : Nat → List Bool) (n : Nat) : List UInt8 := (List.range n).flatMap fun i => byW (f i)
theorem outN_succ (f : Nat → List Bool) (n : Nat) : outN f (n + 1) = outN f n ++ byW (f n) := by simp [outN, List.range_succ]
theorem outN_len (f : Nat → List Bool) : ∀ n, (outN f n).length = 8 * n
  | 0 => rfl
  | n + 1 => by rw [outN_succ, List.length_append, outN_len f n, byW_len]; omega
set_option maxRecDepth 100000 in
set_option maxHeartbeats 3200000 in
theorem eachE (s : ByteArray) (N : Nat) (hN : Hid (s.size = 8 * N)) (hs : s.size ≤ 1099511627776) (g : Nat) (f : Nat → List Bool) (hf : Hid (∀ i, i < N → (f i).length = 64)) (w : World) (I : Nat → World → Prop) (hI0 : I 0 w) (hst : Hid (∀ i y y', I i y → Below w.heap.size y y' → I i y'))
    (CALL : Hid (∀ i y, i < N → w.heap.size ≤ y.heap.size → I i y → Calls Try.prog 53 #[.pointer (some ⟨g, 0, none⟩), .int .u64 (val (blk s.data.toList i) : Int)] y fun e y' => e = .returned (.int .u64 (val (f i) : Int)) ∧ I (i + 1) y' ∧ (∀ v n xs, y.ownsRow w.heap.size 5 1 v n xs → y'.ownsRow w.heap.size 5 1 v n xs) ∧ y.heap.size ≤ y'.heap.size)) :
    Calls Try.prog 52 #[.string s, .func (Fn.func 53) #[.pointer (some ⟨g, 0, none⟩)] #[]] w fun e w' => e = .returned (.tuple #[.string ⟨(outN f N).toArray⟩, .int .i64 0]) ∧ I N w' ∧ w.heap.size ≤ w'.heap.size := by
  obtain ⟨i0, hi, hz0, hz1, hz2⟩ := info_parts info
  have q : ((s.size : Int) % 8 != 0) = false := by have := hN.out; simp only [bne_eq_false_iff_eq]; omega
  go_enter Try.func52, Try.ntmps52
  go_wp2_with (at_make; refine wpList_make_own _ rfl _ _ 65 rfl w.heap.size 5 i0 _ 1 Try.underlying65 hi hz0 hz1 _ _ _ s.size rfl rfl (by omega) (by rw [hz2]; omega) (by unfold maxLen; omega) (Nat.le_refl _) ?_; intro w0 hown0 hgrow0)
  have hb0 := (Below.refl w.heap.size w).grown hgrow0 (Nat.le_refl _) (fun k h => by cases h)
  have I0 : I 0 w0 := hst.out 0 w w0 hI0 hb0
  have s0 := hb0.size
  clear hgrow0 hb0 hI0
  go_loopw [6, 7] (fun v c wr => ∃ j : Nat, j ≤ N ∧ c = .int .i64 (8 * (j : Int)) ∧ wr.ownsRow w.heap.size 5 1 v (8 * j) (bs (outN f j)) ∧ I j wr ∧ w.heap.size ≤ wr.heap.size) (fun _ c _ => 8 * N + 8 - (intOf c).toNat)
  case atStart => exact ⟨0, by omega, rfl, hown0, I0, s0⟩
  case round =>
    obtain ⟨j, hj, rfl, hown, hI, hbs⟩ := hrel
    have eN := hN.out
    by_cases hj2 : j < N
    · have q1 : 8 * (j : Int) < (s.size : Int) := by omega
      have q0 : (0 : Int) ≤ 8 * (j : Int) := by omega
      have q2 : 8 * (j : Int) + 8 ≤ (s.size : Int) := by omega
      have hjs : 8 * j + 8 ≤ s.size := by omega
      have hps : 8 ≤ (s.extract (8 * j) (8 * j + 8)).size := by rw [ByteArray.size_extract]; omega
      have WO := fun y => word_any (s.extract (8 * j) (8 * j + 8)) hps y
      have ept : (s.extract (8 * j) (8 * j + 8)).data.toList.take 8 = pt s.data.toList j := ext_pt s j
      rw [ept] at WO
      have WO : ∀ y, Calls Try.prog 50 #[.string (s.extract (8 * j) (8 * j + 8))] y fun e w' => e = .returned (.int .u64 (val (blk s.data.toList j) : Int)) ∧ w' = y := WO
      have CA := CALL.out j wr hj2 hbs hI
      have AP := fun y v (ho : World.ownsRow y w.heap.size 5 1 v (8 * j) (bs (outN f j))) (hB : w.heap.size ≤ y.heap.size) => appw (f j) (hf.out j hj2) w.heap.size (8 * j) v (outN f j) y ho hB (by omega)
      rw [← outN_succ f j] at AP
      have hS := fun y y' (h : I (j + 1) y) (hb : Below w.heap.size y y') => hst.out (j + 1) y y' h hb
      have jle : j + 1 ≤ N := hj2
      have HM : Hid (8 * (j + 1) ≤ 8 * N) := (by omega : 8 * (j + 1) ≤ 8 * N)
      clear ept hps eN CALL hst hf I0 hown0 hN
      generalize blk s.data.toList j = X at *
      go_wp2_with (first
        | (go_at_call 50; refine (WO _).mono ?_; rintro e y0 ⟨rfl, rfl⟩)
        | (go_at_call 53; refine CA.mono ?_; rintro e y1 ⟨rfl, hI1, hk1, hs1⟩; have hown1 := hk1 _ _ _ hown; have hs2 : w.heap.size ≤ y1.heap.size := Nat.le_trans hbs hs1)
        | (go_at_call 73; refine (AP _ _ hown1 hs2).mono ?_; rintro e y2 ⟨v2, rfl, hown2, hb2⟩))
      exact ⟨⟨j + 1, jle, by congr 1, by rw [Nat.mul_succ]; exact hown2, hS _ _ hI1 hb2, Nat.le_trans hs2 hb2.size⟩, by have := HM.out; simp only [intOf]; omega⟩
    · obtain rfl : j = N := by omega
      have hcv := run_str (P := Try.prog) (src := 65) (dst := 9) Try.underlying65 Try.underlying5 Try.underlying9 hown
      have q1 : ¬ 8 * (j : Int) < (s.size : Int) := by omega
      clear eN hN CALL hst
      go_wp2
      exact bodyPost_ret (v := .tuple #[.string ⟨(outN f j).toArray⟩, .int .i64 0]) (by simp [results, Try.results52, go_sem]) rfl ⟨rfl, hI, hbs⟩
set_option maxRecDepth 100000 in
set_option maxHeartbeats 1600000 in
theorem eachE_bad (s : ByteArray) (g : Nat) (w : World) (h : Hid (s.size % 8 ≠ 0)) (hs : s.size ≤ 1099511627776) :
    Calls Try.prog 52 #[.string s, .func (Fn.func 53) #[.pointer (some ⟨g, 0, none⟩)] #[]] w fun e w' => e = .returned (.tuple #[.string ⟨#[]⟩, .int .i64 31]) ∧ w' = w := by
  have q : ((s.size : Int) % 8 != 0) = true := by have := h.out; simp only [bne_iff_ne]; omega
  go_enter Try.func52, Try.ntmps52
  go_wp2
  exact bodyPost_ret (v := .tuple #[.string ⟨#[]⟩, .int .i64 31]) (by simp [results, Try.results52, go_sem]) rfl ⟨rfl, rfl⟩
set_option maxRecDepth 100000 in
set_option maxHeartbeats 3200000 in
theorem eachD (s : ByteArray) (N : Nat) (hN : Hid (s.size = 8 * N)) (hs : s.size ≤ 1099511627776) (g : Nat) (f : Nat → List Bool) (hf : Hid (∀ i, i < N → (f i).length = 64)) (w : World) (I : Nat → World → Prop) (hI0 : I 0 w) (hst : Hid (∀ i y y', I i y → Below w.heap.size y y' → I i y'))
    (CALL : Hid (∀ i y, i < N → w.heap.size ≤ y.heap.size → I i y → Calls Try.prog 64 #[.pointer (some ⟨g, 0, none⟩), .int .u64 (val (blk s.data.toList i) : Int)] y fun e y' => e = .returned (.int .u64 (val (f i) : Int)) ∧ I (i + 1) y' ∧ (∀ v n xs, y.ownsRow w.heap.size 5 1 v n xs → y'.ownsRow w.heap.size 5 1 v n xs) ∧ y.heap.size ≤ y'.heap.size)) :
    Calls Try.prog 52 #[.string s, .func (Fn.func 64) #[.pointer (some ⟨g, 0, none⟩)] #[]] w fun e w' => e = .returned (.tuple #[.string ⟨(outN f N).toArray⟩, .int .i64 0]) ∧ I N w' ∧ w.heap.size ≤ w'.heap.size := by
  obtain ⟨i0, hi, hz0, hz1, hz2⟩ := info_parts info
  have q : ((s.size : Int) % 8 != 0) = false := by have := hN.out; simp only [bne_eq_false_iff_eq]; omega
  go_enter Try.func52, Try.ntmps52
  go_wp2_with (at_make; refine wpList_make_own _ rfl _ _ 65 rfl w.heap.size 5 i0 _ 1 Try.underlying65 hi hz0 hz1 _ _ _ s.size rfl rfl (by omega) (by rw [hz2]; omega) (by unfold maxLen; omega) (Nat.le_refl _) ?_; intro w0 hown0 hgrow0)
  have hb0 := (Below.refl w.heap.size w).grown hgrow0 (Nat.le_refl _) (fun k h => by cases h)
  have I0 : I 0 w0 := hst.out 0 w w0 hI0 hb0
  have s0 := hb0.size
  clear hgrow0 hb0 hI0
  go_loopw [6, 7] (fun v c wr => ∃ j : Nat, j ≤ N ∧ c = .int .i64 (8 * (j : Int)) ∧ wr.ownsRow w.heap.size 5 1 v (8 * j) (bs (outN f j)) ∧ I j wr ∧ w.heap.size ≤ wr.heap.size) (fun _ c _ => 8 * N + 8 - (intOf c).toNat)
  case atStart => exact ⟨0, by omega, rfl, hown0, I0, s0⟩
  case round =>
    obtain ⟨j, hj, rfl, hown, hI, hbs⟩ := hrel
    have eN := hN.out
    by_cases hj2 : j < N
    · have q1 : 8 * (j : Int) < (s.size : Int) := by omega
      have q0 : (0 : Int) ≤ 8 * (j : Int) := by omega
      have q2 : 8 * (j : Int) + 8 ≤ (s.size : Int) := by omega
      have hjs : 8 * j + 8 ≤ s.size := by omega
      have hps : 8 ≤ (s.extract (8 * j) (8 * j + 8)).size := by rw [ByteArray.size_extract]; omega
      have WO := fun y => word_any (s.extract (8 * j) (8 * j + 8)) hps y
      have ept : (s.extract (8 * j) (8 * j + 8)).data.toList.take 8 = pt s.data.toList j := ext_pt s j
      rw [ept] at WO
      have WO : ∀ y, Calls Try.prog 50 #[.string (s.extract (8 * j) (8 * j + 8))] y fun e w' => e = .returned (.int .u64 (val (blk s.data.toList j) : Int)) ∧ w' = y := WO
      have CA := CALL.out j wr hj2 hbs hI
      have AP := fun y v (ho : World.ownsRow y w.heap.size 5 1 v (8 * j) (bs (outN f j))) (hB : w.heap.size ≤ y.heap.size) => appw (f j) (hf.out j hj2) w.heap.size (8 * j) v (outN f j) y ho hB (by omega)
      rw [← outN_succ f j] at AP
      have hS := fun y y' (h : I (j + 1) y) (hb : Below w.heap.size y y') => hst.out (j + 1) y y' h hb
      have jle : j + 1 ≤ N := hj2
      have HM : Hid (8 * (j + 1) ≤ 8 * N) := (by omega : 8 * (j + 1) ≤ 8 * N)
      clear ept hps eN CALL hst hf I0 hown0 hN
      generalize blk s.data.toList j = X at *
      go_wp2_with (first
        | (go_at_call 50; refine (WO _).mono ?_; rintro e y0 ⟨rfl, rfl⟩)
        | (go_at_call 64; refine CA.mono ?_; rintro e y1 ⟨rfl, hI1, hk1, hs1⟩; have hown1 := hk1 _ _ _ hown; have hs2 : w.heap.size ≤ y1.heap.size := Nat.le_trans hbs hs1)
        | (go_at_call 73; refine (AP _ _ hown1 hs2).mono ?_; rintro e y2 ⟨v2, rfl, hown2, hb2⟩))
      exact ⟨⟨j + 1, jle, by congr 1, by rw [Nat.mul_succ]; exact hown2, hS _ _ hI1 hb2, Nat.le_trans hs2 hb2.size⟩, by have := HM.out; simp only [intOf]; omega⟩
    · obtain rfl : j = N := by omega
      have hcv := run_str (P := Try.prog) (src := 65) (dst := 9) Try.underlying65 Try.underlying5 Try.underlying9 hown
      have q1 : ¬ 8 * (j : Int) < (s.size : Int) := by omega
      clear eN hN CALL hst
      go_wp2
      exact bodyPost_ret (v := .tuple #[.string ⟨(outN f j).toArray⟩, .int .i64 0]) (by simp [results, Try.results52, go_sem]) rfl ⟨rfl, hI, hbs⟩
set_option maxRecDepth 100000 in
set_option maxHeartbeats 1600000 in
theorem eachD_bad (s : ByteArray) (g : Nat) (w : World) (h : Hid (s.size % 8 ≠ 0)) (hs : s.size ≤ 1099511627776) :
    Calls Try.prog 52 #[.string s, .func (Fn.func 64) #[.pointer (some ⟨g, 0, none⟩)] #[]] w fun e w' => e = .returned (.tuple #[.string ⟨#[]⟩, .int .i64 31]) ∧ w' = w := by
  have q : ((s.size : Int) % 8 != 0) = true := by have := h.out; simp only [bne_iff_ne]; omega
  go_enter Try.func52, Try.ntmps52
  go_wp2
  exact bodyPost_ret (v := .tuple #[.string ⟨#[]⟩, .int .i64 31]) (by simp [results, Try.results52, go_sem]) rfl ⟨rfl, rfl⟩
end Go.Proofs.Ytciblmdpngnakaa.Eb
/- Encrypt, Decrypt. -/
namespace Go.Proofs.Ytciblmdpngnakaa.Et
set_option linter.unusedVariables false
open Go.RowKit Pla Cb Tk Wd Nw Bk Aw Eb
theorem blk_len (l : List UInt8) (i : Nat) (h : 8 * i + 8 ≤ l.length) : (blk l i).length = 64 := by
  rw [blk, bitsS_len, pt, List.length_take, List.length_drop]; omega
theorem blk_len' (s : ByteArray) (i : Nat) (h : 8 * i + 8 ≤ s.size) : (blk s.data.toList i).length = 64 := blk_len _ _ (by simpa using h)
/-- what comes of all blocks -/
def mapB (f : List Bool → List Bool) (l : List UInt8) : List UInt8 := outN (fun i => f (blk l i)) (l.length / 8)
theorem Enc_bad (s : ByteArray) (g : Nat) (w : World) (h : Hid (s.size % 8 ≠ 0)) (hs : s.size ≤ 1099511627776) :
    Calls Try.prog 22 #[.pointer (some ⟨g, 0, none⟩), .string s] w fun e w' => e = .returned (.tuple #[.string ⟨#[]⟩, .int .i64 31]) ∧ w' = w := by
  go_enter Try.func22, Try.ntmps22
  go_wp2_with (go_at_call 52; refine (eachE_bad s g _ h hs).mono ?_; rintro e x ⟨rfl, rfl⟩)
  exact bodyPost_ret (v := .tuple #[.string ⟨#[]⟩, .int .i64 31]) (by simp [results, Try.results22, go_sem]) rfl ⟨rfl, rfl⟩
theorem Dec_bad (s : ByteArray) (g : Nat) (w : World) (h : Hid (s.size % 8 ≠ 0)) (hs : s.size ≤ 1099511627776) :
    Calls Try.prog 47 #[.pointer (some ⟨g, 0, none⟩), .string s] w fun e w' => e = .returned (.tuple #[.string ⟨#[]⟩, .int .i64 31]) ∧ w' = w := by
  go_enter Try.func47, Try.ntmps47
  go_wp2_with (go_at_call 52; refine (eachD_bad s g _ h hs).mono ?_; rintro e x ⟨rfl, rfl⟩)
  exact bodyPost_ret (v := .tuple #[.string ⟨#[]⟩, .int .i64 31]) (by simp [results, Try.results47, go_sem]) rfl ⟨rfl, rfl⟩
theorem mapB_N (f : List Bool → List Bool) (s : ByteArray) (N : Nat) (hN : s.size = 8 * N) : outN (fun i => f (blk s.data.toList i)) N = mapB f s.data.toList := by
  rw [mapB, show s.data.toList.length / 8 = N by rw [show s.data.toList.length = s.size by simp, hN]; omega]
theorem Enc_good (s : ByteArray) (g K N : Nat) (l : List UInt8) (w : World) (hN : Hid (s.size = 8 * N)) (hs : s.size ≤ 1099511627776) (hK : Hid (kindN l.length = K ∧ 1 ≤ K)) (hk : Key w g K l) :
    Calls Try.prog 22 #[.pointer (some ⟨g, 0, none⟩), .string s] w fun e w' => e = .returned (.tuple #[.string ⟨(mapB (enc l) s.data.toList).toArray⟩, .int .i64 0]) ∧ Below w.heap.size w w' := by
  rw [← mapB_N (enc l) s N hN.out]
  have EA := eachE s N hN hs g (fun i => enc l (blk s.data.toList i)) (fun i _ => enc_len _ _ : ∀ i, i < N → _) w (fun _ y => Below w.heap.size w y) (Below.refl _ _) (fun i y y' h1 h2 => h1.trans h2 : ∀ i y y', _) (fun i y hi hs1 hI => (encB l g K hK (blk s.data.toList i) (blk_len' s i (by have := hN.out; omega)) y (key_kept hI hk)).mono fun e y' h => ⟨h.1, keepB hI h.2, fun v n xs ho => row_keeps ho h.2, h.2.size⟩ : ∀ i y, _)
  generalize (outN (fun i => enc l (blk s.data.toList i)) N).toArray = L at *
  clear hN hK
  go_enter Try.func22, Try.ntmps22
  go_wp2_with (go_at_call 52; refine EA.mono ?_; rintro e x ⟨rfl, hx, hx2⟩)
  exact bodyPost_ret (v := .tuple #[.string ⟨L⟩, .int .i64 0]) (by simp [results, Try.results22, go_sem]) rfl ⟨rfl, hx⟩
theorem Dec_good (s : ByteArray) (g K N : Nat) (l : List UInt8) (w : World) (hN : Hid (s.size = 8 * N)) (hs : s.size ≤ 1099511627776) (hK : Hid (kindN l.length = K ∧ 1 ≤ K)) (hk : Key w g K l) :
    Calls Try.prog 47 #[.pointer (some ⟨g, 0, none⟩), .string s] w fun e w' => e = .returned (.tuple #[.string ⟨(mapB (dec l) s.data.toList).toArray⟩, .int .i64 0]) ∧ Below w.heap.size w w' := by
  rw [← mapB_N (dec l) s N hN.out]
  have EA := eachD s N hN hs g (fun i => dec l (blk s.data.toList i)) (fun i _ => dec_len _ _ : ∀ i, i < N → _) w (fun _ y => Below w.heap.size w y) (Below.refl _ _) (fun i y y' h1 h2 => h1.trans h2 : ∀ i y y', _) (fun i y hi hs1 hI => (decB l g K hK (blk s.data.toList i) (blk_len' s i (by have := hN.out; omega)) y (key_kept hI hk)).mono fun e y' h => ⟨h.1, keepB hI h.2, fun v n xs ho => row_keeps ho h.2, h.2.size⟩ : ∀ i y, _)
  generalize (outN (fun i => dec l (blk s.data.toList i)) N).toArray = L at *
  clear hN hK
  go_enter Try.func47, Try.ntmps47
  go_wp2_with (go_at_call 52; refine EA.mono ?_; rintro e x ⟨rfl, hx, hx2⟩)
  exact bodyPost_ret (v := .tuple #[.string ⟨L⟩, .int .i64 0]) (by simp [results, Try.results47, go_sem]) rfl ⟨rfl, hx⟩
end Go.Proofs.Ytciblmdpngnakaa.Et
