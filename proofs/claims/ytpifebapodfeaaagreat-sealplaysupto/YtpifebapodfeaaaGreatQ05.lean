import Derived.Test.YtpifebapodfeaaaGreatQ04
/- Encrypt, Decrypt. -/
namespace Go.Proofs.YtpifebapodfeaaaGreat.Et
set_option linter.unusedVariables false
open Go.RowKit Pla Cb Tk Wd Nw Bk Aw Eb
theorem blk_len (l : List UInt8) (i : Nat) (h : 8 * i + 8 ≤ l.length) : (blk l i).length = 64 := by
  rw [blk, bitsS_len, pt, List.length_take, List.length_drop]; omega
theorem blk_len' (s : ByteArray) (i : Nat) (h : 8 * i + 8 ≤ s.size) : (blk s.data.toList i).length = 64 := blk_len _ _ (by simpa using h)
/-- what comes of all blocks -/
def mapB (f : List Bool → List Bool) (l : List UInt8) : List UInt8 := outN (fun i => f (blk l i)) (l.length / 8)
theorem Enc_bad (s : ByteArray) (g : Nat) (w : World) (h : Hid (s.size % 8 ≠ 0)) (hs : s.size ≤ 1099511627776) :
    Calls Tryz.prog 39 #[.pointer (some ⟨g, 0, none⟩), .string s] w fun e w' => e = .returned (.tuple #[.string ⟨#[]⟩, .int .i64 31]) ∧ w' = w := by
  go_enter Tryz.func39, Tryz.ntmps39
  go_wp2_with (go_at_call 60; refine (eachE_bad s g _ h hs).mono ?_; rintro e x ⟨rfl, rfl⟩)
  exact bodyPost_ret (v := .tuple #[.string ⟨#[]⟩, .int .i64 31]) (by simp [results, Tryz.results39, go_sem]) rfl ⟨rfl, rfl⟩
theorem Dec_bad (s : ByteArray) (g : Nat) (w : World) (h : Hid (s.size % 8 ≠ 0)) (hs : s.size ≤ 1099511627776) :
    Calls Tryz.prog 38 #[.pointer (some ⟨g, 0, none⟩), .string s] w fun e w' => e = .returned (.tuple #[.string ⟨#[]⟩, .int .i64 31]) ∧ w' = w := by
  go_enter Tryz.func38, Tryz.ntmps38
  go_wp2_with (go_at_call 60; refine (eachD_bad s g _ h hs).mono ?_; rintro e x ⟨rfl, rfl⟩)
  exact bodyPost_ret (v := .tuple #[.string ⟨#[]⟩, .int .i64 31]) (by simp [results, Tryz.results38, go_sem]) rfl ⟨rfl, rfl⟩
theorem mapB_N (f : List Bool → List Bool) (s : ByteArray) (N : Nat) (hN : s.size = 8 * N) : outN (fun i => f (blk s.data.toList i)) N = mapB f s.data.toList := by
  rw [mapB, show s.data.toList.length / 8 = N by rw [show s.data.toList.length = s.size by simp, hN]; omega]
theorem Enc_good (s : ByteArray) (g K N : Nat) (l : List UInt8) (w : World) (hN : Hid (s.size = 8 * N)) (hs : s.size ≤ 1099511627776) (hK : Hid (kindN l.length = K ∧ 1 ≤ K)) (hk : Key w g K l) :
    Calls Tryz.prog 39 #[.pointer (some ⟨g, 0, none⟩), .string s] w fun e w' => e = .returned (.tuple #[.string ⟨(mapB (enc l) s.data.toList).toArray⟩, .int .i64 0]) ∧ Below w.heap.size w w' := by
  rw [← mapB_N (enc l) s N hN.out]
  have EA := eachE s N hN hs g (fun i => enc l (blk s.data.toList i)) (fun i _ => enc_len _ _ : ∀ i, i < N → _) w (fun _ y => Below w.heap.size w y) (Below.refl _ _) (fun i y y' h1 h2 => h1.trans h2 : ∀ i y y', _) (fun i y hi hs1 hI => (encB l g K hK (blk s.data.toList i) (blk_len' s i (by have := hN.out; omega)) y (key_kept hI hk)).mono fun e y' h => ⟨h.1, keepB hI h.2, fun v n xs ho => row_keeps ho h.2, h.2.size⟩ : ∀ i y, _)
  generalize (outN (fun i => enc l (blk s.data.toList i)) N).toArray = L at *
  clear hN hK
  go_enter Tryz.func39, Tryz.ntmps39
  go_wp2_with (go_at_call 60; refine EA.mono ?_; rintro e x ⟨rfl, hx, hx2⟩)
  exact bodyPost_ret (v := .tuple #[.string ⟨L⟩, .int .i64 0]) (by simp [results, Tryz.results39, go_sem]) rfl ⟨rfl, hx⟩
theorem Dec_good (s : ByteArray) (g K N : Nat) (l : List UInt8) (w : World) (hN : Hid (s.size = 8 * N)) (hs : s.size ≤ 1099511627776) (hK : Hid (kindN l.length = K ∧ 1 ≤ K)) (hk : Key w g K l) :
    Calls Tryz.prog 38 #[.pointer (some ⟨g, 0, none⟩), .string s] w fun e w' => e = .returned (.tuple #[.string ⟨(mapB (dec l) s.data.toList).toArray⟩, .int .i64 0]) ∧ Below w.heap.size w w' := by
  rw [← mapB_N (dec l) s N hN.out]
  have EA := eachD s N hN hs g (fun i => dec l (blk s.data.toList i)) (fun i _ => dec_len _ _ : ∀ i, i < N → _) w (fun _ y => Below w.heap.size w y) (Below.refl _ _) (fun i y y' h1 h2 => h1.trans h2 : ∀ i y y', _) (fun i y hi hs1 hI => (decB l g K hK (blk s.data.toList i) (blk_len' s i (by have := hN.out; omega)) y (key_kept hI hk)).mono fun e y' h => ⟨h.1, keepB hI h.2, fun v n xs ho => row_keeps ho h.2, h.2.size⟩ : ∀ i y, _)
  generalize (outN (fun i => dec l (blk s.data.toList i)) N).toArray = L at *
  clear hN hK
  go_enter Tryz.func38, Tryz.ntmps38
  go_wp2_with (go_at_call 60; refine EA.mono ?_; rintro e x ⟨rfl, hx, hx2⟩)
  exact bodyPost_ret (v := .tuple #[.string ⟨L⟩, .int .i64 0]) (by simp [results, Tryz.results38, go_sem]) rfl ⟨rfl, hx⟩
end Go.Proofs.YtpifebapodfeaaaGreat.Et
/- Chain, Unchain: the closures. -/
namespace Go.Proofs.YtpifebapodfeaaaGreat.Cc
set_option linter.unusedVariables false
open Go.RowKit Pla Cb Tk Sm Wd Nw Bk Aw Eb Ec Et
theorem xor64 (a b : List Bool) (ha : a.length = 64) (hb : b.length = 64) : bits .xor .u64 (val a : Int) (val b : Int) = (val (xr a b) : Int) := by
  have v1 := val_lt a
  have v2 := val_lt b
  rw [ha] at v1
  rw [hb] at v2
  rw [u64_xor_nat _ _ v1 v2, val_xr a b (by rw [ha, hb])]
theorem one_cell {w : World} {b : Nat} {v : Value} {t : TypeId} (h : w.heap[b]? = some (.cells #[v] t)) : w.cell? ⟨b, 0, none⟩ = some v ∧ w.frozen? ⟨b, 0, none⟩ = false := by
  refine ⟨?_, ?_⟩ <;> simp [World.cell?, World.frozen?, h]
set_option maxRecDepth 100000 in
set_option maxHeartbeats 1600000 in
theorem chain1 (l : List UInt8) (g K b c : Nat) (hK : Hid (kindN l.length = K ∧ 1 ≤ K)) (x a : List Bool) (hx : x.length = 64) (ha : a.length = 64) (w : World) (hk : Key w g K l)
    (hb : w.heap[b]? = some (.cells #[.pointer (some ⟨g, 0, none⟩)] 62)) (hc : w.heap[c]? = some (.cells #[.int .u64 (val a : Int)] 103)) :
    Calls Tryz.prog 61 #[.int .u64 (val x : Int), .pointer (some ⟨b, 0, none⟩), .pointer (some ⟨c, 0, none⟩)] w fun e w' => e = .returned (.int .u64 (val (enc l (xr x a)) : Int)) ∧ ∃ y, Below w.heap.size w y ∧ w' = y.setCell ⟨c, 0, none⟩ (.int .u64 (val (enc l (xr x a)) : Int)) := by
  obtain ⟨b0, b1⟩ := one_cell hb
  obtain ⟨c0, c1⟩ := one_cell hc
  have u1 := xor64 x a hx ha
  have EN := fun y (hy : Key y g K l) => encB l g K hK (xr x a) (xr_len x a 64 hx ha) y hy
  generalize enc l (xr x a) = E at *
  clear hK
  go_enter Tryz.func61, Tryz.ntmps61
  go_wp2_with (first
    | (go_at_call 62; refine (EN _ hk).mono ?_; rintro e y ⟨rfl, hy⟩; obtain ⟨d0, d1⟩ := one_cell (kept hy hc)))
  go_ret
  exact ⟨rfl, y, hy, rfl⟩
/-- what comes ahead of the block i of a chain -/
def ahd (l : List UInt8) (first : List Bool) (s : List UInt8) : Nat → List Bool
  | 0 => first
  | i + 1 => enc l (xr (blk s i) (ahd l first s i))
def chainL (l : List UInt8) (first : List Bool) (s : List UInt8) : List UInt8 := outN (fun i => ahd l first s (i + 1)) (s.length / 8)
/-- the block ahead of i -/
def prv (first : List Bool) (s : List UInt8) : Nat → List Bool
  | 0 => first
  | i + 1 => blk s i
def unchL (l : List UInt8) (first : List Bool) (s : List UInt8) : List UInt8 := outN (fun i => xr (dec l (blk s i)) (prv first s i)) (s.length / 8)
theorem ahd_len (l : List UInt8) (first : List Bool) (hf : first.length = 64) (s : List UInt8) : ∀ i, (ahd l first s i).length = 64
  | 0 => hf
  | i + 1 => enc_len _ _
theorem ahd_lenS (l : List UInt8) (first : List Bool) (s : List UInt8) (i : Nat) : (ahd l first s (i + 1)).length = 64 := enc_len _ _
/-- a world that is as w but for the block c -/
def Xc (c : Nat) (a w : World) : Prop := w.os = a.os ∧ w.tape = a.tape ∧ w.output = a.output ∧ a.heap.size ≤ w.heap.size ∧ ∀ k, k < a.heap.size → k ≠ c → w.heap[k]? = a.heap[k]?
theorem Xc.refl (c : Nat) (a : World) : Xc c a a := ⟨rfl, rfl, rfl, Nat.le_refl _, fun _ _ _ => rfl⟩
theorem Xc.below {c : Nat} {a w y : World} (h : Xc c a w) (hb : Below a.heap.size w y) : Xc c a y :=
  ⟨hb.os.trans h.1, hb.tape.trans h.2.1, hb.output.trans h.2.2.1, Nat.le_trans h.2.2.2.1 hb.size, fun k hk hc => (hb.block k hk).trans (h.2.2.2.2 k hk hc)⟩
theorem Xc.set {c : Nat} {a w : World} (h : Xc c a w) (v : Value) : Xc c a (w.setCell ⟨c, 0, none⟩ v) :=
  ⟨h.1, h.2.1, h.2.2.1, by have := h.2.2.2.1; simpa [World.setCell] using this, fun k hk hc => (setCell_ne (fun e => hc e.symm) 0 v).trans (h.2.2.2.2 k hk hc)⟩
theorem row_set {w : World} {B e size n c : Nat} {v u : Value} {xs : List Value} (h : w.ownsRow B e size v n xs) (hc : c < B) : (w.setCell ⟨c, 0, none⟩ u).ownsRow B e size v n xs := by
  obtain ⟨hl, h2⟩ := h
  cases h2 with
  | inl h => exact ⟨hl, Or.inl h⟩
  | inr h =>
    obtain ⟨g, cap, cur, hv, hB, hat, hrest⟩ := h
    exact ⟨hl, Or.inr ⟨g, cap, cur, hv, hB, (setCell_ne (by omega) 0 u).trans hat, hrest⟩⟩
theorem setCell_size (w : World) (c : Nat) (v : Value) : (w.setCell ⟨c, 0, none⟩ v).heap.size = w.heap.size := by simp [World.setCell]
end Go.Proofs.YtpifebapodfeaaaGreat.Cc
/- Plain: what is encrypted is decrypted. -/
namespace Go.Proofs.YtpifebapodfeaaaGreat.Pm
set_option linter.unusedVariables false
open Go.RowKit Pla Eb Et Cc
theorem tk_tk (t u : List Nat) (x : List Bool) (h : ∀ n ∈ t, 1 ≤ n ∧ n ≤ u.length) : tk t (tk u x) = tk (t.map fun n => u.getD (n - 1) 0) x := by
  simp only [tk, List.map_map]
  apply List.map_congr_left
  intro n hn
  have hh := h n hn
  have hl : n - 1 < u.length := by omega
  simp only [Function.comp, List.getD_eq_getElem?_getD, List.getElem?_map, List.getElem?_eq_getElem hl, Option.map_some, Option.getD_some]
theorem tk_id (x : List Bool) (h : x.length = 64) : tk ((List.range 64).map (· + 1)) x = x := by
  apply List.ext_getElem?
  intro i
  simp only [tk, List.map_map, List.getElem?_map]
  by_cases hi : i < 64
  · rw [List.getElem?_range hi, List.getElem?_eq_getElem (by omega)]
    simp [List.getElem?_eq_getElem (show i < x.length by omega)]
  · rw [List.getElem?_eq_none (by simp; omega), List.getElem?_eq_none (by omega)]; rfl
theorem in_out (x : List Bool) (h : x.length = 64) : tk tIn (tk tOut x) = x := by
  rw [tk_tk tIn tOut x (by decide), show (tIn.map fun n => tOut.getD (n - 1) 0) = (List.range 64).map (· + 1) by decide, tk_id x h]
theorem out_in (x : List Bool) (h : x.length = 64) : tk tOut (tk tIn x) = x := by
  rw [tk_tk tOut tIn x (by decide), show (tOut.map fun n => tIn.getD (n - 1) 0) = (List.range 64).map (· + 1) by decide, tk_id x h]
theorem xr_xr : ∀ (a b : List Bool), a.length = b.length → xr (xr a b) b = a
  | [], [], _ => rfl
  | x :: a, y :: b, h => by
    have := xr_xr a b (by simpa using h)
    simp only [xr, List.zipWith_cons_cons] at this ⊢
    rw [this]; simp
  | [], y :: b, h => by simp at h
  | x :: a, [], h => by simp at h
theorem xr_comm : ∀ (a b : List Bool), xr a b = xr b a
  | [], [] => rfl
  | x :: a, y :: b => by
    have := xr_comm a b
    simp only [xr, List.zipWith_cons_cons] at this ⊢
    rw [this, Bool.xor_comm]
  | [], y :: b => rfl
  | x :: a, [] => rfl
def swp (s : List Bool × List Bool) : List Bool × List Bool := (s.2, s.1)
theorem rnd_back (s : List Bool × List Bool) (k : List Bool) (h : s.1.length = 32) : rnd (swp (rnd s k)) k = swp s := by
  simp only [rnd, swp]
  rw [xr_xr _ _ (by rw [h, mix_len])]
theorem rnds_back : ∀ (ks : List (List Bool)) (s : List Bool × List Bool), s.1.length = 32 ∧ s.2.length = 32 → ks.reverse.foldl rnd (swp (ks.foldl rnd s)) = swp s
  | [], s, _ => rfl
  | k :: ks, s, h => by
    rw [List.foldl_cons, List.reverse_cons, List.foldl_append, rnds_back ks (rnd s k) (rnd_len s k h)]
    exact rnd_back s k h.1
theorem cut_join (a b : List Bool) (ha : a.length = 32) : ((a ++ b).take 32, (a ++ b).drop 32) = (a, b) := by
  rw [List.take_left' ha, List.drop_left' ha]
/-- one part: there and back -/
theorem des_back (ks : List (List Bool)) (x : List Bool) (h : x.length = 64) : des ks.reverse (des ks x) = x := by
  have hs : ((tk tIn x).take 32).length = 32 ∧ ((tk tIn x).drop 32).length = 32 := by
    have : (tk tIn x).length = 64 := tk_len _ _
    exact ⟨by rw [List.length_take, this]; rfl, by rw [List.length_drop, this]⟩
  have hl := rnds_len ks ((tk tIn x).take 32, (tk tIn x).drop 32) hs
  unfold des
  rw [in_out _ (by rw [List.length_append, hl.1, hl.2]), cut_join _ _ hl.2]
  have := rnds_back ks ((tk tIn x).take 32, (tk tIn x).drop 32) hs
  unfold swp at this
  rw [this]
  simp only
  rw [List.take_append_drop, out_in x h]
theorem des_fore (ks : List (List Bool)) (x : List Bool) (h : x.length = 64) : des ks (des ks.reverse x) = x := by
  have := des_back ks.reverse x h
  rwa [List.reverse_reverse] at this
theorem dec_enc (l : List UInt8) (x : List Bool) (h : x.length = 64) : dec l (enc l x) = x := by
  unfold dec enc
  split
  · exact des_back _ _ h
  · rw [des_back _ _ (des_len _ _), des_fore _ _ (des_len _ _), des_back _ _ h]
theorem enc_dec (l : List UInt8) (x : List Bool) (h : x.length = 64) : enc l (dec l x) = x := by
  unfold dec enc
  split
  · exact des_fore _ _ h
  · rw [des_fore _ _ (des_len _ _), des_back _ _ (des_len _ _), des_fore _ _ h]
/-! bytes and blocks -/
theorem bitsN_take (x : List Bool) (j : Nat) (h : x.length = 64) (hj : j < 8) : bitsN 8 (UInt8.ofNat (val ((x.drop (8 * j)).take 8))).toNat = (x.drop (8 * j)).take 8 := by
  have hl : ((x.drop (8 * j)).take 8).length = 8 := by rw [List.length_take, List.length_drop, h]; omega
  have lt := val_lt ((x.drop (8 * j)).take 8)
  rw [hl] at lt
  have e : (UInt8.ofNat (val ((x.drop (8 * j)).take 8))).toNat = val ((x.drop (8 * j)).take 8) := by
    rw [UInt8.toNat_ofNat']; exact Nat.mod_eq_of_lt lt
  rw [e]
  have := bitsN_val ((x.drop (8 * j)).take 8)
  rwa [hl] at this
theorem parts8 (x : List Bool) (h : x.length = 64) : (List.range 8).flatMap (fun j => (x.drop (8 * j)).take 8) = x := by
  have : ∀ n, n ≤ 8 → (List.range n).flatMap (fun j => (x.drop (8 * j)).take 8) = x.take (8 * n) := by
    intro n
    induction n with
    | zero => intro _; simp
    | succ n ih =>
      intro hn
      rw [List.range_succ, List.flatMap_append, ih (by omega)]
      simp only [List.flatMap_cons, List.flatMap_nil, List.append_nil]
      rw [Nat.mul_succ, List.take_add]
  rw [this 8 (Nat.le_refl _), List.take_of_length_le (by omega)]
theorem bits_byW (x : List Bool) (h : x.length = 64) : bitsS (byW x) = x := by
  unfold bitsS byW
  rw [List.flatMap_map]
  refine Eq.trans ?_ (parts8 x h)
  rw [List.flatMap_def, List.flatMap_def]
  congr 1
  apply List.map_congr_left
  intro j hj
  exact bitsN_take x j h (List.mem_range.1 hj)
theorem bitsS_append (a b : List UInt8) : bitsS (a ++ b) = bitsS a ++ bitsS b := by simp [bitsS]
theorem bitsS_inj : ∀ (a b : List UInt8), a.length = b.length → bitsS a = bitsS b → a = b
  | [], [], _, _ => rfl
  | x :: a, y :: b, h, e => by
    simp only [bitsS, List.flatMap_cons] at e
    have e1 := List.append_inj e (by rw [bitsN_len, bitsN_len])
    have e2 : x.toNat = y.toNat := by
      have := congrArg val e1.1
      rwa [val_bitsN 8 _ x.toNat_lt, val_bitsN 8 _ y.toNat_lt] at this
    rw [UInt8.toNat_inj.1 e2, bitsS_inj a b (by simpa using h) e1.2]
  | [], y :: b, h, _ => by simp at h
  | x :: a, [], h, _ => by simp at h
theorem byW_bits (l : List UInt8) (h : l.length = 8) : byW (bitsS l) = l :=
  bitsS_inj _ _ (by rw [byW_len, h]) (bits_byW _ (by rw [bitsS_len, h]))
theorem pt_outN (f : Nat → List Bool) (N i : Nat) (hi : i < N) : pt (outN f N) i = byW (f i) := by
  have h1 : outN f N = outN f i ++ (byW (f i) ++ ((List.range (N - i - 1)).flatMap fun k => byW (f (i + 1 + k)))) := by
    have : ∀ m, outN f (i + 1 + m) = outN f i ++ (byW (f i) ++ ((List.range m).flatMap fun k => byW (f (i + 1 + k)))) := by
      intro m
      induction m with
      | zero => simp [outN_succ]
      | succ m ih => rw [← Nat.add_assoc, outN_succ, ih, List.range_succ, List.flatMap_append]; simp
    have := this (N - i - 1)
    rwa [show i + 1 + (N - i - 1) = N by omega] at this
  rw [pt, h1, List.drop_left' (by rw [outN_len]), List.take_left' (byW_len _)]
theorem blk_outN (f : Nat → List Bool) (N i : Nat) (hi : i < N) (hf : (f i).length = 64) : blk (outN f N) i = f i := by
  rw [blk, pt_outN f N i hi, bits_byW _ hf]
theorem outN_congr (f g : Nat → List Bool) (N : Nat) (h : ∀ i, i < N → f i = g i) : outN f N = outN g N := by
  unfold outN
  rw [List.flatMap_def, List.flatMap_def]
  congr 1
  apply List.map_congr_left
  intro i hi
  rw [h i (List.mem_range.1 hi)]
theorem outN_blk (t : List UInt8) (N : Nat) (h : t.length = 8 * N) : outN (blk t) N = t := by
  have : ∀ n, n ≤ N → outN (blk t) n = t.take (8 * n) := by
    intro n
    induction n with
    | zero => intro _; simp [outN]
    | succ n ih =>
      intro hn
      rw [outN_succ, ih (by omega), blk, byW_bits _ (by rw [pt, List.length_take, List.length_drop]; omega), pt, Nat.mul_succ, List.take_add]
  rw [this N (Nat.le_refl _), List.take_of_length_le (by omega)]
theorem mapB_len (f : List Bool → List Bool) (t : List UInt8) (N : Nat) (h : t.length = 8 * N) : (mapB f t).length = 8 * N := by
  rw [mapB, outN_len, h]; omega
theorem blk_len8 (t : List UInt8) (N i : Nat) (h : t.length = 8 * N) (hi : i < N) : (blk t i).length = 64 := blk_len t i (by omega)
theorem map_back (f g : List Bool → List Bool) (hf : ∀ x, (f x).length = 64) (hg : ∀ x, x.length = 64 → g (f x) = x) (t : List UInt8) (N : Nat) (h : t.length = 8 * N) : mapB g (mapB f t) = t := by
  have e : t.length / 8 = N := by omega
  rw [mapB, mapB_len f t N h, show 8 * N / 8 = N by omega]
  refine Eq.trans (outN_congr _ (blk t) N fun i hi => ?_) (outN_blk t N h)
  rw [mapB, e, blk_outN _ N i hi (hf _), hg _ (blk_len8 t N i h hi)]
theorem chain_len (l : List UInt8) (F : List Bool) (t : List UInt8) (N : Nat) (h : t.length = 8 * N) : (chainL l F t).length = 8 * N := by rw [chainL, outN_len, h]; omega
theorem unch_len (l : List UInt8) (F : List Bool) (t : List UInt8) (N : Nat) (h : t.length = 8 * N) : (unchL l F t).length = 8 * N := by rw [unchL, outN_len, h]; omega
theorem prv_chain (l : List UInt8) (F : List Bool) (t : List UInt8) (N : Nat) (h : t.length = 8 * N) : ∀ i, i < N → prv F (chainL l F t) i = ahd l F t i
  | 0, _ => rfl
  | i + 1, hi => by
    show blk (chainL l F t) i = _
    rw [chainL, show t.length / 8 = N by omega, blk_outN _ N i (by omega) (ahd_lenS _ _ _ _)]
theorem unch_chain (l : List UInt8) (F : List Bool) (hF : F.length = 64) (t : List UInt8) (N : Nat) (h : t.length = 8 * N) : unchL l F (chainL l F t) = t := by
  rw [unchL, chain_len l F t N h, show 8 * N / 8 = N by omega]
  refine Eq.trans (outN_congr _ (blk t) N fun i hi => ?_) (outN_blk t N h)
  rw [prv_chain l F t N h i hi]
  have : blk (chainL l F t) i = ahd l F t (i + 1) := by rw [chainL, show t.length / 8 = N by omega, blk_outN _ N i hi (ahd_lenS _ _ _ _)]
  rw [this, ahd, dec_enc l _ (xr_len _ _ 64 (blk_len8 t N i h hi) (ahd_len l F hF t i)), xr_xr _ _ (by rw [blk_len8 t N i h hi, ahd_len l F hF t i])]
theorem prv_len (F : List Bool) (hF : F.length = 64) (t : List UInt8) (N : Nat) (h : t.length = 8 * N) : ∀ i, i < N → (prv F t i).length = 64
  | 0, _ => hF
  | i + 1, hi => blk_len8 t N i h (by omega)
theorem blk_unch (l : List UInt8) (F : List Bool) (hF : F.length = 64) (t : List UInt8) (N : Nat) (h : t.length = 8 * N) (i : Nat) (hi : i < N) : blk (unchL l F t) i = xr (dec l (blk t i)) (prv F t i) := by
  rw [unchL, show t.length / 8 = N by omega, blk_outN _ N i hi (xr_len _ _ 64 (dec_len _ _) (prv_len F hF t N h i hi))]
theorem ahd_unch (l : List UInt8) (F : List Bool) (hF : F.length = 64) (t : List UInt8) (N : Nat) (h : t.length = 8 * N) : ∀ i, i < N → ahd l F (unchL l F t) i = prv F t i ∧ ahd l F (unchL l F t) (i + 1) = blk t i
  | 0, hi => by
    have e : ahd l F (unchL l F t) 0 = prv F t 0 := rfl
    refine ⟨e, ?_⟩
    rw [ahd, e, blk_unch l F hF t N h 0 hi, xr_xr _ _ (by rw [dec_len, prv_len F hF t N h 0 hi]), enc_dec l _ (blk_len8 t N 0 h hi)]
  | i + 1, hi => by
    have e : ahd l F (unchL l F t) (i + 1) = prv F t (i + 1) := (ahd_unch l F hF t N h i (by omega)).2
    refine ⟨e, ?_⟩
    rw [ahd, e, blk_unch l F hF t N h (i + 1) hi, xr_xr _ _ (by rw [dec_len, prv_len F hF t N h (i + 1) hi]), enc_dec l _ (blk_len8 t N (i + 1) h hi)]
theorem chain_unch (l : List UInt8) (F : List Bool) (hF : F.length = 64) (t : List UInt8) (N : Nat) (h : t.length = 8 * N) : chainL l F (unchL l F t) = t := by
  rw [chainL, unch_len l F t N h, show 8 * N / 8 = N by omega]
  refine Eq.trans (outN_congr _ (blk t) N fun i hi => ?_) (outN_blk t N h)
  exact (ahd_unch l F hF t N h i hi).2
end Go.Proofs.YtpifebapodfeaaaGreat.Pm
/- Chain, Unchain. -/
namespace Go.Proofs.YtpifebapodfeaaaGreat.Ch
set_option linter.unusedVariables false
open Go.RowKit Pla Cb Tk Sm Wd Nw Bk Aw Eb Ec Et Cc
theorem prv_lenS (F : List Bool) (hF : F.length = 64) (s : ByteArray) (N : Nat) (h : s.size = 8 * N) : ∀ i, i < N → (prv F s.data.toList i).length = 64
  | 0, _ => hF
  | i + 1, hi => blk_len' s i (by omega)
theorem Cha_first (f s : ByteArray) (g : Nat) (w : World) (q : ((f.size : Int) != 8) = true) :
    Calls Tryz.prog 36 #[.pointer (some ⟨g, 0, none⟩), .string f, .string s] w fun e w' => e = .returned (.tuple #[.string ⟨#[]⟩, .int .i64 31]) ∧ Below w.heap.size w w' := by
  go_enter Tryz.func36, Tryz.ntmps36
  go_wp2
  exact bodyPost_ret (v := .tuple #[.string ⟨#[]⟩, .int .i64 31]) (by simp [results, Tryz.results36, go_sem]) rfl ⟨rfl, by first | exact Below.refl _ _ | exact below_one w _⟩
theorem Cha_bad (f s : ByteArray) (g : Nat) (w : World) (hf : 8 ≤ f.size) (q : ((f.size : Int) != 8) = false) (h : Hid (s.size % 8 ≠ 0)) (hs : s.size ≤ 1099511627776) :
    Calls Tryz.prog 36 #[.pointer (some ⟨g, 0, none⟩), .string f, .string s] w fun e w' => e = .returned (.tuple #[.string ⟨#[]⟩, .int .i64 31]) ∧ Below w.heap.size w w' := by
  have WO := fun y => word_any f hf y
  go_enter Tryz.func36, Tryz.ntmps36
  go_wp2_with (first
    | (go_at_call 59; refine (WO _).mono ?_; rintro e x ⟨rfl, rfl⟩)
    | (go_at_call 60; refine (eachC_bad s _ _ _ h hs).mono ?_; rintro e x2 ⟨rfl, rfl⟩))
  exact bodyPost_ret (v := .tuple #[.string ⟨#[]⟩, .int .i64 31]) (by simp [results, Tryz.results36, go_sem]) rfl ⟨rfl, below_two _ _ _⟩
set_option maxRecDepth 100000 in
set_option maxHeartbeats 1600000 in
theorem Cha_good (f s : ByteArray) (g K N : Nat) (l : List UInt8) (w : World) (hf : Hid (f.size = 8)) (hN : Hid (s.size = 8 * N)) (hs : s.size ≤ 1099511627776) (hK : Hid (kindN l.length = K ∧ 1 ≤ K)) (hk : Key w g K l) :
    Calls Tryz.prog 36 #[.pointer (some ⟨g, 0, none⟩), .string f, .string s] w fun e w' => e = .returned (.tuple #[.string ⟨(chainL l (bitsS f.data.toList) s.data.toList).toArray⟩, .int .i64 0]) ∧ Below w.heap.size w w' := by
  have hf8 : f.data.toList.length = 8 := by rw [show f.data.toList.length = f.size by simp]; exact hf.out
  have WO := fun y => word_any f (by rw [hf.out]; exact Nat.le_refl _) y
  rw [List.take_of_length_le (show f.data.toList.length ≤ 8 by omega)] at WO
  have q : ((f.size : Int) != 8) = false := by have := hf.out; simp only [bne_eq_false_iff_eq]; omega
  have fl : (bitsS f.data.toList).length = 64 := by rw [bitsS_len, hf8]
  generalize bitsS f.data.toList = F0 at *
  have w2 : World := (w.alloc (Obj.cells #[.pointer (some ⟨g, 0, none⟩)] 62)).alloc (Obj.cells #[.int .u64 (val F0 : Int)] 103)
  have EA : Calls Tryz.prog 60 #[.string s, .func (Fn.func 61) #[] #[.pointer (some ⟨w.heap.size, 0, none⟩), .pointer (some ⟨w.heap.size + 1, 0, none⟩)]] ((w.alloc (Obj.cells #[.pointer (some ⟨g, 0, none⟩)] 62)).alloc (Obj.cells #[.int .u64 (val F0 : Int)] 103)) fun e w' => e = .returned (.tuple #[.string ⟨(chainL l F0 s.data.toList).toArray⟩, .int .i64 0]) ∧ Below w.heap.size w w' := by
    have hb2 := h2_0 w (Obj.cells #[.pointer (some ⟨g, 0, none⟩)] 62) (Obj.cells #[.int .u64 (val F0 : Int)] 103)
    have hc2 := h2_1 w (Obj.cells #[.pointer (some ⟨g, 0, none⟩)] 62) (Obj.cells #[.int .u64 (val F0 : Int)] 103)
    have hbl := below_two w (Obj.cells #[.pointer (some ⟨g, 0, none⟩)] 62) (Obj.cells #[.int .u64 (val F0 : Int)] 103)
    have hsz : ((w.alloc (Obj.cells #[.pointer (some ⟨g, 0, none⟩)] 62)).alloc (Obj.cells #[.int .u64 (val F0 : Int)] 103)).heap.size = w.heap.size + 2 := by simp
    generalize (w.alloc (Obj.cells #[.pointer (some ⟨g, 0, none⟩)] 62)).alloc (Obj.cells #[.int .u64 (val F0 : Int)] 103) = W at *
    have gl := key_lt hk
    have E := eachC s N hN hs w.heap.size (w.heap.size + 1) (fun i => ahd l F0 s.data.toList (i + 1)) (fun i _ => ahd_lenS _ _ _ _ : ∀ i, i < N → _) W (fun i y => Xc (w.heap.size + 1) W y ∧ y.heap[w.heap.size + 1]? = some (.cells #[.int .u64 (val (ahd l F0 s.data.toList i) : Int)] 103)) ⟨Xc.refl _ _, hc2⟩ (fun i y y' h1 h2 => ⟨h1.1.below h2, (h2.block _ (by omega)).trans h1.2⟩ : ∀ i y y', _)
      (fun i y hi hsy hI => by
        have hky : Key y g K l := (hI.1.2.2.2.2 g (by omega) (by omega)).trans (key_kept hbl hk)
        have hby := (hI.1.2.2.2.2 w.heap.size (by omega) (by omega)).trans hb2
        refine (chain1 l g K w.heap.size (w.heap.size + 1) hK (blk s.data.toList i) (ahd l F0 s.data.toList i) (blk_len' s i (by have := hN.out; omega)) (ahd_len l F0 fl s.data.toList i) y hky hby hI.2).mono ?_
        rintro e y' ⟨rfl, z, hz, rfl⟩
        exact ⟨rfl, ⟨(hI.1.below (hz.mono hsy)).set _, setCell_heap (kept hz hI.2) 0 _⟩, fun v n xs ho => row_set (row_keeps ho hz) (by omega), by rw [setCell_size]; exact hz.size⟩ : ∀ i y, _)
    refine E.mono ?_
    rintro e w' ⟨rfl, ⟨hx, _⟩, _⟩
    refine ⟨by rw [chainL, show s.data.toList.length / 8 = N by rw [show s.data.toList.length = s.size by simp, hN.out]; omega], hbl.trans ⟨hx.1, hx.2.1, hx.2.2.1, hx.2.2.2.1, fun k hk => hx.2.2.2.2 k (by omega) (by omega)⟩⟩
  clear hN hK hf hf8 fl w2
  generalize (chainL l F0 s.data.toList).toArray = R at *
  go_enter Tryz.func36, Tryz.ntmps36
  go_wp2_with (first
    | (go_at_call 59; refine (WO _).mono ?_; rintro e x ⟨rfl, hx⟩; rw [hx])
    | (go_at_call 60; refine EA.mono ?_; rintro e x2 ⟨rfl, hx2⟩))
  exact bodyPost_ret (v := .tuple #[.string ⟨R⟩, .int .i64 0]) (by simp [results, Tryz.results36, go_sem]) rfl ⟨rfl, hx2⟩
end Go.Proofs.YtpifebapodfeaaaGreat.Ch
