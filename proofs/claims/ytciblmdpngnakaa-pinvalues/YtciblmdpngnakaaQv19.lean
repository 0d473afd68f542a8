import Derived.Test.YtciblmdpngnakaaQv18
import Derived.Test.YtciblmdpngnakaaQv14
/- Plain: what is encrypted is decrypted. -/
namespace Go.Proofs.Ytciblmdpngnakaa.Pm
set_option linter.unusedVariables false
open Go.RowKit Pla Eb Et Cc
theorem tk_tk (t u : List Nat) (x : List Bool) (h : ∀ n ∈ t, 1 ≤ n ∧ n ≤ u.length) : tk t (tk u x) = tk (t.map fun n => u.getD (n - 1) 0) x := by
  simp only [tk, List.map_map]
  apply List.map_congr_left
  intro n hn
  have hh := h n hn
  have hl : n - 1 < u.length := by omega
  simp only [Function.comp, List.getD_eq_getElem?_getD, List.getElem?_map, List.getElem?_eq_getElem hl, Option.map_some, Option.getD_some]
theorem tk_id (x : List Bool) (h : x.length = 64) : tk ((List.range 64).map (· + 1)) x = x := by
  apply List.ext_getElem?
  intro i
  simp only [tk, List.map_map, List.getElem?_map]
  by_cases hi : i < 64
  · rw [List.getElem?_range hi, List.getElem?_eq_getElem (by omega)]
    simp [List.getElem?_eq_getElem (show i < x.length by omega)]
  · rw [List.getElem?_eq_none (by simp; omega), List.getElem?_eq_none (by omega)]; rfl
theorem in_out (x : List Bool) (h : x.length = 64) : tk tIn (tk tOut x) = x := by
  rw [tk_tk tIn tOut x (by decide), show (tIn.map fun n => tOut.getD (n - 1) 0) = (List.range 64).map (· + 1) by decide, tk_id x h]
theorem out_in (x : List Bool) (h : x.length = 64) : tk tOut (tk tIn x) = x := by
  rw [tk_tk tOut tIn x (by decide), show (tOut.map fun n => tIn.getD (n - 1) 0) = (List.range 64).map (· + 1) by decide, tk_id x h]
theorem xr_xr : ∀ (a b : List Bool), a.length = b.length → xr (xr a b) b = a
  | [], [], _ => rfl
  | x :: a, y :: b, h => by
    have := xr_xr a b (by simpa using h)
    simp only [xr, List.zipWith_cons_cons] at this ⊢
    rw [this]; simp
  | [], y :: b, h => by simp at h
  | x :: a, [], h => by simp at h
theorem xr_comm : ∀ (a b : List Bool), xr a b = xr b a
  | [], [] => rfl
  | x :: a, y :: b => by
    have := xr_comm a b
    simp only [xr, List.zipWith_cons_cons] at this ⊢
    rw [this, Bool.xor_comm]
  | [], y :: b => rfl
  | x :: a, [] => rfl
def swp (s : List Bool × List Bool) : List Bool × List Bool := (s.2, s.1)
theorem rnd_back (s : List Bool × List Bool) (k : List Bool) (h : s.1.length = 32) : rnd (swp (rnd s k)) k = swp s := by
  simp only [rnd, swp]
  rw [xr_xr _ _ (by rw [h, mix_len])]
theorem rnds_back : ∀ (ks : List (List Bool)) (s : List Bool × List Bool), s.1.length = 32 ∧ s.2.length = 32 → ks.reverse.foldl rnd (swp (ks.foldl rnd s)) = swp s
  | [], s, _ => rfl
  | k :: ks, s, h => by
    rw [List.foldl_cons, List.reverse_cons, List.foldl_append, rnds_back ks (rnd s k) (rnd_len s k h)]
    exact rnd_back s k h.1
theorem cut_join (a b : List Bool) (ha : a.length = 32) : ((a ++ b).take 32, (a ++ b).drop 32) = (a, b) := by
  rw [List.take_left' ha, List.drop_left' ha]
/-- one part: there and back -/
theorem des_back (ks : List (List Bool)) (x : List Bool) (h : x.length = 64) : des ks.reverse (des ks x) = x := by
  have hs : ((tk tIn x).take 32).length = 32 ∧ ((tk tIn x).drop 32).length = 32 := by
    have : (tk tIn x).length = 64 := tk_len _ _
    exact ⟨by rw [List.length_take, this]; rfl, by rw [List.length_drop, this]⟩
  have hl := rnds_len ks ((tk tIn x).take 32, (tk tIn x).drop 32) hs
  unfold des
  rw [in_out _ (by rw [List.length_append, hl.1, hl.2]), cut_join _ _ hl.2]
  have := rnds_back ks ((tk tIn x).take 32, (tk tIn x).drop 32) hs
  unfold swp at this
  rw [this]
  simp only
  rw [List.take_append_drop, out_in x h]
theorem des_fore (ks : List (List Bool)) (x : List Bool) (h : x.length = 64) : des ks (des ks.reverse x) = x := by
  have := des_back ks.reverse x h
  rwa [List.reverse_reverse] at this
theorem dec_enc (l : List UInt8) (x : List Bool) (h : x.length = 64) : dec l (enc l x) = x := by
  unfold dec enc
  split
  · exact des_back _ _ h
  · rw [des_back _ _ (des_len _ _), des_fore _ _ (des_len _ _), des_back _ _ h]
theorem enc_dec (l : List UInt8) (x : List Bool) (h : x.length = 64) : enc l (dec l x) = x := by
  unfold dec enc
  split
  · exact des_fore _ _ h
  · rw [des_fore _ _ (des_len _ _), des_back _ _ (des_len _ _), des_fore _ _ h]
/-! bytes and blocks -/
theorem bitsN_take (x : List Bool) (j : Nat) (h : x.length = 64) (hj : j < 8) : bitsN 8 (UInt8.ofNat (val ((x.drop (8 * j)).take 8))).toNat = (x.drop (8 * j)).take 8 := by
  have hl : ((x.drop (8 * j)).take 8).length = 8 := by rw [List.length_take, List.length_drop, h]; omega
  have lt := val_lt ((x.drop (8 * j)).take 8)
  rw [hl] at lt
  have e : (UInt8.ofNat (val ((x.drop (8 * j)).take 8))).toNat = val ((x.drop (8 * j)).take 8) := by
    rw [UInt8.toNat_ofNat']; exact Nat.mod_eq_of_lt lt
  rw [e]
  have := bitsN_val ((x.drop (8 * j)).take 8)
  rwa [hl] at this
theorem parts8 (x : List Bool) (h : x.length = 64) : (List.range 8).flatMap (fun j => (x.drop (8 * j)).take 8) = x := by
  have : ∀ n, n ≤ 8 → (List.range n).flatMap (fun j => (x.drop (8 * j)).take 8) = x.take (8 * n) := by
    intro n
    induction n with
    | zero => intro _; simp
    | succ n ih =>
      intro hn
      rw [List.range_succ, List.flatMap_append, ih (by omega)]
      simp only [List.flatMap_cons, List.flatMap_nil, List.append_nil]
      rw [Nat.mul_succ, List.take_add]
  rw [this 8 (Nat.le_refl _), List.take_of_length_le (by omega)]
theorem bits_byW (x : List Bool) (h : x.length = 64) : bitsS (byW x) = x := by
  unfold bitsS byW
  rw [List.flatMap_map]
  refine Eq.trans ?_ (parts8 x h)
  rw [List.flatMap_def, List.flatMap_def]
  congr 1
  apply List.map_congr_left
  intro j hj
  exact bitsN_take x j h (List.mem_range.1 hj)
theorem bitsS_append (a b : List UInt8) : bitsS (a ++ b) = bitsS a ++ bitsS b := by simp [bitsS]
theorem bitsS_inj : ∀ (a b : List UInt8), a.length = b.length → bitsS a = bitsS b → a = b
  | [], [], _, _ => rfl
  | x :: a, y :: b, h, e => by
    simp only [bitsS, List.flatMap_cons] at e
    have e1 := List.append_inj e (by rw [bitsN_len, bitsN_len])
    have e2 : x.toNat = y.toNat := by
      have := congrArg val e1.1
      rwa [val_bitsN 8 _ x.toNat_lt, val_bitsN 8 _ y.toNat_lt] at this
    rw [UInt8.toNat_inj.1 e2, bitsS_inj a b (by simpa using h) e1.2]
  | [], y :: b, h, _ => by simp at h
  | x :: a, [], h, _ => by simp at h
theorem byW_bits (l : List UInt8) (h : l.length = 8) : byW (bitsS l) = l :=
  bitsS_inj _ _ (by rw [byW_len, h]) (bits_byW _ (by rw [bitsS_len, h]))
theorem pt_outN (f : Nat → List Bool) (N i : Nat) (hi : i < N) : pt (outN f N) i = byW (f i) := by
  have h1 : outN f N = outN f i ++ (byW (f i) ++ ((List.range (N - i - 1)).flatMap fun k => byW (f (i + 1 + k)))) := by
    have : ∀ m, outN f (i + 1 + m) = outN f i ++ (byW (f i) ++ ((List.range m).flatMap fun k => byW (f (i + 1 + k)))) := by
      intro m
      induction m with
      | zero => simp [outN_succ]
      | succ m ih => rw [← Nat.add_assoc, outN_succ, ih, List.range_succ, List.flatMap_append]; simp
    have := this (N - i - 1)
    rwa [show i + 1 + (N - i - 1) = N by omega] at this
  rw [pt, h1, List.drop_left' (by rw [outN_len]), List.take_left' (byW_len _)]
theorem blk_outN (f : Nat → List Bool) (N i : Nat) (hi : i < N) (hf : (f i).length = 64) : blk (outN f N) i = f i := by
  rw [blk, pt_outN f N i hi, bits_byW _ hf]
theorem outN_congr (f g : Nat → List Bool) (N : Nat) (h : ∀ i, i < N → f i = g i) : outN f N = outN g N := by
  unfold outN
  rw [List.flatMap_def, List.flatMap_def]
  congr 1
  apply List.map_congr_left
  intro i hi
  rw [h i (List.mem_range.1 hi)]
theorem outN_blk (t : List UInt8) (N : Nat) (h : t.length = 8 * N) : outN (blk t) N = t := by
  have : ∀ n, n ≤ N → outN (blk t) n = t.take (8 * n) := by
    intro n
    induction n with
    | zero => intro _; simp [outN]
    | succ n ih =>
      intro hn
      rw [outN_succ, ih (by omega), blk, byW_bits _ (by rw [pt, List.length_take, List.length_drop]; omega), pt, Nat.mul_succ, List.take_add]
  rw [this N (Nat.le_refl _), List.take_of_length_le (by omega)]
theorem mapB_len (f : List Bool → List Bool) (t : List UInt8) (N : Nat) (h : t.length = 8 * N) : (mapB f t).length = 8 * N := by
  rw [mapB, outN_len, h]; omega
theorem blk_len8 (t : List UInt8) (N i : Nat) (h : t.length = 8 * N) (hi : i < N) : (blk t i).length = 64 := blk_len t i (by omega)
theorem map_back (f g : List Bool → List Bool) (hf : ∀ x, (f x).length = 64) (hg : ∀ x, x.length = 64 → g (f x) = x) (t : List UInt8) (N : Nat) (h : t.length = 8 * N) : mapB g (mapB f t) = t := by
  have e : t.length / 8 = N := by omega
  rw [mapB, mapB_len f t N h, show 8 * N / 8 = N by omega]
  refine Eq.trans (outN_congr _ (blk t) N fun i hi => ?_) (outN_blk t N h)
  rw [mapB, e, blk_outN _ N i hi (hf _), hg _ (blk_len8 t N i h hi)]
theorem chain_len (l : List UInt8) (F : List Bool) (t : List UInt8) (N : Nat) (h : t.length = 8 * N) : (chainL l F t).length = 8 * N := by rw [chainL, outN_len, h]; omega
theorem unch_len (l : List UInt8) (F : List Bool) (t : List UInt8) (N : Nat) (h : t.length = 8 * N) : (unchL l F t).length = 8 * N := by rw [unchL, outN_len, h]; omega
theorem prv_chain (l : List UInt8) (F : List Bool) (t : List UInt8) (N : Nat) (h : t.length = 8 * N) : ∀ i, i < N → prv F (chainL l F t) i = ahd l F t i
  | 0, _ => rfl
  | i + 1, hi => by
    show blk (chainL l F t) i = _
    rw [chainL, show t.length / 8 = N by omega, blk_outN _ N i (by omega) (ahd_lenS _ _ _ _)]
theorem unch_chain (l : List UInt8) (F : List Bool) (hF : F.length = 64) (t : List UInt8) (N : Nat) (h : t.length = 8 * N) : unchL l F (chainL l F t) = t := by
  rw [unchL, chain_len l F t N h, show 8 * N / 8 = N by omega]
  refine Eq.trans (outN_congr _ (blk t) N fun i hi => ?_) (outN_blk t N h)
  rw [prv_chain l F t N h i hi]
  have : blk (chainL l F t) i = ahd l F t (i + 1) := by rw [chainL, show t.length / 8 = N by omega, blk_outN _ N i hi (ahd_lenS _ _ _ _)]
  rw [this, ahd, dec_enc l _ (xr_len _ _ 64 (blk_len8 t N i h hi) (ahd_len l F hF t i)), xr_xr _ _ (by rw [blk_len8 t N i h hi, ahd_len l F hF t i])]
theorem prv_len (F : List Bool) (hF : F.length = 64) (t : List UInt8) (N : Nat) (h : t.length = 8 * N) : ∀ i, i < N → (prv F t i).length = 64
  | 0, _ => hF
  | i + 1, hi => blk_len8 t N i h (by omega)
theorem blk_unch (l : List UInt8) (F : List Bool) (hF : F.length = 64) (t : List UInt8) (N : Nat) (h : t.length = 8 * N) (i : Nat) (hi : i < N) : blk (unchL l F t) i = xr (dec l (blk t i)) (prv F t i) := by
  rw [unchL, show t.length / 8 = N by omega, blk_outN _ N i hi (xr_len _ _ 64 (dec_len _ _) (prv_len F hF t N h i hi))]
theorem ahd_unch (l : List UInt8) (F : List Bool) (hF : F.length = 64) (t : List UInt8) (N : Nat) (h : t.length = 8 * N) : ∀ i, i < N → ahd l F (unchL l F t) i = prv F t i ∧ ahd l F (unchL l F t) (i + 1) = blk t i
  | 0, hi => by
    have e : ahd l F (unchL l F t) 0 = prv F t 0 := rfl
    refine ⟨e, ?_⟩
    rw [ahd, e, blk_unch l F hF t N h 0 hi, xr_xr _ _ (by rw [dec_len, prv_len F hF t N h 0 hi]), enc_dec l _ (blk_len8 t N 0 h hi)]
  | i + 1, hi => by
    have e : ahd l F (unchL l F t) (i + 1) = prv F t (i + 1) := (ahd_unch l F hF t N h i (by omega)).2
    refine ⟨e, ?_⟩
    rw [ahd, e, blk_unch l F hF t N h (i + 1) hi, xr_xr _ _ (by rw [dec_len, prv_len F hF t N h (i + 1) hi]), enc_dec l _ (blk_len8 t N (i + 1) h hi)]
theorem chain_unch (l : List UInt8) (F : List Bool) (hF : F.length = 64) (t : List UInt8) (N : Nat) (h : t.length = 8 * N) : chainL l F (unchL l F t) = t := by
  rw [chainL, unch_len l F t N h, show 8 * N / 8 = N by omega]
  refine Eq.trans (outN_congr _ (blk t) N fun i hi => ?_) (outN_blk t N h)
  exact (ahd_unch l F hF t N h i hi).2
end Go.Proofs.Ytciblmdpngnakaa.Pm
/- What CipherBack asks, out of the contracts. -/
namespace Go.Proofs.Ytciblmdpngnakaa.Bl
set_option linter.unusedVariables false
open Go.RowKit Pla Cb Wd Nw Bk Eb Et Cc Ch Pm
def Ret (s : ByteArray) (w : World) : Ending → World → Prop := fun e w' => e = .returned (.tuple #[.string s, .int .i64 0]) ∧ Below w.heap.size w w'
theorem mk_eq (s : ByteArray) : (⟨s.data.toList.toArray⟩ : ByteArray) = s := by cases s; simp
theorem len_size (s : ByteArray) : s.data.toList.length = s.size := by simp
theorem kind_p (r : ByteArray) (p : Nat) (h : r.size = 8 + 8 * p) (hp : p < 3) : kindN r.size = p + 1 := by
  have : p = 0 ∨ p = 1 ∨ p = 2 := by omega
  rcases this with rfl | rfl | rfl <;> rw [h] <;> rfl
theorem keyOf {s : ByteArray} {w : World} {g K : Nat} (h : w.heap[g]? = some (.cells (bkC K (Tk.up (bf s.data.toList) (128 * K))) 75)) : Key w g K s.data.toList := h
end Go.Proofs.Ytciblmdpngnakaa.Bl
