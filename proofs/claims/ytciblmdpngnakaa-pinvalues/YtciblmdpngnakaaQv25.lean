import Derived.Test.YtciblmdpngnakaaQv23
import Derived.Test.YtciblmdpngnakaaQv24
import Derived.Test.YtciblmdpngnakaaQv09
import Derived.Test.YtciblmdpngnakaaQv19
import Derived.Test.YtciblmdpngnakaaQv13
/- One block under 8 bytes of key, the document's. -/
namespace Go.Proofs.Ytciblmdpngnakaa.Ro
set_option linter.unusedVariables false
open Go.RowKit Pla Cb Sm Rb Rs Rt Rm
open Rr (sv range_piece news_nv nv_one nv_app own_lt range_own rounds_ref)
open Lib0 (owns_len own_ge below_app below_app0)
/-- the round keys, there or back -/
def ord (ks : List (List Bool)) (back : Bool) : List (List Bool) := if back then ks.reverse else ks
theorem ord_len (ks : List (List Bool)) (back : Bool) : (ord ks back).length = ks.length := by unfold ord; split <;> simp
theorem ord_get (ks : List (List Bool)) (h : ks.length = 16) (i : Nat) (hi : i < 16) (back : Bool) : (ord ks back).getD i [] = ks.getD (if back then 15 - i else i) [] := by
  cases back
  · rfl
  · rw [ord, if_pos rfl, if_pos rfl, List.getD_eq_getElem?_getD, List.getD_eq_getElem?_getD, List.getElem?_reverse (by omega), h]
set_option maxRecDepth 100000 in
set_option maxHeartbeats 3200000 in
theorem one_ref (k s : ByteArray) (back : Bool) (hk : Hid (k.size = 8)) (hs : Hid (s.size = 8)) (w : World) :
    Calls Try.prog 84 #[.string k, .string s, .bool back] w fun e w' => e = .returned (.string ⟨(byW (des (ord (sched (bitsS k.data.toList)) back) (bitsS s.data.toList))).toArray⟩) ∧ Below w.heap.size w w' := by
  have RO := rounds_ref k hk
  have BI := fun u => bits_ref s (by rw [hs.out]; decide) (by rw [hs.out]; decide) u
  rw [hs.out] at BI
  have hlb : Hid ((bitsS s.data.toList).length = 64) := (by rw [bitsS_len, show s.data.toList.length = s.size by simp, hs.out] : (bitsS s.data.toList).length = 64)
  have hks : (sched (bitsS k.data.toList)).length = 16 := by simp [sched]
  have hkr : Hid (∀ i, i < 16 → (ord (sched (bitsS k.data.toList)) back).getD i [] = rk (bitsS k.data.toList) (if back then 15 - i else i)) := (fun i hi => by
    rw [ord_get _ hks i hi, sched, List.getD_eq_getElem?_getD, List.getElem?_map, List.getElem?_range (by split <;> omega)]; rfl : ∀ i, i < 16 → (ord (sched (bitsS k.data.toList)) back).getD i [] = rk (bitsS k.data.toList) (if back then 15 - i else i))
  have hko : Hid ((ord (sched (bitsS k.data.toList)) back).length = 16) := (by rw [ord_len, hks] : (ord (sched (bitsS k.data.toList)) back).length = 16)
  have hrl : Hid (∀ i, (rk (bitsS k.data.toList) i).length = 48) := (fun i => rk_len _ _ : ∀ i, (rk (bitsS k.data.toList) i).length = 48)
  generalize rk (bitsS k.data.toList) = R at *
  generalize ord (sched (bitsS k.data.toList)) back = ks at *
  generalize bitsS s.data.toList = x at *
  clear hk hs hks
  go_enter Try.func84, Try.ntmps84
  go_wp2_with (first
    | (go_at_call 96; refine (RO _).mono ?_; rintro e y1 ⟨L, g1, c1, rfl, hc1, hg1, hLl, hr1, hL, hb1⟩)
    | (go_at_call 98; refine (tabIn_ref _).mono ?_; rintro e y ⟨rfl, rfl⟩)
    | (go_at_call 99; refine (BI _).mono ?_; rintro e y2 ⟨g2, c2, rfl, hg2, hl2, hcp2, hr2, hb2⟩)
    | (go_at_call 97; refine (take_ref tIn (nb x) y1.heap.size g2 0 64 64 64 c2 rfl (by rw [nb_len]; exact hlb) (by decide) (by decide) (by decide) En.in_ok _ (Nat.lt_of_lt_of_le (by simp) hb2.size) hl2 (range_keep hb2 (by simp) (tab_range y1 tIn)) hr2).mono ?_; rintro e y3 ⟨g3, c3, rfl, hg3, hl3, hcp3, hr3, hb3⟩; rw [tkN_nb] at hr3))
  have bB : Below w.heap.size w y3 := keepB hb1 (keepB (keepB (below_one y1 _) hb2) hb3)
  have b13 : Below y1.heap.size y1 y3 := keepB (keepB (below_one y1 _) hb2) hb3
  have hrl0 := range_piece hr3 0 32
  have hrr0 := range_piece hr3 32 32
  rw [List.drop_zero] at hrl0
  have ec : (tk tIn x).take 32 = (En.st ks x 0).1 := rfl
  have ed : ((tk tIn x).drop 32).take 32 = (En.st ks x 0).2 := by
    show _ = (tk tIn x).drop 32
    rw [List.take_of_length_le (by rw [List.length_drop, tk_len]; decide)]
  rw [ec] at hrl0
  rw [ed] at hrr0
  rw [Nat.zero_add] at hrr0
  have slen := En.st_len ks x
  have CK : Hid (∀ m, m < 16 → ∃ p, L[m]? = some p ∧ (∀ u, Below y3.heap.size y3 u → u.cell? ⟨g1, m, none⟩ = some (.slice (some ⟨p.1, 0, none⟩) 48 p.2) ∧ p.1 < u.heap.size ∧ u.rangeAt p.1 0 (nv (nb (R m))))) := (fun m hm => by
    have hmL : m < L.length := by omega
    refine ⟨L[m], List.getElem?_eq_getElem hmL, fun u hu => ?_⟩
    have hu1 : Below y1.heap.size y1 u := keepB b13 hu
    obtain ⟨q1, q2⟩ := hL m L[m] (List.getElem?_eq_getElem hmL)
    refine ⟨?_, Nat.lt_of_lt_of_le q1 hu1.size, range_keep hu1 q1 q2⟩
    have := hr1 m (.slice (some ⟨L[m].1, 0, none⟩) 48 L[m].2) (by simp [sv, hmL])
    rw [Nat.zero_add] at this
    rw [← this]
    exact hu1.cell hg1 : ∀ m, m < 16 → ∃ p, L[m]? = some p ∧ (∀ u, Below y3.heap.size y3 u → u.cell? ⟨g1, m, none⟩ = some (.slice (some ⟨p.1, 0, none⟩) 48 p.2) ∧ p.1 < u.heap.size ∧ u.rangeAt p.1 0 (nv (nb (R m)))))
  clear ec ed hr3 hr2 hb1 hb2 hb3 BI RO hr1 hL hLl b13
  go_loopw [9, 10, 11] (fun vl vr c wr => ∃ j : Nat, j ≤ 16 ∧ c = .int .i64 (j : Int) ∧ ∃ gl ol cl gr orr cr, vl = .slice (some ⟨gl, ol, none⟩) 32 cl ∧ vr = .slice (some ⟨gr, orr, none⟩) 32 cr ∧ gl < wr.heap.size ∧ gr < wr.heap.size ∧ wr.rangeAt gl ol (nv (nb (En.st ks x j).1)) ∧ wr.rangeAt gr orr (nv (nb (En.st ks x j).2)) ∧ Below y3.heap.size y3 wr) (fun _ _ c _ => 17 - (intOf c).toNat)
  case atStart => exact ⟨0, Nat.zero_le _, rfl, g3, 0, c3, g3, 32, c3 - 32, rfl, rfl, hl3, hl3, hrl0, hrr0, Below.refl _ _⟩
  case round =>
    obtain ⟨j, hj, rfl, gl, ol, cl, gr, orr, cr, rfl, rfl, hgl, hgr, hrl1, hrr1, hbw⟩ := hrel
    by_cases hlt : j < 16
    · have q0 : (0 : Int) ≤ (j : Int) := by omega
      have q1 : (j : Int) < 16 := by omega
      have HS : Hid ((En.st ks x (j + 1)).1 = (En.st ks x j).2 ∧ (En.st ks x (j + 1)).2 = xr (En.st ks x j).1 (mix (En.st ks x j).2 (R (if back then 15 - j else j)))) := (by
        rw [En.st_succ ks x j (by rw [hko.out]; exact hlt), hkr.out j hlt]; exact ⟨rfl, rfl⟩ : (En.st ks x (j + 1)).1 = (En.st ks x j).2 ∧ (En.st ks x (j + 1)).2 = xr (En.st ks x j).1 (mix (En.st ks x j).2 (R (if back then 15 - j else j))))
      have sl1 : Hid ((En.st ks x j).1.length = 32) := (slen j).1
      have sl2 : Hid ((En.st ks x j).2.length = 32) := (slen j).2
      obtain ⟨p, hp, hpu⟩ := CK.out (if back then 15 - j else j) (by split <;> omega)
      obtain ⟨hc0, hp0, hpr⟩ := hpu wr hbw
      have MX := mixed_ref (En.st ks x j).2 (R (if back then 15 - j else j)) gr orr p.1 0 cr p.2 sl2 (hrl.out _) wr hgr hp0 hrr1 hpr
      have SU := fun gf cf u hgl hgf hrl hrf => sum_ref (En.st ks x j).1 (mix (En.st ks x j).2 (R (if back then 15 - j else j))) gl ol gf 0 32 cl cf sl1 (mix_len _ _) (by decide) (by decide) u hgl hgf hrl hrf
      clear hpu hp CK
      cases back
      · simp only [Bool.false_eq_true, if_false] at HS hc0 hpr MX SU
        clear hpr
        go_wp2_with (first
          | (go_at_call 100; refine MX.mono ?_; rintro e x1 ⟨h1, k1, rfl, m1, n1, o1, p1, b1⟩)
          | (go_at_call 101; refine (SU h1 k1 x1 (Nat.lt_of_lt_of_le hgl b1.size) n1 (range_keep b1 hgl hrl1) p1).mono ?_; rintro e x2 ⟨h2, k2, rfl, m2, n2, o2, p2, b2⟩))
        exact ⟨⟨j + 1, hlt, by simp, gr, orr, cr, h2, 0, k2, rfl, rfl, Nat.lt_of_lt_of_le hgr (Nat.le_trans b1.size b2.size), n2, by rw [HS.out.1]; exact range_keep (keepB b1 b2) hgr hrr1, by rw [HS.out.2]; exact p2, keepB hbw (keepB b1 b2)⟩, by simp only [intOf]; omega⟩
      · simp only [if_true] at HS hc0 hpr MX SU
        have t1 : (15 - (j : Int)).toNat = 15 - j := by omega
        have t2 : (0 : Int) ≤ 15 - (j : Int) := by omega
        have t3 : 15 - (j : Int) < 16 := by omega
        clear hpr
        go_wp2_with (first
          | (go_at_call 100; refine MX.mono ?_; rintro e x1 ⟨h1, k1, rfl, m1, n1, o1, p1, b1⟩)
          | (go_at_call 101; refine (SU h1 k1 x1 (Nat.lt_of_lt_of_le hgl b1.size) n1 (range_keep b1 hgl hrl1) p1).mono ?_; rintro e x2 ⟨h2, k2, rfl, m2, n2, o2, p2, b2⟩))
        exact ⟨⟨j + 1, hlt, by simp, gr, orr, cr, h2, 0, k2, rfl, rfl, Nat.lt_of_lt_of_le hgr (Nat.le_trans b1.size b2.size), n2, by rw [HS.out.1]; exact range_keep (keepB b1 b2) hgr hrr1, by rw [HS.out.2]; exact p2, keepB hbw (keepB b1 b2)⟩, by simp only [intOf]; omega⟩
    · obtain rfl : j = 16 := by omega
      have HD : Hid (des ks x = tk tOut ((En.st ks x 16).2 ++ (En.st ks x 16).1)) := (by
        have e16 : ks.take 16 = ks := List.take_of_length_le (by rw [hko.out]; exact Nat.le_refl _)
        simp only [des, En.st, e16] : des ks x = tk tOut ((En.st ks x 16).2 ++ (En.st ks x 16).1))
      have l1 := (slen 16).1
      have l2 := (slen 16).2
      obtain ⟨i0, hi, hz0, hz1, hz2⟩ := info_parts infoI
      generalize (En.st ks x 16).1 = A1 at *
      generalize (En.st ks x 16).2 = A2 at *
      have BY := fun g o cap u hg hr => bytes_ref (des ks x) g o cap (des_len _ _) u hg hr
      clear CK hkr hko hrl slen
      go_wp2_with (first
        | (at_builtin; refine wpList_append_lies _ rfl _ _ _ rfl wr.heap.size 3 i0 _ 1 8 Try.underlying58 hi hz0 hz1 hz2 rfl (by omega) (.slice none 0 0) 0 _ rfl (World.ownsRow_nil _ _ _ _) ⟨gr, orr, none⟩ 32 cr (nv (nb A2)) rfl (by rw [nv_len, nb_len, l2]) (news_nv hrr1) (nv_one _) (by omega) (by unfold maxLen; omega) (by omega) (Nat.le_refl _) wr.heap.size rfl ?_; intro ga ca w1 ow1 gr1 at1 lt1; have B1 : Below wr.heap.size wr w1 := (Below.refl _ _).grown gr1 (Nat.le_refl _) (fun k h => by cases h); have p2' := range_keep B1 hgl hrl1)
        | (at_builtin; refine wpList_append_lies _ rfl _ _ _ rfl wr.heap.size 3 i0 _ 1 8 Try.underlying58 hi hz0 hz1 hz2 rfl (by omega) _ 32 _ rfl ow1 ⟨gl, ol, none⟩ 32 cl (nv (nb A1)) rfl (by rw [nv_len, nb_len, l1]) (news_nv p2') (nv_one _) (by omega) (by unfold maxLen; omega) (by omega) B1.size w1.heap.size rfl ?_; intro gb cb w2 ow2 gr2 at2 lt2; have B2 : Below wr.heap.size wr w2 := B1.grown gr2 B1.size (own_ge ow1); obtain ⟨gb', cb', hvb, hB5, hg5, hc5, hr5⟩ := own_range (l := nb (A2 ++ A1)) (owns_len (n' := 64) ow2 rfl rfl (by rw [List.nil_append, nv_app])) (by decide); cases hvb)
        | (go_at_call 103; refine (tabOut_ref _).mono ?_; rintro e u ⟨rfl, rfl⟩)
        | (go_at_call 97; refine (take_ref tOut (nb (A2 ++ A1)) w2.heap.size gb 0 64 64 64 cb rfl (by rw [nb_len, List.length_append, l1, l2]; rfl) (by decide) (by decide) (by decide) En.out_ok _ (by simp) (by simp; omega) (tab_range w2 tOut) (range_keep (below_one w2 _) hg5 hr5)).mono ?_; rintro e x6 ⟨h6, k6, rfl, m6, n6, o6, p6, b6⟩; rw [tkN_nb, ← HD.out] at p6)
        | (go_at_call 102; refine (BY h6 0 k6 x6 n6 p6).mono ?_; rintro e x7 ⟨rfl, b7⟩))
      go_ret
      exact ⟨rfl, keepB (keepB (keepB (keepB bB hbw) B2) (keepB (below_one w2 _) b6)) b7⟩
end Go.Proofs.Ytciblmdpngnakaa.Ro
/- What CipherEach asks, out of the contracts. -/
namespace Go.Proofs.Ytciblmdpngnakaa.Ea
set_option linter.unusedVariables false
open Go.RowKit Pla Cb Wd Nw Bk Eb Et Cc Ch Pm Bl Xo
theorem bitsN_xor (n x y : Nat) : bitsN n (x ^^^ y) = xr (bitsN n x) (bitsN n y) := by
  simp only [bitsN, xr, Nat.testBit_xor]
  apply List.ext_getElem?
  intro i
  simp only [List.getElem?_zipWith, List.getElem?_map]
  by_cases hi : i < n
  · rw [List.getElem?_range hi]; rfl
  · rw [List.getElem?_eq_none (by simp; omega)]; rfl
theorem bits_xorL : ∀ a b : List UInt8, a.length = b.length → bitsS (xorL a b) = xr (bitsS a) (bitsS b)
  | [], [], _ => rfl
  | x :: a, y :: b, h => by
    have ih := bits_xorL a b (by simpa using h)
    have e : ∀ (p q r s : List Bool), p.length = q.length → xr (p ++ r) (q ++ s) = xr p q ++ xr r s := fun p q r s hpq => by simp only [xr]; exact List.zipWith_append hpq
    simp only [bitsS, xorL, List.zipWith_cons_cons, List.flatMap_cons] at ih ⊢
    rw [ih, UInt8.toNat_xor, bitsN_xor, ← e _ _ _ _ (by rw [bitsN_len, bitsN_len])]
  | [], y :: b, h => by simp at h
  | x :: a, [], h => by simp at h
theorem cat_mk (a b : List UInt8) : (⟨a.toArray⟩ : ByteArray) ++ ⟨b.toArray⟩ = ⟨(a ++ b).toArray⟩ := by
  apply ByteArray.ext
  simp
/-- the bytes ahead of block j -/
def lastB (l : List UInt8) (f t : ByteArray) : Nat → ByteArray
  | 0 => f
  | j + 1 => ⟨(byW (ahd l (bitsS f.data.toList) t.data.toList (j + 1))).toArray⟩
def allB (l : List UInt8) (t : ByteArray) (j : Nat) : ByteArray := ⟨(outN (fun i => enc l (blk t.data.toList i)) j).toArray⟩
def rowB (l : List UInt8) (f t : ByteArray) (j : Nat) : ByteArray := ⟨(outN (fun i => ahd l (bitsS f.data.toList) t.data.toList (i + 1)) j).toArray⟩
def oneB (l : List UInt8) (t : ByteArray) (j : Nat) : ByteArray := ⟨(byW (enc l (blk t.data.toList j))).toArray⟩
def mixB (l : List UInt8) (f t : ByteArray) (j : Nat) : ByteArray := ⟨(byW (xr (blk t.data.toList j) (ahd l (bitsS f.data.toList) t.data.toList j))).toArray⟩
theorem dl (L : List UInt8) : (ByteArray.mk L.toArray).data.toList = L := by simp
theorem szL (L : List UInt8) : (ByteArray.mk L.toArray).size = L.length := by show L.toArray.size = _; simp
theorem last_bits (l : List UInt8) (f t : ByteArray) (j : Nat) : bitsS (lastB l f t j).data.toList = ahd l (bitsS f.data.toList) t.data.toList j := by
  cases j with
  | zero => rfl
  | succ j => rw [lastB, dl, bits_byW _ (ahd_lenS _ _ _ _)]
theorem last_size (l : List UInt8) (f t : ByteArray) (hf : f.size = 8) (j : Nat) : (lastB l f t j).size = 8 := by
  cases j with
  | zero => exact hf
  | succ j => rw [lastB, szL, byW_len]
theorem all_succ (l : List UInt8) (t : ByteArray) (j : Nat) : allB l t j ++ oneB l t j = allB l t (j + 1) := by rw [allB, oneB, cat_mk, allB, outN_succ]
theorem row_succ (l : List UInt8) (f t : ByteArray) (j : Nat) : rowB l f t j ++ lastB l f t (j + 1) = rowB l f t (j + 1) := by rw [rowB, lastB, cat_mk, rowB, outN_succ]
theorem all_size (l : List UInt8) (t : ByteArray) (j : Nat) : (allB l t j).size = 8 * j := by rw [allB, szL, outN_len]
theorem row_size (l : List UInt8) (f t : ByteArray) (j : Nat) : (rowB l f t j).size = 8 * j := by rw [rowB, szL, outN_len]
theorem one_size (l : List UInt8) (t : ByteArray) (j : Nat) : (oneB l t j).size = 8 := by rw [oneB, szL, byW_len]
theorem ext_list (t : ByteArray) (j : Nat) : (t.extract (8 * j) (8 * j + 8)).data.toList = pt t.data.toList j := by
  rw [pt, ByteArray.data_extract, Array.toList_extract, List.extract_eq_take_drop, show 8 * j + 8 - 8 * j = 8 by omega]
theorem map_one (f : List Bool → List Bool) (s : List UInt8) (h : s.length = 8) : mapB f s = byW (f (bitsS s)) := by
  rw [mapB, h, show 8 / 8 = 0 + 1 from rfl, outN_succ, blk, pt, Nat.mul_zero, List.drop_zero, List.take_of_length_le (by omega)]; rfl
variable (l : List UInt8) (K : Nat) (t f : ByteArray) (N : Nat)
theorem enc_piece (hK : kindN l.length = K ∧ 1 ≤ K) (hN : t.size = 8 * N) (j : Nat) (hj : j < N) (g : Nat) (u : World) (hk : Key u g K l) :
    Calls Try.prog 22 #[.pointer (some ⟨g, 0, none⟩), .string (t.extract (8 * j) (8 * j + 8))] u (Ret (oneB l t j) u) := by
  have hs : (t.extract (8 * j) (8 * j + 8)).size = 8 * 1 := by rw [ByteArray.size_extract]; omega
  have h := Enc_good (t.extract (8 * j) (8 * j + 8)) g K 1 l u hs (by rw [hs]; decide) hK hk
  rw [map_one _ _ (by rw [len_size, hs]), ext_list] at h
  exact h
theorem xor_piece (hf : f.size = 8) (hN : t.size = 8 * N) (j : Nat) (hj : j < N) (u : World) :
    Calls Try.prog 60 #[.string (lastB l f t j), .string (t.extract (8 * j) (8 * j + 8))] u (Ret (mixB l f t j) u) := by
  have hs : (t.extract (8 * j) (8 * j + 8)).size = 8 := by rw [ByteArray.size_extract]; omega
  have h := xor_any (lastB l f t j) (t.extract (8 * j) (8 * j + 8)) 8 (last_size l f t hf j) hs (by decide) u
  have e : xorL (lastB l f t j).data.toList (t.extract (8 * j) (8 * j + 8)).data.toList = byW (xr (blk t.data.toList j) (ahd l (bitsS f.data.toList) t.data.toList j)) := by
    have l1 : (lastB l f t j).data.toList.length = 8 := by rw [len_size, last_size l f t hf j]
    have l2 : (t.extract (8 * j) (8 * j + 8)).data.toList.length = 8 := by rw [len_size, hs]
    have hx := bits_xorL _ _ (l1.trans l2.symm)
    rw [last_bits, ext_list, xr_comm] at hx
    have hb : (blk t.data.toList j).length = 64 := blk_len' t j (by omega)
    refine bitsS_inj _ _ (by rw [xorL_len _ _ (l1.trans l2.symm), l1, byW_len]) ?_
    rw [ext_list, hx, bits_byW _ (xr_len _ _ 64 hb (ahd_len l _ (by rw [bitsS_len, len_size, hf]) _ _))]; rfl
  rw [e] at h
  exact h
theorem enc_mix (hK : kindN l.length = K ∧ 1 ≤ K) (hf : f.size = 8) (hN : t.size = 8 * N) (j : Nat) (hj : j < N) (g : Nat) (u : World) (hk : Key u g K l) :
    Calls Try.prog 22 #[.pointer (some ⟨g, 0, none⟩), .string (mixB l f t j)] u (Ret (lastB l f t (j + 1)) u) := by
  have hs : (mixB l f t j).size = 8 * 1 := by rw [mixB, szL, byW_len]
  have h := Enc_good (mixB l f t j) g K 1 l u hs (by rw [hs]; decide) hK hk
  have hb : (blk t.data.toList j).length = 64 := blk_len' t j (by omega)
  rw [map_one _ _ (by rw [len_size, hs]), mixB, dl, bits_byW _ (xr_len _ _ 64 hb (ahd_len l _ (by rw [bitsS_len, len_size, hf]) _ _))] at h
  exact h
theorem enc_whole (hK : kindN l.length = K ∧ 1 ≤ K) (hN : t.size = 8 * N) (hN2 : N ≤ 1000) (g : Nat) (u : World) (hk : Key u g K l) :
    Calls Try.prog 22 #[.pointer (some ⟨g, 0, none⟩), .string t] u (Ret (allB l t N) u) := by
  have h := Enc_good t g K N l u hN (by omega) hK hk
  rw [← mapB_N _ t N hN] at h
  exact h
end Go.Proofs.Ytciblmdpngnakaa.Ea
