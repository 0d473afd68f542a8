/- The document's Length. -/
import Derived.Test.YtekbonfaaofdiaaDoorUpr
import Derived.Test.YtekbonfaaofdiaaDoorPrr
import Derived.Test.YtekbonfaaofdiaaDoorLen
namespace Go.Proofs.YtekbonfaaofdiaaDoor.Lnr
open Go.RowKit Lib0 Chars Ebc Frm Spl Pck Rdd Unp Num Nmr Pre Prr Byt Upr Len
theorem dig_hlf (c : UInt8) (h : dig c = true) : hlf c = true := by
  have := of_decide_eq_true h
  exact decide_eq_true (by omega)
theorem dig_sgn (c : UInt8) (h : dig c = true) : sgn c = true := by
  have := of_decide_eq_true h
  exact decide_eq_true (by omega)
/-- a byte's digits, off its characters -/
def digsOf (r : List UInt8 × Int) : List UInt8 × Int := if r.2 = 11 then ([], 11) else if r.1.all dig then (if r.2 = 0 then (r.1, 0) else ([], r.2)) else ([], 11)
theorem digs_Q (hole : Nat) (b : UInt8) : byteR dig hole b = digsOf (byteQ hole b) := by
  have h1 := dig_hlf (c1 b)
  have h2 := dig_hlf (c2 b)
  unfold byteR byteQ digsOf
  cases d1 : dig (c1 b) <;> cases d2 : dig (c2 b) <;> cases f1 : hlf (c1 b) <;> cases f2 : hlf (c2 b) <;> simp_all <;> (repeat' split) <;> simp_all
theorem digs_F (enc : Int) (m k : Nat) (b : UInt8) (h : enc = 1 ∨ enc = 2 ∨ enc = 4) : byteG dig enc m k b = digsOf (byteF enc m k b) := by
  rcases h with rfl | rfl | rfl
  · have h1 := dig_sgn (Rdd.chr 1 b)
    simp only [byteG, byteF, fit1]
    unfold digsOf
    cases d1 : dig (Rdd.chr 1 b) <;> cases f1 : sgn (Rdd.chr 1 b) <;> simp_all
  · simp only [byteG, byteF]
    simpa using digs_Q _ b
  · have h1 := dig_sgn (Rdd.chr 4 b)
    simp only [byteG, byteF, fit4]
    unfold digsOf
    cases d1 : dig (Rdd.chr 4 b) <;> cases f1 : sgn (Rdd.chr 4 b) <;> simp_all
theorem byteF_pos (enc : Int) (m k : Nat) (b : UInt8) (h : ¬ (byteF enc m k b).2 = 11) : 1 ≤ (byteF enc m k b).1.length := by
  unfold byteF byteQ at *
  (repeat' split) <;> simp_all
theorem numV_list (l : List UInt8) (ha : l.all dig = true) : 0 ≤ numV l ∧ numV l < 10 ^ l.length := by
  have h := numV_bd (ByteArray.mk l.toArray) (by rw [mk_list]; exact ha) l.length (by rw [mk_size]; exact Nat.le_refl _)
  rw [mk_list, List.take_of_length_le (Nat.le_refl _)] at h
  exact h
theorem numV_eight (l : List UInt8) (ha : l.all dig = true) (hl : l.length ≤ 8) : 0 ≤ numV l ∧ numV l < 100000000 := by
  have h := numV_list l ha
  have h1 : (10 : Nat) ^ l.length ≤ 10 ^ 8 := Nat.pow_le_pow_right (by omega) hl
  have h2 : ((10 ^ l.length : Nat) : Int) = (10 : Int) ^ l.length := by simp
  have h3 : (10 : Nat) ^ 8 = 100000000 := by decide
  omega
theorem take_app (acc : List UInt8) (d : ByteArray) (j : Nat) (h : j < d.size) : acc ++ d.data.toList.take (j + 1) = (acc ++ d.data.toList.take j) ++ [d[j]] := by rw [take_snoc d j h, List.append_assoc]
theorem lw_bin (m : Nat) (w : World) (m2 : m ≤ 4) : Calls Tryd.prog 43 #[.int .i64 5, .int .i64 m] w fun e w' => e = .returned (.int .i64 ((m / 2 + m % 2 : Nat) : Int)) ∧ w' = w := by
  go_enter Tryd.func43, Tryd.ntmps43
  go_wp2
  go_ret
  exact ⟨ret_int (by omega), rfl⟩
theorem lw_txt (enc : Int) (m : Nat) (w : World) (m2 : m ≤ 4) (h : (enc == 5) = false) : Calls Tryd.prog 43 #[.int .i64 enc, .int .i64 m] w fun e w' => e = .returned (.int .i64 (widthOf enc m)) ∧ w' = w := by
  go_enter Tryd.func43, Tryd.ntmps43
  go_wp2_with fail
  refine (widthr_any enc m _ (by omega)).mono ?_
  rintro e w' ⟨rfl, rfl⟩
  go_wp2
  go_ret
  exact ⟨rfl, rfl⟩
theorem lenr_bad (enc m : Int) (s : ByteArray) (w : World) (h : ¬ mayP enc m) : Calls Tryd.prog 19 #[.int .i64 enc, .int .i64 m, .string s] w (LPost enc m s w) := by
  show Calls _ _ _ _ fun e w' => e = _ ∧ _
  have HE : Hid (lengthR enc m s.data.toList = (0, 1, 0)) := by show _ = _; unfold lengthR; unfold mayP at h; rw [if_neg h]
  have H : Hid (¬ mayP enc m) := h
  clear h
  go_enter Tryd.func19, Tryd.ntmps19
  go_wp2_with fail
  refine (len_no enc m _ H.out).mono ?_
  rintro e w' ⟨rfl, rfl⟩
  go_wp2
  go_ret3
  exact ⟨by rw [HE.out]; rfl, Below.refl _ _⟩
set_option maxRecDepth 100000 in
set_option maxHeartbeats 1600000 in
theorem lenr_txt (enc : Int) (m W : Nat) (s : ByteArray) (w : World) (hs : s.size ≤ maxLen) (henc : enc = 1 ∨ enc = 2 ∨ enc = 4) (m1 : 1 ≤ m) (m2 : m ≤ 4) (hW : widthOf enc (m : Int) = (W : Int)) (W1 : 1 ≤ W) (W2 : W ≤ 4) (hle : W ≤ s.size) :
    Calls Tryd.prog 19 #[.int .i64 enc, .int .i64 m, .string s] w (LPost enc m s w) := by
  show Calls _ _ _ _ fun e w' => e = _ ∧ _
  unfold maxLen at hs
  have h : mayP enc m := ⟨by omega, by omega, by omega⟩
  have H : Hid (mayP enc m) := h
  unfold mayP at h
  have he5 : (enc == 5) = false := beq_eq_false_iff_ne.mpr (by omega)
  have hk5 : 1 ≤ enc ∧ enc ≤ 5 := by omega
  obtain ⟨S, HS⟩ : ∃ S, Hid (s.extract 0 W = S) := ⟨_, rfl⟩
  have hSs : Hid (S.size = W) := by show _ = _; rw [← HS.out]; exact ext_size s W hle
  have HG : ∀ k (h : k < W), S[k]'(by rw [hSs.out]; exact h) = s[k] := fun k h => by
    have h1 := HS.out
    subst h1
    exact ext_get s W k hle h
  obtain ⟨R, HR⟩ : ∃ R, Hid (readR dig enc m S.data.toList = R) := ⟨_, rfl⟩
  have HE : Hid (lengthR enc m s.data.toList = txtR R (W : Int)) := by
    show _ = _
    unfold lengthR
    rw [if_pos h, if_neg (by rw [if_neg (by omega), hW, len_eq]; omega), if_neg (by omega), hW, Int.toNat_natCast, Int.toNat_natCast, ← HR.out, ← HS.out, ext_list]
  have HX : Hid (R = splitG (byteG dig enc m) 0 (S.data.toList.drop 0) []) := by show _ = _; rw [← HR.out, readR, List.drop_zero]
  have HF : Hid (∀ k b, byteG dig enc m k b = digsOf (byteF enc m k b)) := fun k b => digs_F enc m k b henc
  have HW : Hid (widthOf enc (m : Int) = (W : Int)) := hW
  have HGG : Hid (∀ k (h : k < W), S[k]'(by rw [hSs.out]; exact h) = s[k]) := HG
  have hle2 : ¬ (s.size : Int) < (W : Int) := by omega
  clear hW HG h henc
  go_enter Tryd.func19, Tryd.ntmps19
  go_wp2_with fail
  refine (len_yes enc m _ H.out).mono ?_
  rintro e w' ⟨rfl, rfl⟩
  go_wp2_with fail
  refine (lw_txt enc m _ m2 he5).mono ?_
  rintro e w' ⟨rfl, rfl⟩
  rw [HW.out]
  go_wp2
  (try (have hdec : decide (s.size < W) = false := decide_eq_false (by omega)
        rw [hdec]
        clear hdec))
  obtain ⟨x1, hx1⟩ : ∃ x1, x1 = w' := ⟨_, rfl⟩
  subst hx1
  go_loopw [13, 14] (fun v i wr => ∃ (k : Nat) (acc : List UInt8), k ≤ W ∧ i = .int .i64 k ∧ v = .int .i64 (numV acc) ∧ k ≤ acc.length ∧ acc.length ≤ 2 * k ∧ acc.all dig = true ∧ R = splitG (byteG dig enc m) k (S.data.toList.drop k) acc ∧ Below x1.heap.size x1 wr) (fun _ i _ => W - (intOf i).toNat)
  case atStart => exact ⟨0, [], Nat.zero_le _, rfl, rfl, Nat.zero_le _, Nat.zero_le _, rfl, HX.out, Below.refl _ _⟩
  case round =>
    obtain ⟨k, acc, hk, rfl, rfl, hacc1, hacc2, hall, hsp, hb⟩ := hrel
    have Hsp : Hid _ := hsp
    have Hall : Hid (acc.all dig = true) := hall
    clear hsp HX hall
    have hbs := hb.size
    obtain ⟨wo, hwo⟩ : ∃ wo, wo = wr := ⟨_, rfl⟩
    subst hwo
    by_cases hlt : k < W
    · have hkS : k < s.size := by omega
      have HK : Hid (S[k]'(by rw [hSs.out]; exact hlt) = s[k]) := HGG.out k hlt
      have hk2 : (k : Int) < (W : Int) := by omega
      go_wp2_with fail
      refine (byte_any enc s[k] k m _ hk5 (by omega)).mono ?_
      rintro e x ⟨rfl, hbx⟩
      have hb2 := hb.trans (hbx.mono hbs)
      clear hb hbx
      have hr0 : byteF enc m k s[k] = byteF enc m k s[k] := rfl
      obtain ⟨r, Hr⟩ : ∃ r, Hid (byteF enc m k s[k] = r) := ⟨_, hr0⟩
      clear hr0
      rw [Hr.out]
      have Hrl : Hid (r.1.length ≤ 2) := by show _ ≤ _; rw [← Hr.out]; exact byteF_len _ _ _ _
      have Hrp : Hid (¬ r.2 = 11 → 1 ≤ r.1.length) := by show _ → _; rw [← Hr.out]; exact byteF_pos _ _ _ _
      obtain ⟨xs, er⟩ := r
      have HD : Hid (byteG dig enc m k (S[k]'(by rw [hSs.out]; exact hlt)) = digsOf (xs, er)) := by show _ = _; rw [HK.out, HF.out, Hr.out]
      obtain ⟨d, Hd, Hdl, hds⟩ : ∃ d, Hid (ByteArray.mk xs.toArray = d) ∧ Hid (d.data.toList = xs) ∧ d.size ≤ 2 := ⟨_, rfl, mk_list xs, by rw [mk_size]; exact Hrl.out⟩
      rw [Hd.out]
      by_cases h11 : er = 11
      · have Hn : Hid (R = ([], 11, (k : Int))) := by
          show _ = _
          rw [Hsp.out]
          exact Spl.step_no _ S k (by rw [hSs.out]; exact hlt) acc [] 11 (by decide) (by rw [HD.out, h11]; rfl)
        subst h11
        go_wp2
        go_ret3
        exact ⟨by rw [HE.out, Hn.out]; rfl, hb2⟩
      · have q11 : (er == 11) = false := beq_eq_false_iff_ne.mpr h11
        have hd1 : 1 ≤ d.size := by rw [← len_eq, Hdl.out]; exact Hrp.out h11
        have H11 : Hid (¬ er = 11) := h11
        clear h11
        go_wp2
        go_loopw [13, 17] (fun v j wr => ∃ jj : Nat, jj ≤ d.size ∧ j = .int .i64 jj ∧ v = .int .i64 (numV (acc ++ d.data.toList.take jj)) ∧ (d.data.toList.take jj).all dig = true ∧ wr = x) (fun _ j _ => d.size - (intOf j).toNat)
        case atStart => exact ⟨0, Nat.zero_le _, rfl, by simp, rfl, rfl⟩
        case round =>
          obtain ⟨jj, hj, rfl, rfl, hja, rfl⟩ := hrel
          have Hja : Hid ((d.data.toList.take jj).all dig = true) := hja
          clear hja
          have Hna : Hid ((acc ++ d.data.toList.take jj).all dig = true) := by show _ = _; rw [List.all_append, Hall.out, Hja.out]; rfl
          have hln : (acc ++ d.data.toList.take jj).length ≤ acc.length + jj := by rw [List.length_append, List.length_take]; omega
          have hbd := numV_eight (acc ++ d.data.toList.take jj) Hna.out (by omega)
          have v1 := hbd.1
          have v2 := hbd.2
          clear hbd hln
          by_cases hjlt : jj < d.size
          · cases hdg : dig d[jj]
            · have Hn : Hid (R = ([], 11, (k : Int))) := by
                show _ = _
                rw [Hsp.out]
                refine Spl.step_no _ S k (by rw [hSs.out]; exact hlt) acc [] 11 (by decide) ?_
                rw [HD.out]
                have hno : xs.all dig = false := by
                  rw [← Hdl.out]
                  cases ha : d.data.toList.all dig
                  · rfl
                  · rw [all_at0 d ha jj hjlt] at hdg; cases hdg
                simp [digsOf, H11.out, hno]
              have Hdg : Hid (dig d[jj] = false) := hdg
              clear hdg
              go_wp2_with fail
              refine (digit_any d[jj] _).mono ?_
              rintro e x2 ⟨rfl, hx2⟩
              rw [hx2, Hdg.out]
              clear hx2
              go_wp2
              go_ret3
              exact ⟨by rw [HE.out, Hn.out]; rfl, hb2⟩
            · have hdb := dig_bd _ hdg
              have d1 : (48 : Int) ≤ (d[jj].toNat : Int) := by omega
              have d2 : (d[jj].toNat : Int) ≤ 57 := by omega
              have HN : Hid (numV (acc ++ d.data.toList.take (jj + 1)) = 10 * numV (acc ++ d.data.toList.take jj) + ((d[jj].toNat : Int) - 48)) := by show _ = _; rw [take_app acc d jj hjlt, numV_snoc]
              have Ha2 : Hid ((d.data.toList.take (jj + 1)).all dig = true) := all_snoc dig d jj hjlt Hja.out hdg
              have Hdg : Hid (dig d[jj] = true) := hdg
              clear hdg hdb
              generalize numV (acc ++ d.data.toList.take jj) = v at *
              go_wp2_with fail
              refine (digit_any d[jj] _).mono ?_
              rintro e x2 ⟨rfl, hx2⟩
              rw [hx2, Hdg.out]
              clear hx2 x2
              go_wp2
              go_roundw
              case rel => exact ⟨jj + 1, by omega, by go_num, by rw [HN.out], Ha2.out, trivial⟩
              case measure => simp [intOf]; omega
          · have hjz : jj = d.size := by omega
            have hta : d.data.toList.take jj = xs := by rw [take_all d jj (by omega), Hdl.out]
            have HTA : Hid _ := hta
            have HXA : Hid (xs.all dig = true) := by show _ = _; rw [← hta]; exact Hja.out
            have hlx : d.size = xs.length := by rw [← Hdl.out, len_eq]
            clear hta hjz
            by_cases h0 : er = 0
            · have Hn : Hid (R = splitG (byteG dig enc m) (k + 1) (S.data.toList.drop (k + 1)) (acc ++ xs)) := by
                show _ = _
                rw [Hsp.out]
                exact Spl.step_ok _ S k (by rw [hSs.out]; exact hlt) acc xs (by rw [HD.out]; simp [digsOf, h0, HXA.out])
              have Hlx : Hid (d.size = xs.length) := hlx
              clear hlx
              subst h0
              go_wp2
              go_roundw
              case rel => exact ⟨k + 1, acc ++ xs, by omega, by go_num, by rw [HTA.out], by rw [List.length_append, ← Hlx.out]; omega, by rw [List.length_append, ← Hlx.out]; omega, by rw [List.all_append, Hall.out, HXA.out]; rfl, Hn.out, hb2⟩
              case measure => simp [intOf]; omega
            · have Hn : Hid (R = ([], er, (k : Int))) := by
                show _ = _
                rw [Hsp.out]
                exact Spl.step_no _ S k (by rw [hSs.out]; exact hlt) acc [] er h0 (by rw [HD.out]; simp [digsOf, h0, HXA.out, H11.out])
              have HE2 : Hid (txtR ([], er, (k : Int)) (W : Int) = (0, er, (k : Int))) := by show _ = _; unfold txtR; rw [if_neg h0]
              have q0 : (er == 0) = false := beq_eq_false_iff_ne.mpr h0
              clear h0 hlx
              go_wp2
              go_ret3
              exact ⟨by rw [HE.out, Hn.out, HE2.out]; rfl, hb2⟩
    · have Hn : Hid (R = (acc, 0, 0)) := by
        show _ = _
        rw [Hsp.out]
        exact Spl.step_end _ S k (by rw [hSs.out]; omega) acc
      have Hnr : Hid (txtR (acc, 0, 0) (W : Int) = (numV acc, 0, (W : Int))) := by
        show _ = _
        have hfu := fuL_all dig acc Hall.out
        simp only [txtR, if_true]
        unfold numR
        rw [if_neg (by omega), if_neg (by omega)]
      have hk2 : ¬ (k : Int) < (W : Int) := by omega
      go_wp2
      go_ret3
      exact ⟨by rw [HE.out, Hn.out, Hnr.out]; rfl, hb⟩
theorem lenr_short (enc : Int) (m W : Nat) (s : ByteArray) (w : World) (_hs : s.size ≤ maxLen) (henc : enc = 1 ∨ enc = 2 ∨ enc = 4) (m1 : 1 ≤ m) (m2 : m ≤ 4) (hW : widthOf enc (m : Int) = (W : Int)) (hlt : s.size < W) :
    Calls Tryd.prog 19 #[.int .i64 enc, .int .i64 m, .string s] w (LPost enc m s w) := by
  show Calls _ _ _ _ fun e w' => e = _ ∧ _
  unfold maxLen at _hs
  have h : mayP enc m := ⟨by omega, by omega, by omega⟩
  have H : Hid (mayP enc m) := h
  unfold mayP at h
  have he5 : (enc == 5) = false := beq_eq_false_iff_ne.mpr (by omega)
  have HE : Hid (lengthR enc m s.data.toList = (0, 10, (s.size : Int))) := by
    show _ = _
    unfold lengthR
    rw [if_pos h, if_pos (by rw [if_neg (by omega), hW, len_eq]; omega), len_eq]
  have HW : Hid (widthOf enc (m : Int) = (W : Int)) := hW
  have hlt2 : (s.size : Int) < (W : Int) := by omega
  clear hW h henc
  go_enter Tryd.func19, Tryd.ntmps19
  go_wp2_with fail
  refine (len_yes enc m _ H.out).mono ?_
  rintro e w' ⟨rfl, rfl⟩
  go_wp2_with fail
  refine (lw_txt enc m _ m2 he5).mono ?_
  rintro e w' ⟨rfl, rfl⟩
  rw [HW.out]
  go_wp2
  go_ret3
  exact ⟨by rw [HE.out]; rfl, Below.refl _ _⟩
set_option maxRecDepth 100000 in
theorem lenr_bin0 (m : Nat) (s : ByteArray) (w : World) (_hs : s.size ≤ maxLen) (m1 : 1 ≤ m) (m2 : m ≤ 4) (hlt : s.size < m / 2 + m % 2) :
    Calls Tryd.prog 19 #[.int .i64 5, .int .i64 m, .string s] w (LPost 5 m s w) := by
  show Calls _ _ _ _ fun e w' => e = _ ∧ _
  unfold maxLen at _hs
  have h : mayP 5 m := ⟨by omega, by omega, by omega⟩
  have H : Hid (mayP 5 m) := h
  unfold mayP at h
  have HE : Hid (lengthR 5 m s.data.toList = (0, 10, (s.size : Int))) := by
    show _ = _
    unfold lengthR
    rw [if_pos h, if_pos (by rw [if_pos rfl, wd_two m, len_eq]; omega), len_eq]
  have hlt2 : (s.size : Int) < ((m / 2 + m % 2 : Nat) : Int) := by omega
  clear h
  go_enter Tryd.func19, Tryd.ntmps19
  go_wp2_with fail
  refine (len_yes 5 m _ H.out).mono ?_
  rintro e w' ⟨rfl, rfl⟩
  go_wp2_with fail
  refine (lw_bin m _ m2).mono ?_
  rintro e w' ⟨rfl, rfl⟩
  go_wp2
  go_ret3
  exact ⟨by rw [HE.out]; rfl, Below.refl _ _⟩
theorem binV_snoc (l : List UInt8) (c : UInt8) : binV (l ++ [c]) = 256 * binV l + c.toNat := by simp [binV]
theorem binV_bd (s : ByteArray) (k : Nat) (h : k ≤ 2) (hk : k ≤ s.size) : binV (s.data.toList.take k) < 65536 ∧ (k ≤ 1 → binV (s.data.toList.take k) < 256) := by
  have h3 : k = 0 ∨ k = 1 ∨ k = 2 := by omega
  rcases h3 with rfl | rfl | rfl
  · simp [binV]
  · rw [take_snoc s 0 (by omega), binV_snoc]
    have := (s[0]'(by omega)).toNat_lt
    simp [binV]; omega
  · rw [take_snoc s 1 (by omega), binV_snoc, take_snoc s 0 (by omega), binV_snoc]
    have := (s[0]'(by omega)).toNat_lt
    have := (s[1]'(by omega)).toNat_lt
    simp [binV]; omega
set_option maxRecDepth 100000 in
set_option maxHeartbeats 800000 in
theorem lenr_bin (m W : Nat) (s : ByteArray) (w : World) (hs : s.size ≤ maxLen) (m1 : 1 ≤ m) (m2 : m ≤ 4) (hW : m / 2 + m % 2 = W) (hle : W ≤ s.size) :
    Calls Tryd.prog 19 #[.int .i64 5, .int .i64 m, .string s] w (LPost 5 m s w) := by
  show Calls _ _ _ _ fun e w' => e = _ ∧ _
  unfold maxLen at hs
  have h : mayP 5 m := ⟨by omega, by omega, by omega⟩
  have H : Hid (mayP 5 m) := h
  unfold mayP at h
  have W2 : W ≤ 2 := by omega
  have HE : Hid (lengthR 5 m s.data.toList = lenB (s.data.toList.take W) m) := by
    show _ = _
    unfold lengthR
    rw [if_pos h, if_neg (by rw [if_pos rfl, wd_two m, len_eq]; omega), if_pos rfl, wd_two m, Int.toNat_natCast, Int.toNat_natCast, hW]
  have HW : Hid (m / 2 + m % 2 = W) := hW
  have hle2 : ¬ (s.size : Int) < (W : Int) := by omega
  obtain ⟨P, HP, hP1⟩ : ∃ P : Nat, Hid (10 ^ m = P) ∧ P ≤ 10000 := ⟨10 ^ m, rfl, Nat.le_trans (Nat.pow_le_pow_right (by omega) m2) (by decide)⟩
  clear h hW
  go_enter Tryd.func19, Tryd.ntmps19
  go_wp2_with fail
  refine (len_yes 5 m _ H.out).mono ?_
  rintro e w' ⟨rfl, rfl⟩
  go_wp2_with fail
  refine (lw_bin m _ m2).mono ?_
  rintro e w' ⟨rfl, rfl⟩
  rw [HW.out]
  go_wp2
  (try (have hdec : decide (s.size < W) = false := decide_eq_false (by omega)
        rw [hdec]
        clear hdec))
  obtain ⟨x1, hx1⟩ : ∃ x1, x1 = w' := ⟨_, rfl⟩
  subst hx1
  go_loopw [11, 12] (fun v i wr => ∃ k : Nat, k ≤ W ∧ i = .int .i64 k ∧ v = .int .i64 ((binV (s.data.toList.take k) : Nat) : Int) ∧ wr = x1) (fun _ i _ => W - (intOf i).toNat)
  case atStart => exact ⟨0, Nat.zero_le _, rfl, rfl, rfl⟩
  case round =>
    obtain ⟨k, hk, rfl, rfl, rfl⟩ := hrel
    have hbd := binV_bd s k (by omega) (by omega)
    by_cases hlt : k < W
    · have hkS : k < s.size := by omega
      have hk2 : (k : Int) < (W : Int) := by omega
      have v1 := hbd.2 (by omega)
      have HN : Hid (binV (s.data.toList.take (k + 1)) = 256 * binV (s.data.toList.take k) + s[k].toNat) := by show _ = _; rw [take_snoc s k hkS, binV_snoc]
      clear hbd
      have hc := s[k].toNat_lt
      generalize binV (s.data.toList.take k) = v at *
      go_wp2
      go_roundw
      case rel => exact ⟨k + 1, by omega, by go_num, by rw [HN.out]; go_num, trivial⟩
      case measure => simp [intOf]; omega
    · have hkW : k = W := by omega
      have v1 := hbd.1
      have hk2 : ¬ (k : Int) < (W : Int) := by omega
      have Hlen : Hid (((s.data.toList.take W).length : Int) = (W : Int)) := by show _ = _; rw [List.length_take, len_eq]; omega
      clear hbd
      by_cases ho : binV (s.data.toList.take W) < P
      · have HR : Hid (lenB (s.data.toList.take W) m = ((binV (s.data.toList.take W) : Int), 0, (W : Int))) := by show _ = _; unfold lenB; rw [HP.out, if_pos ho, Hlen.out]
        subst hkW
        generalize binV (s.data.toList.take k) = v at *
        go_wp2_with fail
        refine (power_any m _ (by omega)).mono ?_
        rintro e x2 ⟨rfl, hx2⟩
        rw [hx2, HP.out]
        clear hx2
        have ho2 : ¬ (P : Int) ≤ (v : Int) := by omega
        go_wp2
        go_ret3
        exact ⟨by rw [HE.out, HR.out]; rfl, Below.refl _ _⟩
      · have HR : Hid (lenB (s.data.toList.take W) m = (0, 13, 0)) := by show _ = _; unfold lenB; rw [HP.out, if_neg ho]
        subst hkW
        generalize binV (s.data.toList.take k) = v at *
        go_wp2_with fail
        refine (power_any m _ (by omega)).mono ?_
        rintro e x2 ⟨rfl, hx2⟩
        rw [hx2, HP.out]
        clear hx2
        have ho2 : (P : Int) ≤ (v : Int) := by omega
        go_wp2
        go_ret3
        exact ⟨by rw [HE.out, HR.out]; rfl, Below.refl _ _⟩
theorem lenr_any (enc m : Int) (s : ByteArray) (w : World) (hs : s.size ≤ maxLen) : Calls Tryd.prog 19 #[.int .i64 enc, .int .i64 m, .string s] w (LPost enc m s w) := by
  by_cases h : mayP enc m
  · obtain ⟨h1, h2, h3⟩ := h
    obtain ⟨k, rfl⟩ : ∃ k : Nat, m = (k : Int) := ⟨m.toNat, by omega⟩
    by_cases h5 : enc = 5
    · subst h5
      by_cases hl : s.size < k / 2 + k % 2
      · exact lenr_bin0 k s w hs (by omega) (by omega) hl
      · exact lenr_bin k _ s w hs (by omega) (by omega) rfl (by omega)
    · have he : enc = 1 ∨ enc = 2 ∨ enc = 4 := by omega
      obtain ⟨W, hW, W1, W2⟩ : ∃ W : Nat, widthOf enc (k : Int) = (W : Int) ∧ 1 ≤ W ∧ W ≤ 4 := by
        rcases he with rfl | rfl | rfl
        · exact ⟨k, wd_one 1 k (by omega), by omega, by omega⟩
        · exact ⟨k / 2 + k % 2, wd_two k, by omega, by omega⟩
        · exact ⟨k, wd_one 4 k (by omega), by omega, by omega⟩
      by_cases hl : s.size < W
      · exact lenr_short enc k W s w hs he (by omega) (by omega) hW hl
      · exact lenr_txt enc k W s w hs he (by omega) (by omega) hW W1 W2 (by omega)
  · exact lenr_bad enc m s w h
end Go.Proofs.YtekbonfaaofdiaaDoor.Lnr
