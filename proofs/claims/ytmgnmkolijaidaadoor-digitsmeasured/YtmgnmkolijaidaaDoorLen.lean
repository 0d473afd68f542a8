/- Length, the program's. -/
import Derived.Test.YtmgnmkolijaidaaDoorPre
namespace Go.Proofs.YtmgnmkolijaidaaDoor.Len
open Go.RowKit Lib0 Chars Ebc Pck Spl Rdd Num Unp Pre
def binV (l : List UInt8) : Nat := l.foldl (fun n c => 256 * n + c.toNat) 0
def lenB (l : List UInt8) (m : Nat) : Int × Int × Int := if binV l < 10 ^ m then ((binV l : Int), 0, (l.length : Int)) else (0, 13, 0)
/-- three numbers -/
def vI3 (r : Int × Int × Int) : Value := .tuple #[.int .i64 r.1, .int .i64 r.2.1, .int .i64 r.2.2]
theorem nat_or8 (a b : Nat) (hb : b < 256) : (a * 256) ||| b = a * 256 + b := by
  have h := Nat.shiftLeft_add_eq_or_of_lt (i := 8) (b := b) (by omega) a
  rw [Nat.shiftLeft_eq] at h
  exact h.symm
theorem or_i64 (a b : Nat) (ha : a < 256) (hb : b < 256) : bits .or .i64 ((a : Int) * 256) (b : Int) = (a : Int) * 256 + (b : Int) := by
  have e : (a : Int) * 256 = ((a * 256 : Nat) : Int) := by omega
  show IntKind.i64.wrap ((BitVec.ofInt 64 ((a : Int) * 256) ||| BitVec.ofInt 64 (b : Int)).toNat : Int) = _
  rw [e, BitVec.toNat_or, BitVec.ofInt_natCast, BitVec.ofInt_natCast, BitVec.toNat_ofNat, BitVec.toNat_ofNat, Nat.mod_eq_of_lt (by omega), Nat.mod_eq_of_lt (by omega), nat_or8 a b hb]
  exact Lib0.wrap_i64 _ (by omega) (by omega)
theorem or_zero (b : Nat) (hb : b < 256) : bits .or .i64 0 (b : Int) = (b : Int) := by
  have := or_i64 0 b (by omega) hb
  simpa using this
theorem list_one (s : ByteArray) (h : s.size = 1) : s.data.toList = [s[0]] := by
  have h1 := take_snoc s 0 (by omega)
  rw [take_all s 1 (by omega)] at h1
  simpa using h1
theorem list_two (s : ByteArray) (h : s.size = 2) : s.data.toList = [s[0], s[1]] := by
  have h1 := take_snoc s 1 (by omega)
  rw [take_all s 2 (by omega), take_snoc s 0 (by omega)] at h1
  simpa using h1
set_option maxRecDepth 100000 in
theorem bl1 (s : ByteArray) (m : Nat) (w : World) (h : s.size = 1) (m1 : 1 ≤ m) (m2 : m ≤ 4) (hP : Pow w) : Calls Tryd.prog 13 #[.string s, .int .i64 m] w fun e w' => e = .returned (vI3 (lenB s.data.toList m)) ∧ Below w.heap.size w w' := by
  have HP : Hid (Pow w) := hP
  have hL := list_one s h
  have z1 : 1 ≤ s.size := by omega
  have z2 : s.size ≤ 1 := by omega
  have HB : Hid (binV s.data.toList = s[0].toNat) := by show _ = _; rw [hL]; simp [binV]
  have Hl : Hid ((s.data.toList.length : Int) = (s.size : Int)) := by show _ = _; rw [len_eq]
  have hc := s[0].toNat_lt
  have HO : Hid (bits .or .i64 0 (s[0].toNat : Int) = (s[0].toNat : Int)) := or_zero _ (by omega)
  clear hL h hP
  by_cases ho : s[0].toNat < 10 ^ m
  · have HW : Hid (writeR (s[0].toNat : Int) (m : Int) = (dgs m s[0].toNat, 0)) := w_yes _ m (by omega) (by omega) ho
    have HE : Hid (lenB s.data.toList m = ((s[0].toNat : Int), 0, (s.size : Int))) := by show _ = _; unfold lenB; rw [HB.out, if_pos ho, Hl.out]
    clear ho
    go_enter Tryd.func13, Tryd.ntmps13
    go_wp2
    refine wp_loop_rounds 2 ?_
    rw [rounds_succ]
    go_wp2
    rw [rounds_succ]
    go_wp2_with fail
    rw [HO.out]
    refine (write_any (s[0].toNat : Int) (m : Int) _ (by omega) HP.out).mono ?_
    rintro e w1 ⟨rfl, hb⟩
    rw [HW.out]
    go_wp2
    go_ret3
    exact ⟨by rw [HE.out]; rfl, hb⟩
  · have HW : Hid (writeR (s[0].toNat : Int) (m : Int) = ([], 13)) := w_over _ m (by omega) (by omega) ho
    have HE : Hid (lenB s.data.toList m = (0, 13, 0)) := by show _ = _; unfold lenB; rw [HB.out, if_neg ho]
    clear ho
    go_enter Tryd.func13, Tryd.ntmps13
    go_wp2
    refine wp_loop_rounds 2 ?_
    rw [rounds_succ]
    go_wp2
    rw [rounds_succ]
    go_wp2_with fail
    rw [HO.out]
    refine (write_any (s[0].toNat : Int) (m : Int) _ (by omega) HP.out).mono ?_
    rintro e w1 ⟨rfl, hb⟩
    rw [HW.out]
    go_wp2
    go_ret3
    exact ⟨by rw [HE.out]; rfl, hb⟩
set_option maxRecDepth 100000 in
theorem bl2 (s : ByteArray) (m : Nat) (w : World) (h : s.size = 2) (m1 : 1 ≤ m) (m2 : m ≤ 4) (hP : Pow w) : Calls Tryd.prog 13 #[.string s, .int .i64 m] w fun e w' => e = .returned (vI3 (lenB s.data.toList m)) ∧ Below w.heap.size w w' := by
  have HP : Hid (Pow w) := hP
  have z1 : 2 ≤ s.size := by omega
  have z2 : s.size ≤ 2 := by omega
  have HH : Hid (s.size = 2) := h
  clear h
  have hL := list_two s HH.out
  have HB : Hid (binV s.data.toList = s[0].toNat * 256 + s[1].toNat) := by show _ = _; rw [hL]; simp [binV]; omega
  have Hl : Hid ((s.data.toList.length : Int) = (s.size : Int)) := by show _ = _; rw [len_eq]
  have hc := s[0].toNat_lt
  have hd := s[1].toNat_lt
  have HO : Hid (bits .or .i64 0 (s[0].toNat : Int) = (s[0].toNat : Int)) := or_zero _ (by omega)
  have HO2 : Hid (bits .or .i64 ((s[0].toNat : Int) * 256) (s[1].toNat : Int) = (s[0].toNat : Int) * 256 + (s[1].toNat : Int)) := or_i64 _ _ (by omega) (by omega)
  have HV : Hid ((s[0].toNat : Int) * 256 + (s[1].toNat : Int) = ((s[0].toNat * 256 + s[1].toNat : Nat) : Int)) := by show _ = _; omega
  clear hL hP
  by_cases ho : s[0].toNat * 256 + s[1].toNat < 10 ^ m
  · have HW : Hid (writeR ((s[0].toNat : Int) * 256 + (s[1].toNat : Int)) (m : Int) = (dgs m (s[0].toNat * 256 + s[1].toNat), 0)) := by show _ = _; rw [HV.out]; exact w_yes _ m (by omega) (by omega) ho
    have HE : Hid (lenB s.data.toList m = ((s[0].toNat : Int) * 256 + (s[1].toNat : Int), 0, (s.size : Int))) := by show _ = _; unfold lenB; rw [HB.out, if_pos ho, Hl.out]; rw [HV.out]
    clear ho
    go_enter Tryd.func13, Tryd.ntmps13
    go_wp2
    refine wp_loop_rounds 3 ?_
    rw [rounds_succ]
    go_wp2
    rw [rounds_succ]
    rw [HO.out]
    go_wp2
    rw [rounds_succ]
    go_wp2_with fail
    rw [HO2.out]
    refine (write_any ((s[0].toNat : Int) * 256 + (s[1].toNat : Int)) (m : Int) _ (by omega) HP.out).mono ?_
    rintro e w1 ⟨rfl, hb⟩
    rw [HW.out]
    go_wp2
    go_ret3
    exact ⟨by rw [HE.out]; rfl, hb⟩
  · have HW : Hid (writeR ((s[0].toNat : Int) * 256 + (s[1].toNat : Int)) (m : Int) = ([], 13)) := by show _ = _; rw [HV.out]; exact w_over _ m (by omega) (by omega) ho
    have HE : Hid (lenB s.data.toList m = (0, 13, 0)) := by show _ = _; unfold lenB; rw [HB.out, if_neg ho]
    clear ho
    go_enter Tryd.func13, Tryd.ntmps13
    go_wp2
    refine wp_loop_rounds 3 ?_
    rw [rounds_succ]
    go_wp2
    rw [rounds_succ]
    rw [HO.out]
    go_wp2
    rw [rounds_succ]
    go_wp2_with fail
    rw [HO2.out]
    refine (write_any ((s[0].toNat : Int) * 256 + (s[1].toNat : Int)) (m : Int) _ (by omega) HP.out).mono ?_
    rintro e w1 ⟨rfl, hb⟩
    rw [HW.out]
    go_wp2
    go_ret3
    exact ⟨by rw [HE.out]; rfl, hb⟩
theorem byteR_len (p : UInt8 → Bool) (h : Nat) (b : UInt8) : (byteR p h b).1.length ≤ 2 := by unfold byteR; (repeat' split) <;> simp
theorem byteG_len (p : UInt8 → Bool) (enc : Int) (n k : Nat) (b : UInt8) : (byteG p enc n k b).1.length ≤ 2 := by
  unfold byteG
  split
  · exact byteR_len _ _ _
  · split <;> simp
theorem splitG_len (F : Nat → UInt8 → List UInt8 × Int) (hF : ∀ k b, (F k b).1.length ≤ 2) : ∀ (l : List UInt8) (k : Nat) (acc : List UInt8), (splitG F k l acc).1.length ≤ acc.length + 2 * l.length
  | [], k, acc => by simp [splitG]
  | b :: l, k, acc => by
    unfold splitG
    split
    · have h1 := splitG_len F hF l (k + 1) (acc ++ (F k b).1)
      have h2 := hF k b
      simp only [List.length_append, List.length_cons] at h1 ⊢
      omega
    · simp
theorem read_len (p : UInt8 → Bool) (enc : Int) (n : Nat) (l : List UInt8) : (readR p enc n l).1.length ≤ 2 * l.length := by
  have := splitG_len (byteG p enc n) (byteG_len p enc n) l 0 []
  unfold readR
  simp only [List.length_nil] at this
  omega
/-- what Length answers -/
def txtR (r : List UInt8 × Int × Int) (W : Int) : Int × Int × Int := if r.2.1 = 0 then ((numR r.1).1, (numR r.1).2, W) else (0, r.2.1, r.2.2)
def lengthR (enc m : Int) (l : List UInt8) : Int × Int × Int :=
  if (enc = 1 ∨ enc = 2 ∨ enc = 4 ∨ enc = 5) ∧ 1 ≤ m ∧ m ≤ 4 then
    (if (l.length : Int) < widthOf (if enc = 5 then 2 else enc) m then (0, 10, (l.length : Int))
     else if enc = 5 then lenB (l.take (widthOf 2 m).toNat) m.toNat
     else txtR (readR dig enc m.toNat (l.take (widthOf enc m).toNat)) (widthOf enc m))
  else (0, 1, 0)
abbrev LPost (enc m : Int) (s : ByteArray) (w : World) (e : Ending) (w' : World) : Prop := e = .returned (vI3 (lengthR enc m s.data.toList)) ∧ Below w.heap.size w w'
theorem length_bad (enc m : Int) (s : ByteArray) (w : World) (h : ¬ mayP enc m) : Calls Tryd.prog 6 #[.int .i64 enc, .int .i64 m, .string s] w (LPost enc m s w) := by
  show Calls _ _ _ _ fun e w' => e = _ ∧ _
  have HE : Hid (lengthR enc m s.data.toList = (0, 1, 0)) := by show _ = _; unfold lengthR; unfold mayP at h; rw [if_neg h]
  have H : Hid (¬ mayP enc m) := h
  clear h
  go_enter Tryd.func6, Tryd.ntmps6
  go_wp2_with fail
  refine (may_no enc m _ H.out).mono ?_
  rintro e w' ⟨rfl, rfl⟩
  go_wp2
  go_ret3
  exact ⟨by rw [HE.out]; rfl, Below.refl _ _⟩
theorem wd_two (m : Nat) : widthOf 2 (m : Int) = ((m / 2 + m % 2 : Nat) : Int) := by unfold widthOf; rw [if_neg (by omega), if_pos (by decide)]; omega
theorem wd_one (enc : Int) (m : Nat) (h : enc = 1 ∨ enc = 4) : widthOf enc (m : Int) = (m : Int) := by unfold widthOf; rw [if_neg (by omega), if_neg (by omega), if_pos (by omega)]
set_option maxRecDepth 100000 in
theorem length_bin (m : Nat) (s : ByteArray) (w : World) (hs : s.size ≤ maxLen) (m1 : 1 ≤ m) (m2 : m ≤ 4) (hP : Pow w) : Calls Tryd.prog 6 #[.int .i64 5, .int .i64 m, .string s] w (LPost 5 m s w) := by
  show Calls _ _ _ _ fun e w' => e = _ ∧ _
  have h : mayP 5 m := ⟨by omega, by omega, by omega⟩
  have H : Hid (mayP 5 m) := h
  unfold mayP at h
  have HP : Hid (Pow w) := hP
  have HWd : Hid (widthOf 2 (m : Int) = ((m / 2 + m % 2 : Nat) : Int)) := wd_two m
  unfold maxLen at hs
  by_cases h1 : s.size < m / 2 + m % 2
  · have HE : Hid (lengthR 5 m s.data.toList = (0, 10, (s.size : Int))) := by show _ = _; unfold lengthR; rw [if_pos h, len_eq, if_pos (by rw [if_pos rfl, HWd.out]; omega)]
    have h2 : (s.size : Int) < ((m / 2 + m % 2 : Nat) : Int) := by omega
    clear h hP
    go_enter Tryd.func6, Tryd.ntmps6
    go_wp2_with fail
    refine (may_yes 5 m _ H.out).mono ?_
    rintro e w' ⟨rfl, rfl⟩
    go_wp2_with fail
    refine (pw_bin m _ (by omega)).mono ?_
    rintro e w' ⟨rfl, rfl⟩
    rw [HWd.out]
    go_wp2
    go_ret3
    exact ⟨by rw [HE.out]; rfl, Below.refl _ _⟩
  · have HE : Hid (lengthR 5 m s.data.toList = lenB (s.data.toList.take (m / 2 + m % 2)) m) := by show _ = _; unfold lengthR; rw [if_pos h, len_eq, if_neg (by rw [if_pos rfl, HWd.out]; omega), if_pos rfl, HWd.out, Int.toNat_natCast, Int.toNat_natCast]
    have h2 : ¬ (s.size : Int) < ((m / 2 + m % 2 : Nat) : Int) := by omega
    have HX : Hid ((s.extract 0 (m / 2 + m % 2)).size = m / 2 + m % 2) := ext_size s _ (by omega)
    clear h hP
    go_enter Tryd.func6, Tryd.ntmps6
    go_wp2_with fail
    refine (may_yes 5 m _ H.out).mono ?_
    rintro e w' ⟨rfl, rfl⟩
    go_wp2_with fail
    refine (pw_bin m _ (by omega)).mono ?_
    rintro e w' ⟨rfl, rfl⟩
    rw [HWd.out]
    go_wp2_with fail
    by_cases hm : m ≤ 2
    · refine (bl1 (s.extract 0 (m / 2 + m % 2)) m _ (by rw [HX.out]; omega) m1 m2 HP.out).mono ?_
      rintro e w1 ⟨rfl, hb⟩
      unfold vI3
      go_wp2
      go_ret3
      exact ⟨by rw [HE.out]; rfl, hb⟩
    · refine (bl2 (s.extract 0 (m / 2 + m % 2)) m _ (by rw [HX.out]; omega) m1 m2 HP.out).mono ?_
      rintro e w1 ⟨rfl, hb⟩
      unfold vI3
      go_wp2
      go_ret3
      exact ⟨by rw [HE.out]; rfl, hb⟩
set_option maxRecDepth 100000 in
theorem length_1 (m : Nat) (s : ByteArray) (w : World) (_hs : s.size ≤ maxLen) (m1 : 1 ≤ m) (m2 : m ≤ 4) : Calls Tryd.prog 6 #[.int .i64 1, .int .i64 m, .string s] w (LPost 1 m s w) := by
  show Calls _ _ _ _ fun e w' => e = _ ∧ _
  have h : mayP 1 m := ⟨by omega, by omega, by omega⟩
  have H : Hid (mayP 1 m) := h
  unfold mayP at h
  have HWd : Hid (widthOf 1 (m : Int) = (m : Int)) := wd_one 1 m (by omega)
  unfold maxLen at _hs
  by_cases h1 : s.size < m
  · have HE : Hid (lengthR 1 m s.data.toList = (0, 10, (s.size : Int))) := by show _ = _; unfold lengthR; rw [if_pos h, len_eq, if_pos (by rw [if_neg (by decide), HWd.out]; omega)]
    have h2 : (s.size : Int) < (m : Int) := by omega
    clear h
    go_enter Tryd.func6, Tryd.ntmps6
    go_wp2_with fail
    refine (may_yes 1 m _ H.out).mono ?_
    rintro e w' ⟨rfl, rfl⟩
    go_wp2_with fail
    refine (pw_one 1 m _ rfl (by omega)).mono ?_
    rintro e w' ⟨rfl, rfl⟩
    rw [HWd.out]
    go_wp2
    go_ret3
    exact ⟨by rw [HE.out]; rfl, Below.refl _ _⟩
  · have HX : Hid ((s.extract 0 (m)).size = m) := ext_size s _ (by omega)
    obtain ⟨r, Hr⟩ : ∃ r, Hid (readR dig 1 m (s.extract 0 (m)).data.toList = r) := ⟨_, rfl⟩
    have HE : Hid (lengthR 1 m s.data.toList = txtR r (m : Int)) := by show _ = _; unfold lengthR; rw [if_pos h, len_eq, if_neg (by rw [if_neg (by decide), HWd.out]; omega), if_neg (by decide), HWd.out, Int.toNat_natCast, ← Hr.out, ext_list]
    have h2 : ¬ (s.size : Int) < (m : Int) := by omega
    have Hrl : Hid (r.1.length ≤ 8) := by show _ ≤ _; rw [← Hr.out]; exact Nat.le_trans (read_len dig 1 m _) (by rw [len_eq, HX.out]; omega)
    obtain ⟨ds, er, at'⟩ := r
    obtain ⟨d, Hd, hdl⟩ : ∃ d, Hid (ByteArray.mk ds.toArray = d) ∧ Hid (d.data.toList = ds) := ⟨_, rfl, mk_list ds⟩
    have hdz : d.size ≤ maxLen := by have := Hrl.out; rw [← len_eq, hdl.out]; unfold maxLen; simp only at this; omega
    clear h
    by_cases h0 : er = 0
    · subst h0
      go_enter Tryd.func6, Tryd.ntmps6
      go_wp2_with fail
      refine (may_yes 1 m _ H.out).mono ?_
      rintro e w' ⟨rfl, rfl⟩
      go_wp2_with fail
      refine (pw_one 1 m _ rfl (by omega)).mono ?_
      rintro e w' ⟨rfl, rfl⟩
      rw [HWd.out]
      go_wp2_with fail
      refine (read_dig1 (s.extract 0 m) _ m _ (by rw [HX.out]; omega)).mono ?_
      rintro e w1 ⟨rfl, hb⟩
      rw [Hr.out]
      unfold val3
      rw [Hd.out]
      go_wp2_with fail
      refine (number_any d _ hdz).mono ?_
      rintro e w2 ⟨rfl, hw⟩
      rw [hw, hdl.out]
      clear hw
      go_wp2
      go_ret3
      exact ⟨by rw [HE.out]; rfl, hb⟩
    · have q0 : (er == 0) = false := beq_eq_false_iff_ne.mpr h0
      have HE2 : Hid (txtR (ds, er, at') (m : Int) = (0, er, at')) := by show _ = _; unfold txtR; rw [if_neg h0]
      clear h0
      go_enter Tryd.func6, Tryd.ntmps6
      go_wp2_with fail
      refine (may_yes 1 m _ H.out).mono ?_
      rintro e w' ⟨rfl, rfl⟩
      go_wp2_with fail
      refine (pw_one 1 m _ rfl (by omega)).mono ?_
      rintro e w' ⟨rfl, rfl⟩
      rw [HWd.out]
      go_wp2_with fail
      refine (read_dig1 (s.extract 0 m) _ m _ (by rw [HX.out]; omega)).mono ?_
      rintro e w1 ⟨rfl, hb⟩
      rw [Hr.out]
      unfold val3
      rw [Hd.out]
      go_wp2
      go_ret3
      exact ⟨by rw [HE.out, HE2.out]; rfl, hb⟩
set_option maxRecDepth 100000 in
theorem length_2 (m : Nat) (s : ByteArray) (w : World) (hs : s.size ≤ maxLen) (m1 : 1 ≤ m) (m2 : m ≤ 4) : Calls Tryd.prog 6 #[.int .i64 2, .int .i64 m, .string s] w (LPost 2 m s w) := by
  show Calls _ _ _ _ fun e w' => e = _ ∧ _
  have h : mayP 2 m := ⟨by omega, by omega, by omega⟩
  have H : Hid (mayP 2 m) := h
  unfold mayP at h
  have HWd : Hid (widthOf 2 (m : Int) = ((m / 2 + m % 2 : Nat) : Int)) := wd_two m
  unfold maxLen at hs
  by_cases h1 : s.size < m / 2 + m % 2
  · have HE : Hid (lengthR 2 m s.data.toList = (0, 10, (s.size : Int))) := by show _ = _; unfold lengthR; rw [if_pos h, len_eq, if_pos (by rw [if_neg (by decide), HWd.out]; omega)]
    have h2 : (s.size : Int) < ((m / 2 + m % 2 : Nat) : Int) := by omega
    clear h
    go_enter Tryd.func6, Tryd.ntmps6
    go_wp2_with fail
    refine (may_yes 2 m _ H.out).mono ?_
    rintro e w' ⟨rfl, rfl⟩
    go_wp2_with fail
    refine (pw_one 2 m _ rfl (by omega)).mono ?_
    rintro e w' ⟨rfl, rfl⟩
    rw [HWd.out]
    go_wp2
    go_ret3
    exact ⟨by rw [HE.out]; rfl, Below.refl _ _⟩
  · have HX : Hid ((s.extract 0 (m / 2 + m % 2)).size = m / 2 + m % 2) := ext_size s _ (by omega)
    obtain ⟨r, Hr⟩ : ∃ r, Hid (readR dig 2 m (s.extract 0 (m / 2 + m % 2)).data.toList = r) := ⟨_, rfl⟩
    have HE : Hid (lengthR 2 m s.data.toList = txtR r ((m / 2 + m % 2 : Nat) : Int)) := by show _ = _; unfold lengthR; rw [if_pos h, len_eq, if_neg (by rw [if_neg (by decide), HWd.out]; omega), if_neg (by decide), HWd.out, Int.toNat_natCast, Int.toNat_natCast, ← Hr.out, ext_list]
    have h2 : ¬ (s.size : Int) < ((m / 2 + m % 2 : Nat) : Int) := by omega
    have Hrl : Hid (r.1.length ≤ 8) := by show _ ≤ _; rw [← Hr.out]; exact Nat.le_trans (read_len dig 2 m _) (by rw [len_eq, HX.out]; omega)
    obtain ⟨ds, er, at'⟩ := r
    obtain ⟨d, Hd, hdl⟩ : ∃ d, Hid (ByteArray.mk ds.toArray = d) ∧ Hid (d.data.toList = ds) := ⟨_, rfl, mk_list ds⟩
    have hdz : d.size ≤ maxLen := by have := Hrl.out; rw [← len_eq, hdl.out]; unfold maxLen; simp only at this; omega
    clear h
    by_cases h0 : er = 0
    · subst h0
      go_enter Tryd.func6, Tryd.ntmps6
      go_wp2_with fail
      refine (may_yes 2 m _ H.out).mono ?_
      rintro e w' ⟨rfl, rfl⟩
      go_wp2_with fail
      refine (pw_one 2 m _ rfl (by omega)).mono ?_
      rintro e w' ⟨rfl, rfl⟩
      rw [HWd.out]
      go_wp2_with fail
      refine (read_dig2 (s.extract 0 (m / 2 + m % 2)) m _ (by rw [HX.out]; omega) (by rw [HX.out]; omega)).mono ?_
      rintro e w1 ⟨rfl, hb⟩
      rw [Hr.out]
      unfold val3
      rw [Hd.out]
      go_wp2_with fail
      refine (number_any d _ hdz).mono ?_
      rintro e w2 ⟨rfl, hw⟩
      rw [hw, hdl.out]
      clear hw
      go_wp2
      go_ret3
      exact ⟨by rw [HE.out]; rfl, hb⟩
    · have q0 : (er == 0) = false := beq_eq_false_iff_ne.mpr h0
      have HE2 : Hid (txtR (ds, er, at') ((m / 2 + m % 2 : Nat) : Int) = (0, er, at')) := by show _ = _; unfold txtR; rw [if_neg h0]
      clear h0
      go_enter Tryd.func6, Tryd.ntmps6
      go_wp2_with fail
      refine (may_yes 2 m _ H.out).mono ?_
      rintro e w' ⟨rfl, rfl⟩
      go_wp2_with fail
      refine (pw_one 2 m _ rfl (by omega)).mono ?_
      rintro e w' ⟨rfl, rfl⟩
      rw [HWd.out]
      go_wp2_with fail
      refine (read_dig2 (s.extract 0 (m / 2 + m % 2)) m _ (by rw [HX.out]; omega) (by rw [HX.out]; omega)).mono ?_
      rintro e w1 ⟨rfl, hb⟩
      rw [Hr.out]
      unfold val3
      rw [Hd.out]
      go_wp2
      go_ret3
      exact ⟨by rw [HE.out, HE2.out]; rfl, hb⟩
set_option maxRecDepth 100000 in
theorem length_4 (m : Nat) (s : ByteArray) (w : World) (_hs : s.size ≤ maxLen) (m1 : 1 ≤ m) (m2 : m ≤ 4) (hT : Tab w) : Calls Tryd.prog 6 #[.int .i64 4, .int .i64 m, .string s] w (LPost 4 m s w) := by
  show Calls _ _ _ _ fun e w' => e = _ ∧ _
  have h : mayP 4 m := ⟨by omega, by omega, by omega⟩
  have H : Hid (mayP 4 m) := h
  unfold mayP at h
  have HT : Hid (Tab w) := hT
  clear hT
  have HWd : Hid (widthOf 4 (m : Int) = (m : Int)) := wd_one 4 m (by omega)
  unfold maxLen at _hs
  by_cases h1 : s.size < m
  · have HE : Hid (lengthR 4 m s.data.toList = (0, 10, (s.size : Int))) := by show _ = _; unfold lengthR; rw [if_pos h, len_eq, if_pos (by rw [if_neg (by decide), HWd.out]; omega)]
    have h2 : (s.size : Int) < (m : Int) := by omega
    clear h
    go_enter Tryd.func6, Tryd.ntmps6
    go_wp2_with fail
    refine (may_yes 4 m _ H.out).mono ?_
    rintro e w' ⟨rfl, rfl⟩
    go_wp2_with fail
    refine (pw_one 4 m _ rfl (by omega)).mono ?_
    rintro e w' ⟨rfl, rfl⟩
    rw [HWd.out]
    go_wp2
    go_ret3
    exact ⟨by rw [HE.out]; rfl, Below.refl _ _⟩
  · have HX : Hid ((s.extract 0 (m)).size = m) := ext_size s _ (by omega)
    obtain ⟨r, Hr⟩ : ∃ r, Hid (readR dig 4 m (s.extract 0 (m)).data.toList = r) := ⟨_, rfl⟩
    have HE : Hid (lengthR 4 m s.data.toList = txtR r (m : Int)) := by show _ = _; unfold lengthR; rw [if_pos h, len_eq, if_neg (by rw [if_neg (by decide), HWd.out]; omega), if_neg (by decide), HWd.out, Int.toNat_natCast, ← Hr.out, ext_list]
    have h2 : ¬ (s.size : Int) < (m : Int) := by omega
    have Hrl : Hid (r.1.length ≤ 8) := by show _ ≤ _; rw [← Hr.out]; exact Nat.le_trans (read_len dig 4 m _) (by rw [len_eq, HX.out]; omega)
    obtain ⟨ds, er, at'⟩ := r
    obtain ⟨d, Hd, hdl⟩ : ∃ d, Hid (ByteArray.mk ds.toArray = d) ∧ Hid (d.data.toList = ds) := ⟨_, rfl, mk_list ds⟩
    have hdz : d.size ≤ maxLen := by have := Hrl.out; rw [← len_eq, hdl.out]; unfold maxLen; simp only at this; omega
    clear h
    by_cases h0 : er = 0
    · subst h0
      go_enter Tryd.func6, Tryd.ntmps6
      go_wp2_with fail
      refine (may_yes 4 m _ H.out).mono ?_
      rintro e w' ⟨rfl, rfl⟩
      go_wp2_with fail
      refine (pw_one 4 m _ rfl (by omega)).mono ?_
      rintro e w' ⟨rfl, rfl⟩
      rw [HWd.out]
      go_wp2_with fail
      refine (read_dig4 (s.extract 0 m) _ m _ (by rw [HX.out]; omega) HT.out).mono ?_
      rintro e w1 ⟨rfl, hb⟩
      rw [Hr.out]
      unfold val3
      rw [Hd.out]
      go_wp2_with fail
      refine (number_any d _ hdz).mono ?_
      rintro e w2 ⟨rfl, hw⟩
      rw [hw, hdl.out]
      clear hw
      go_wp2
      go_ret3
      exact ⟨by rw [HE.out]; rfl, hb⟩
    · have q0 : (er == 0) = false := beq_eq_false_iff_ne.mpr h0
      have HE2 : Hid (txtR (ds, er, at') (m : Int) = (0, er, at')) := by show _ = _; unfold txtR; rw [if_neg h0]
      clear h0
      go_enter Tryd.func6, Tryd.ntmps6
      go_wp2_with fail
      refine (may_yes 4 m _ H.out).mono ?_
      rintro e w' ⟨rfl, rfl⟩
      go_wp2_with fail
      refine (pw_one 4 m _ rfl (by omega)).mono ?_
      rintro e w' ⟨rfl, rfl⟩
      rw [HWd.out]
      go_wp2_with fail
      refine (read_dig4 (s.extract 0 m) _ m _ (by rw [HX.out]; omega) HT.out).mono ?_
      rintro e w1 ⟨rfl, hb⟩
      rw [Hr.out]
      unfold val3
      rw [Hd.out]
      go_wp2
      go_ret3
      exact ⟨by rw [HE.out, HE2.out]; rfl, hb⟩
theorem length_any (enc m : Int) (s : ByteArray) (w : World) (hs : s.size ≤ maxLen) (hP : Pow w) (hT : Tab w) : Calls Tryd.prog 6 #[.int .i64 enc, .int .i64 m, .string s] w (LPost enc m s w) := by
  by_cases h : mayP enc m
  · obtain ⟨h1, h2, h3⟩ := h
    obtain ⟨k, rfl⟩ : ∃ k : Nat, m = (k : Int) := ⟨m.toNat, by omega⟩
    rcases h1 with rfl | rfl | rfl | rfl
    · exact length_1 k s w hs (by omega) (by omega)
    · exact length_2 k s w hs (by omega) (by omega)
    · exact length_4 k s w hs (by omega) (by omega) hT
    · exact length_bin k s w hs (by omega) (by omega) hP
  · exact length_bad enc m s w h
end Go.Proofs.YtmgnmkolijaidaaDoor.Len
