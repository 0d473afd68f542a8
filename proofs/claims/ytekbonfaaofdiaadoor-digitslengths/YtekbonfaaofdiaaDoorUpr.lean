/- The document's Width and Unpack. -/
import Derived.Test.YtekbonfaaofdiaaDoorByt
import Derived.Lib.AppendStr
namespace Go.Proofs.YtekbonfaaofdiaaDoor.Upr
open Go.RowKit Lib0 Chars Ebc Join Frm Spl Pck Rdd Unp Cod Pkr Chr Byt
theorem row_keeps {w w' : World} {B e size n : Nat} {v : Value} {xs : List Value} (h : w.ownsRow B e size v n xs) (hb : Below w.heap.size w w') : w'.ownsRow B e size v n xs := by
  obtain ⟨hl, h2⟩ := h
  cases h2 with
  | inl h => exact ⟨hl, Or.inl h⟩
  | inr h =>
    obtain ⟨g, cap, cur, hv, hB, hat, hrest⟩ := h
    have hg : g < w.heap.size := by
      rcases Nat.lt_or_ge g w.heap.size with h | h
      · exact h
      · rw [Array.getElem?_eq_none h] at hat; cases hat
    exact ⟨hl, Or.inr ⟨g, cap, cur, hv, hB, (hb.block g hg).trans hat, hrest⟩⟩
theorem widthr_any (enc n : Int) (w : World) (hn : n ≤ 9223372036854775807) :
    Calls Tryd.prog 31 #[.int .i64 enc, .int .i64 n] w fun e w' => e = .returned (.int .i64 (widthOf enc n)) ∧ w' = w := by
  by_cases hk : 1 ≤ enc ∧ enc ≤ 5
  · by_cases h0 : n < 0
    · have HE : Hid (widthOf enc n = 0) := by show _ = _; unfold widthOf; rw [if_pos h0]
      go_enter Tryd.func31, Tryd.ntmps31
      go_wp2_with fail
      refine (known_yes enc _ hk).mono ?_
      rintro e w' ⟨rfl, rfl⟩
      go_wp2
      go_ret
      exact ⟨ret_int HE.out.symm, rfl⟩
    · have h1 : 0 ≤ n := by omega
      by_cases h2 : enc = 2 ∨ enc = 3
      · have HE : Hid (widthOf enc n = n / 2 + n % 2) := by show _ = _; unfold widthOf; rw [if_neg h0, if_pos h2]
        have H2 : Hid (enc = 2 ∨ enc = 3) := h2
        clear h2
        go_enter Tryd.func31, Tryd.ntmps31
        go_wp2_with fail
        refine (known_yes enc _ hk).mono ?_
        rintro e w' ⟨rfl, rfl⟩
        go_wp2_with fail
        refine (packed_yes enc _ H2.out).mono ?_
        rintro e w' ⟨rfl, rfl⟩
        go_wp2
        go_ret
        exact ⟨ret_int HE.out.symm, rfl⟩
      · have h5 : enc = 1 ∨ enc = 4 ∨ enc = 5 := by omega
        have HE : Hid (widthOf enc n = n) := by show _ = _; unfold widthOf; rw [if_neg h0, if_neg h2, if_pos h5]
        have H5 : Hid (enc = 1 ∨ enc = 4 ∨ enc = 5) := h5
        clear h2 h5
        go_enter Tryd.func31, Tryd.ntmps31
        go_wp2_with fail
        refine (known_yes enc _ hk).mono ?_
        rintro e w' ⟨rfl, rfl⟩
        go_wp2_with fail
        refine (packed_no enc _ H5.out).mono ?_
        rintro e w' ⟨rfl, rfl⟩
        go_wp2
        go_ret
        exact ⟨ret_int HE.out.symm, rfl⟩
  · have HE : Hid (widthOf enc n = 0) := by show _ = _; unfold widthOf; split; rfl; rw [if_neg (by omega), if_neg (by omega)]
    have HK : Hid (enc < 1 ∨ 5 < enc) := by show _ ∨ _; omega
    clear hk
    go_enter Tryd.func31, Tryd.ntmps31
    go_wp2_with fail
    refine (known_no enc _ HK.out).mono ?_
    rintro e w' ⟨rfl, rfl⟩
    go_wp2
    go_ret
    exact ⟨ret_int HE.out.symm, rfl⟩
theorem splitG_congr (F G : Nat → UInt8 → List UInt8 × Int) (h : ∀ k b, (F k b).2 = (G k b).2 ∧ ((F k b).2 = 0 → (F k b).1 = (G k b).1)) : ∀ (l : List UInt8) (k : Nat) (acc : List UInt8), splitG F k l acc = splitG G k l acc
  | [], k, acc => rfl
  | b :: l, k, acc => by
    obtain ⟨h1, h2⟩ := h k b
    unfold splitG
    by_cases h0 : (F k b).2 = 0
    · rw [if_pos h0, if_pos (h1 ▸ h0), h2 h0, splitG_congr F G h l]
    · rw [if_neg h0, if_neg (h1 ▸ h0), h1]
theorem byteQ_R (hole : Nat) (b : UInt8) : (byteQ hole b).2 = (byteR hlf hole b).2 ∧ ((byteQ hole b).2 = 0 → (byteQ hole b).1 = (byteR hlf hole b).1) := by
  unfold byteQ byteR
  (repeat' split) <;> simp
theorem byteF_G (enc : Int) (n : Nat) (k : Nat) (b : UInt8) : (byteF enc n k b).2 = (byteG (fit enc) enc n k b).2 ∧ ((byteF enc n k b).2 = 0 → (byteF enc n k b).1 = (byteG (fit enc) enc n k b).1) := by
  unfold byteF byteG
  by_cases h : enc = 2 ∨ enc = 3
  · rw [if_pos h, if_pos h]
    have hf : fit enc = hlf := by rcases h with rfl | rfl <;> simp [fit2, fit3]
    rw [hf]
    exact byteQ_R _ b
  · rw [if_neg h, if_neg h]
    exact ⟨rfl, fun _ => rfl⟩
theorem read_F (enc : Int) (n : Nat) (l : List UInt8) : readR (fit enc) enc n l = splitG (byteF enc n) 0 l [] := (splitG_congr _ _ (byteF_G enc n) l 0 []).symm
theorem byteQ_len (hole : Nat) (b : UInt8) : (byteQ hole b).1.length ≤ 2 := by unfold byteQ; (repeat' split) <;> simp
theorem byteF_len (enc : Int) (n k : Nat) (b : UInt8) : (byteF enc n k b).1.length ≤ 2 := by
  unfold byteF
  split
  · exact byteQ_len _ _
  · split <;> simp
theorem ext_get (s : ByteArray) (W k : Nat) (h : W ≤ s.size) (hk : k < W) : (s.extract 0 W)[k]'(by rw [ext_size s W h]; exact hk) = s[k] := by
  simp [ByteArray.getElem_extract]
theorem bs_str (acc : List UInt8) (d : ByteArray) : bs acc ++ Lib.strCells d = bs (acc ++ d.data.toList) := by rw [bs_append]; rfl
abbrev UPost (enc : Int) (s : ByteArray) (n : Int) (w : World) (e : Ending) (w' : World) : Prop := e = .returned (val3 (unpackR enc s.data.toList n)) ∧ Below w.heap.size w w'
set_option maxRecDepth 100000 in
set_option maxHeartbeats 1600000 in
theorem unpackr_read (enc : Int) (s : ByteArray) (m W : Nat) (w : World) (hs : s.size ≤ 4194304) (he : 1 ≤ enc ∧ enc ≤ 5) (hm : (m : Int) ≤ 9223372036854775807) (hW : widthOf enc (m : Int) = (W : Int)) (hle : W ≤ s.size) :
    Calls Tryd.prog 11 #[.int .i64 enc, .string s, .int .i64 m] w (UPost enc s m w) := by
  show Calls _ _ _ _ fun e w' => e = _ ∧ _
  obtain ⟨i0, hi, hz0, hz1, hz2⟩ := info_parts info
  obtain ⟨S, HS⟩ : ∃ S, Hid (s.extract 0 W = S) := ⟨_, rfl⟩
  have hSs : Hid (S.size = W) := by show _ = _; rw [← HS.out]; exact ext_size s W hle
  have HG : ∀ k (h : k < W), S[k]'(by rw [hSs.out]; exact h) = s[k] := fun k h => by
    have h1 := HS.out
    subst h1
    exact ext_get s W k hle h
  have HE : Hid (unpackR enc s.data.toList m = splitG (byteF enc m) 0 (S.data.toList.drop 0) []) := by
    show _ = _
    rw [u_read enc _ _ (by omega) (by rw [hW, len_eq]; omega), hW, Int.toNat_natCast, Int.toNat_natCast, read_F, ← HS.out, ext_list, List.drop_zero]
  have HW : Hid (widthOf enc (m : Int) = (W : Int)) := hW
  have HGG : Hid (∀ k (h : k < W), S[k]'(by rw [hSs.out]; exact h) = s[k]) := HG
  have hle2 : ¬ (s.size : Int) < (W : Int) := by omega
  clear hW HG
  go_enter Tryd.func11, Tryd.ntmps11
  go_wp2_with fail
  refine (known_yes enc _ he).mono ?_
  rintro e w' ⟨rfl, rfl⟩
  go_wp2_with fail
  refine (widthr_any enc m _ hm).mono ?_
  rintro e w' ⟨rfl, rfl⟩
  rw [HW.out]
  go_wp2
  have hdec : decide (s.size < W) = false := decide_eq_false (by omega)
  rw [hdec]
  clear hdec
  obtain ⟨x1, hx1⟩ : ∃ x1, x1 = w' := ⟨_, rfl⟩
  subst hx1
  go_loopw [11, 12] (fun v i wr => ∃ (k : Nat) (acc : List UInt8), k ≤ W ∧ i = .int .i64 k ∧ acc.length ≤ 2 * k ∧ unpackR enc s.data.toList m = splitG (byteF enc m) k (S.data.toList.drop k) acc ∧ wr.ownsRow x1.heap.size 5 1 v acc.length (bs acc) ∧ Below x1.heap.size x1 wr) (fun _ i _ => W - (intOf i).toNat)
  case atStart => exact ⟨0, [], Nat.zero_le _, rfl, Nat.zero_le _, HE.out, World.ownsRow_nil _ _ _ _, Below.refl _ _⟩
  case round =>
    obtain ⟨k, acc, hk, rfl, hacc, hsp, hown, hb⟩ := hrel
    have Hsp : Hid _ := hsp
    clear hsp HE
    have hbs := hb.size
    by_cases hlt : k < W
    · have hkS : k < s.size := by omega
      have HK : Hid (S[k]'(by rw [hSs.out]; exact hlt) = s[k]) := HGG.out k hlt
      have hk2 : (k : Int) < (W : Int) := by omega
      go_wp2_with fail
      refine (byte_any enc s[k] k m _ he hm).mono ?_
      rintro e x ⟨rfl, hbx⟩
      have hown2 := row_keeps hown hbx
      have hb2 := hb.trans (hbx.mono hbs)
      have hbs2 := hb2.size
      clear hown hb hbx
      have hr0 : byteF enc m k s[k] = byteF enc m k s[k] := rfl
      obtain ⟨r, Hr⟩ : ∃ r, Hid (byteF enc m k s[k] = r) := ⟨_, hr0⟩
      clear hr0
      rw [Hr.out]
      have Hrl : Hid (r.1.length ≤ 2) := by show _ ≤ _; rw [← Hr.out]; exact byteF_len _ _ _ _
      obtain ⟨xs, er⟩ := r
      obtain ⟨d, Hd, Hdl, hds⟩ : ∃ d, Hid (ByteArray.mk xs.toArray = d) ∧ Hid (d.data.toList = xs) ∧ d.size ≤ 2 := ⟨_, rfl, mk_list xs, by rw [mk_size]; exact Hrl.out⟩
      by_cases h0 : er = 0
      · subst h0
        have Hn : Hid (unpackR enc s.data.toList m = splitG (byteF enc m) (k + 1) (S.data.toList.drop (k + 1)) (acc ++ d.data.toList)) := by
          show _ = _
          rw [Hsp.out, Hdl.out]
          exact Spl.step_ok _ S k (by rw [hSs.out]; exact hlt) acc xs (by rw [HK.out]; exact Hr.out)
        rw [Hd.out]
        have hdl : d.data.toList.length = d.size := len_eq d
        go_wp2_with (at_builtin; refine Go.Lib.wpList_append_own_string _ rfl _ _ _ _ rfl x1.heap.size 5 i0 Tryd.underlying44 Tryd.underlying9 hi hz0 hz1 hz2 u11 acc.length _ rfl hown2 d rfl (by unfold maxLen; omega) (by omega) (by omega) ?_)
        intro v' w1 hown1 hgrow hat
        have hb1 := hb2.grown hgrow hbs2 (own_ge hown2)
        go_wp2
        go_roundw
        case rel => exact ⟨k + 1, acc ++ d.data.toList, by omega, by go_num, by rw [List.length_append, hdl]; omega, Hn.out, owns_len hown1 rfl (by rw [List.length_append, hdl]) (bs_str acc d), hb1⟩
        case measure => simp [intOf]; omega
      · have Hn : Hid (unpackR enc s.data.toList m = ([], er, (k : Int))) := by
          show _ = _
          rw [Hsp.out]
          exact Spl.step_no _ S k (by rw [hSs.out]; exact hlt) acc xs er h0 (by rw [HK.out]; exact Hr.out)
        have q0 : (er == 0) = false := beq_eq_false_iff_ne.mpr h0
        clear h0
        rw [Hd.out]
        go_wp2
        go_ret3
        exact ⟨by rw [Hn.out]; rfl, hb2⟩
    · have Hn : Hid (unpackR enc s.data.toList m = (acc, 0, 0)) := by
        show _ = _
        rw [Hsp.out]
        exact Spl.step_end _ S k (by rw [hSs.out]; omega) acc
      have hk2 : ¬ (k : Int) < (W : Int) := by omega
      have hcv := run_str (P := Tryd.prog) (src := 44) (dst := 9) Tryd.underlying44 Tryd.underlying5 Tryd.underlying9 hown
      go_wp2
      go_ret3
      exact ⟨by rw [Hn.out]; rfl, hb⟩
theorem unpackr_arg (enc : Int) (s : ByteArray) (n : Int) (w : World) (h : enc < 1 ∨ 5 < enc) : Calls Tryd.prog 11 #[.int .i64 enc, .string s, .int .i64 n] w (UPost enc s n w) := by
  show Calls _ _ _ _ fun e w' => e = _ ∧ _
  rw [u_arg enc _ n (by omega)]
  have H : Hid (enc < 1 ∨ 5 < enc) := h
  clear h
  go_enter Tryd.func11, Tryd.ntmps11
  go_wp2_with fail
  refine (known_no enc _ H.out).mono ?_
  rintro e w' ⟨rfl, rfl⟩
  go_wp2
  go_ret3
  exact ⟨rfl, Below.refl _ _⟩
theorem unpackr_neg (enc : Int) (s : ByteArray) (n : Int) (w : World) (he : 1 ≤ enc ∧ enc ≤ 5) (h : n < 0) : Calls Tryd.prog 11 #[.int .i64 enc, .string s, .int .i64 n] w (UPost enc s n w) := by
  show Calls _ _ _ _ fun e w' => e = _ ∧ _
  rw [u_arg enc _ n (by omega)]
  go_enter Tryd.func11, Tryd.ntmps11
  go_wp2_with fail
  refine (known_yes enc _ he).mono ?_
  rintro e w' ⟨rfl, rfl⟩
  go_wp2
  go_ret3
  exact ⟨rfl, Below.refl _ _⟩
theorem unpackr_short (enc : Int) (s : ByteArray) (m W : Nat) (w : World) (he : 1 ≤ enc ∧ enc ≤ 5) (hm : (m : Int) ≤ 9223372036854775807) (hW : widthOf enc (m : Int) = (W : Int)) (hlt : s.size < W) :
    Calls Tryd.prog 11 #[.int .i64 enc, .string s, .int .i64 m] w (UPost enc s m w) := by
  show Calls _ _ _ _ fun e w' => e = _ ∧ _
  rw [u_short enc _ _ (by omega) (by rw [hW, len_eq]; omega), len_eq]
  have HW : Hid (widthOf enc (m : Int) = (W : Int)) := hW
  have hlt2 : (s.size : Int) < (W : Int) := by omega
  clear hW
  go_enter Tryd.func11, Tryd.ntmps11
  go_wp2_with fail
  refine (known_yes enc _ he).mono ?_
  rintro e w' ⟨rfl, rfl⟩
  go_wp2_with fail
  refine (widthr_any enc m _ hm).mono ?_
  rintro e w' ⟨rfl, rfl⟩
  rw [HW.out]
  go_wp2
  go_ret3
  exact ⟨rfl, Below.refl _ _⟩
theorem unpackr_any (enc : Int) (s : ByteArray) (n : Int) (w : World) (hs : s.size ≤ 4194304) (hn : n ≤ 9223372036854775807) : Calls Tryd.prog 11 #[.int .i64 enc, .string s, .int .i64 n] w (UPost enc s n w) := by
  by_cases he : 1 ≤ enc ∧ enc ≤ 5
  · by_cases h0 : n < 0
    · exact unpackr_neg enc s n w he h0
    · obtain ⟨m, rfl⟩ : ∃ m : Nat, n = (m : Int) := ⟨n.toNat, by omega⟩
      have h9 : 0 ≤ widthOf enc (m : Int) := by unfold widthOf; (repeat' split) <;> omega
      obtain ⟨W, hW⟩ : ∃ W : Nat, widthOf enc (m : Int) = (W : Int) := ⟨(widthOf enc m).toNat, by omega⟩
      by_cases hl : s.size < W
      · exact unpackr_short enc s m W w he hn hW hl
      · exact unpackr_read enc s m W w hs he hn hW (by omega)
  · exact unpackr_arg enc s n w (by omega)
end Go.Proofs.YtekbonfaaofdiaaDoor.Upr
