/- Unpack, the program's. -/
import Derived.Test.YtekbonfaaofdiabDoorRdd
namespace Go.Proofs.YtekbonfaaofdiabDoor.Unp
open Go.RowKit Lib0 Chars Ebc Frm Spl Pck Rdd
/-- how many bytes n characters have -/
def widthOf (enc n : Int) : Int := if n < 0 then 0 else if enc = 2 ∨ enc = 3 then n / 2 + n % 2 else if enc = 1 ∨ enc = 4 ∨ enc = 5 then n else 0
theorem width_any (enc n : Int) (w : World) (hn : n ≤ 9223372036854775807) :
    Calls Tryd.prog 10 #[.int .i64 enc, .int .i64 n] w fun e w' => e = .returned (.int .i64 (widthOf enc n)) ∧ w' = w := by
  by_cases h0 : n < 0
  · go_enter Tryd.func10, Tryd.ntmps10
    go_wp2
    go_ret
    exact ⟨ret_int (by simp [widthOf, h0]), rfl⟩
  · have h1 : 0 ≤ n := by omega
    go_enter Tryd.func10, Tryd.ntmps10
    go_wp2
    all_goals
      go_ret
      exact ⟨ret_int (by unfold widthOf; simp_all <;> (repeat' split) <;> omega), rfl⟩
/-- what Unpack answers -/
def unpackR (enc : Int) (l : List UInt8) (n : Int) : List UInt8 × Int × Int :=
  if 1 ≤ enc ∧ enc ≤ 5 ∧ 0 ≤ n then (if (l.length : Int) < widthOf enc n then ([], 10, (l.length : Int)) else readR (fit enc) enc n.toNat (l.take (widthOf enc n).toNat)) else ([], 1, 0)
theorem u_arg (enc : Int) (l : List UInt8) (n : Int) (h : enc < 1 ∨ 5 < enc ∨ n < 0) : unpackR enc l n = ([], 1, 0) := by unfold unpackR; rw [if_neg (by omega)]
theorem u_short (enc : Int) (l : List UInt8) (n : Int) (h : 1 ≤ enc ∧ enc ≤ 5 ∧ 0 ≤ n) (h2 : (l.length : Int) < widthOf enc n) : unpackR enc l n = ([], 10, (l.length : Int)) := by unfold unpackR; rw [if_pos h, if_pos h2]
theorem u_read (enc : Int) (l : List UInt8) (n : Int) (h : 1 ≤ enc ∧ enc ≤ 5 ∧ 0 ≤ n) (h2 : ¬ (l.length : Int) < widthOf enc n) : unpackR enc l n = readR (fit enc) enc n.toNat (l.take (widthOf enc n).toNat) := by unfold unpackR; rw [if_pos h, if_neg h2]
theorem ext_list (s : ByteArray) (k : Nat) : (s.extract 0 k).data.toList = s.data.toList.take k := by simp
theorem ext_size (s : ByteArray) (k : Nat) (h : k ≤ s.size) : (s.extract 0 k).size = k := by rw [ByteArray.size_extract]; omega
theorem unpack_none (enc : Int) (s : ByteArray) (n : Int) (w : World) (h : enc < 1 ∨ 5 < enc) : Calls Tryd.prog 9 #[.int .i64 enc, .string s, .int .i64 n] w fun e w' => e = .returned (val3 (unpackR enc s.data.toList n)) ∧ Below w.heap.size w w' := by
  rw [u_arg enc _ n (by omega)]
  go_enter Tryd.func9, Tryd.ntmps9
  go_wp2_with fail
  refine (chars_none enc _ h).mono ?_
  rintro e w' ⟨rfl, rfl⟩
  go_wp2
  go_ret3
  exact ⟨rfl, Below.refl _ _⟩

set_option maxRecDepth 100000 in
theorem unpack1 (s : ByteArray) (n : Int) (w : World) (hs : s.size ≤ 4194304) (hn : n ≤ 9223372036854775807) : Calls Tryd.prog 9 #[.int .i64 1, .string s, .int .i64 n] w fun e w' => e = .returned (val3 (unpackR 1 s.data.toList n)) ∧ Below w.heap.size w w' := by
  by_cases h0 : n < 0
  · rw [u_arg 1 _ n (by omega)]
    go_enter Tryd.func9, Tryd.ntmps9
    go_wp2_with fail
    refine (chars_sign 1 _ (by omega)).mono ?_
    rintro e w' ⟨rfl, rfl⟩
    go_wp2
    go_ret3
    exact ⟨rfl, Below.refl _ _⟩
  · obtain ⟨m, rfl⟩ : ∃ m : Nat, n = (m : Int) := ⟨n.toNat, by omega⟩
    have hW : widthOf 1 (m : Int) = (m : Int) := by unfold widthOf; rw [if_neg h0, if_neg (by decide), if_pos (by decide)]
    by_cases h1 : s.size < m
    · rw [u_short 1 _ _ (by omega) (by rw [hW, len_eq]; omega), len_eq]
      have HW : Hid _ := hW
      clear hW h0
      have h2 : (s.size : Int) < (m : Int) := by omega
      go_enter Tryd.func9, Tryd.ntmps9
      go_wp2_with fail
      refine (chars_sign 1 _ (by omega)).mono ?_
      rintro e w' ⟨rfl, rfl⟩
      go_wp2_with fail
      refine (width_any 1 m _ hn).mono ?_
      rintro e w' ⟨rfl, rfl⟩
      rw [HW.out]
      go_wp2
      go_ret3
      exact ⟨rfl, Below.refl _ _⟩
    · have hL : (s.data.toList.take (widthOf 1 (m : Int)).toNat) = s.data.toList.take (m) := by rw [hW, Int.toNat_natCast]
      rw [u_read 1 _ _ (by omega) (by rw [hW, len_eq]; omega), hL, fit1, Int.toNat_natCast]
      have HW : Hid _ := hW
      clear hW h0 hL
      have h2 : ¬ (s.size : Int) < (m : Int) := by omega
      go_enter Tryd.func9, Tryd.ntmps9
      go_wp2_with fail
      refine (chars_sign 1 _ (by omega)).mono ?_
      rintro e w' ⟨rfl, rfl⟩
      go_wp2_with fail
      refine (width_any 1 m _ hn).mono ?_
      rintro e w' ⟨rfl, rfl⟩
      rw [HW.out]
      go_wp2_with fail
      refine (read_sgn1 (s.extract 0 m) _ m _ (by rw [ext_size s _ (by omega)]; omega)).mono ?_
      rintro e w1 ⟨rfl, hb⟩
      unfold val3
      go_wp2
      go_ret3
      exact ⟨rfl, hb⟩

set_option maxRecDepth 100000 in
theorem unpack2 (s : ByteArray) (n : Int) (w : World) (hs : s.size ≤ 4194304) (hn : n ≤ 9223372036854775807) : Calls Tryd.prog 9 #[.int .i64 2, .string s, .int .i64 n] w fun e w' => e = .returned (val3 (unpackR 2 s.data.toList n)) ∧ Below w.heap.size w w' := by
  by_cases h0 : n < 0
  · rw [u_arg 2 _ n (by omega)]
    go_enter Tryd.func9, Tryd.ntmps9
    go_wp2_with fail
    refine (chars_half 2 _ (by omega)).mono ?_
    rintro e w' ⟨rfl, rfl⟩
    go_wp2
    go_ret3
    exact ⟨rfl, Below.refl _ _⟩
  · obtain ⟨m, rfl⟩ : ∃ m : Nat, n = (m : Int) := ⟨n.toNat, by omega⟩
    have hW : widthOf 2 (m : Int) = ((m / 2 + m % 2 : Nat) : Int) := by unfold widthOf; rw [if_neg h0, if_pos (by decide)]; omega
    by_cases h1 : s.size < m / 2 + m % 2
    · rw [u_short 2 _ _ (by omega) (by rw [hW, len_eq]; omega), len_eq]
      have HW : Hid _ := hW
      clear hW h0
      have h2 : (s.size : Int) < ((m / 2 + m % 2 : Nat) : Int) := by omega
      go_enter Tryd.func9, Tryd.ntmps9
      go_wp2_with fail
      refine (chars_half 2 _ (by omega)).mono ?_
      rintro e w' ⟨rfl, rfl⟩
      go_wp2_with fail
      refine (width_any 2 m _ hn).mono ?_
      rintro e w' ⟨rfl, rfl⟩
      rw [HW.out]
      go_wp2
      go_ret3
      exact ⟨rfl, Below.refl _ _⟩
    · have hL : (s.data.toList.take (widthOf 2 (m : Int)).toNat) = s.data.toList.take (m / 2 + m % 2) := by rw [hW, Int.toNat_natCast]
      rw [u_read 2 _ _ (by omega) (by rw [hW, len_eq]; omega), hL, fit2, Int.toNat_natCast]
      have HW : Hid _ := hW
      clear hW h0 hL
      have h2 : ¬ (s.size : Int) < ((m / 2 + m % 2 : Nat) : Int) := by omega
      go_enter Tryd.func9, Tryd.ntmps9
      go_wp2_with fail
      refine (chars_half 2 _ (by omega)).mono ?_
      rintro e w' ⟨rfl, rfl⟩
      go_wp2_with fail
      refine (width_any 2 m _ hn).mono ?_
      rintro e w' ⟨rfl, rfl⟩
      rw [HW.out]
      go_wp2_with fail
      refine (read_hlf2 (s.extract 0 (m / 2 + m % 2)) m _ (by rw [ext_size s _ (by omega)]; omega) (by rw [ext_size s _ (by omega)]; omega)).mono ?_
      rintro e w1 ⟨rfl, hb⟩
      unfold val3
      go_wp2
      go_ret3
      exact ⟨rfl, hb⟩

set_option maxRecDepth 100000 in
theorem unpack3 (s : ByteArray) (n : Int) (w : World) (hs : s.size ≤ 4194304) (hn : n ≤ 9223372036854775807) : Calls Tryd.prog 9 #[.int .i64 3, .string s, .int .i64 n] w fun e w' => e = .returned (val3 (unpackR 3 s.data.toList n)) ∧ Below w.heap.size w w' := by
  by_cases h0 : n < 0
  · rw [u_arg 3 _ n (by omega)]
    go_enter Tryd.func9, Tryd.ntmps9
    go_wp2_with fail
    refine (chars_half 3 _ (by omega)).mono ?_
    rintro e w' ⟨rfl, rfl⟩
    go_wp2
    go_ret3
    exact ⟨rfl, Below.refl _ _⟩
  · obtain ⟨m, rfl⟩ : ∃ m : Nat, n = (m : Int) := ⟨n.toNat, by omega⟩
    have hW : widthOf 3 (m : Int) = ((m / 2 + m % 2 : Nat) : Int) := by unfold widthOf; rw [if_neg h0, if_pos (by decide)]; omega
    by_cases h1 : s.size < m / 2 + m % 2
    · rw [u_short 3 _ _ (by omega) (by rw [hW, len_eq]; omega), len_eq]
      have HW : Hid _ := hW
      clear hW h0
      have h2 : (s.size : Int) < ((m / 2 + m % 2 : Nat) : Int) := by omega
      go_enter Tryd.func9, Tryd.ntmps9
      go_wp2_with fail
      refine (chars_half 3 _ (by omega)).mono ?_
      rintro e w' ⟨rfl, rfl⟩
      go_wp2_with fail
      refine (width_any 3 m _ hn).mono ?_
      rintro e w' ⟨rfl, rfl⟩
      rw [HW.out]
      go_wp2
      go_ret3
      exact ⟨rfl, Below.refl _ _⟩
    · have hL : (s.data.toList.take (widthOf 3 (m : Int)).toNat) = s.data.toList.take (m / 2 + m % 2) := by rw [hW, Int.toNat_natCast]
      rw [u_read 3 _ _ (by omega) (by rw [hW, len_eq]; omega), hL, fit3, Int.toNat_natCast]
      have HW : Hid _ := hW
      clear hW h0 hL
      have h2 : ¬ (s.size : Int) < ((m / 2 + m % 2 : Nat) : Int) := by omega
      go_enter Tryd.func9, Tryd.ntmps9
      go_wp2_with fail
      refine (chars_half 3 _ (by omega)).mono ?_
      rintro e w' ⟨rfl, rfl⟩
      go_wp2_with fail
      refine (width_any 3 m _ hn).mono ?_
      rintro e w' ⟨rfl, rfl⟩
      rw [HW.out]
      go_wp2_with fail
      refine (read_hlf3 (s.extract 0 (m / 2 + m % 2)) m _ (by rw [ext_size s _ (by omega)]; omega) (by rw [ext_size s _ (by omega)]; omega)).mono ?_
      rintro e w1 ⟨rfl, hb⟩
      unfold val3
      go_wp2
      go_ret3
      exact ⟨rfl, hb⟩

set_option maxRecDepth 100000 in
theorem unpack4 (s : ByteArray) (n : Int) (w : World) (hs : s.size ≤ 4194304) (hn : n ≤ 9223372036854775807) (hT : Tab w) : Calls Tryd.prog 9 #[.int .i64 4, .string s, .int .i64 n] w fun e w' => e = .returned (val3 (unpackR 4 s.data.toList n)) ∧ Below w.heap.size w w' := by
  have HT : Hid (Tab w) := hT
  clear hT
  by_cases h0 : n < 0
  · rw [u_arg 4 _ n (by omega)]
    go_enter Tryd.func9, Tryd.ntmps9
    go_wp2_with fail
    refine (chars_sign 4 _ (by omega)).mono ?_
    rintro e w' ⟨rfl, rfl⟩
    go_wp2
    go_ret3
    exact ⟨rfl, Below.refl _ _⟩
  · obtain ⟨m, rfl⟩ : ∃ m : Nat, n = (m : Int) := ⟨n.toNat, by omega⟩
    have hW : widthOf 4 (m : Int) = (m : Int) := by unfold widthOf; rw [if_neg h0, if_neg (by decide), if_pos (by decide)]
    by_cases h1 : s.size < m
    · rw [u_short 4 _ _ (by omega) (by rw [hW, len_eq]; omega), len_eq]
      have HW : Hid _ := hW
      clear hW h0
      have h2 : (s.size : Int) < (m : Int) := by omega
      go_enter Tryd.func9, Tryd.ntmps9
      go_wp2_with fail
      refine (chars_sign 4 _ (by omega)).mono ?_
      rintro e w' ⟨rfl, rfl⟩
      go_wp2_with fail
      refine (width_any 4 m _ hn).mono ?_
      rintro e w' ⟨rfl, rfl⟩
      rw [HW.out]
      go_wp2
      go_ret3
      exact ⟨rfl, Below.refl _ _⟩
    · have hL : (s.data.toList.take (widthOf 4 (m : Int)).toNat) = s.data.toList.take (m) := by rw [hW, Int.toNat_natCast]
      rw [u_read 4 _ _ (by omega) (by rw [hW, len_eq]; omega), hL, fit4, Int.toNat_natCast]
      have HW : Hid _ := hW
      clear hW h0 hL
      have h2 : ¬ (s.size : Int) < (m : Int) := by omega
      go_enter Tryd.func9, Tryd.ntmps9
      go_wp2_with fail
      refine (chars_sign 4 _ (by omega)).mono ?_
      rintro e w' ⟨rfl, rfl⟩
      go_wp2_with fail
      refine (width_any 4 m _ hn).mono ?_
      rintro e w' ⟨rfl, rfl⟩
      rw [HW.out]
      go_wp2_with fail
      refine (read_sgn4 (s.extract 0 m) _ m _ (by rw [ext_size s _ (by omega)]; omega) HT.out).mono ?_
      rintro e w1 ⟨rfl, hb⟩
      unfold val3
      go_wp2
      go_ret3
      exact ⟨rfl, hb⟩

set_option maxRecDepth 100000 in
theorem unpack5 (s : ByteArray) (n : Int) (w : World) (hs : s.size ≤ 4194304) (hn : n ≤ 9223372036854775807) : Calls Tryd.prog 9 #[.int .i64 5, .string s, .int .i64 n] w fun e w' => e = .returned (val3 (unpackR 5 s.data.toList n)) ∧ Below w.heap.size w w' := by
  by_cases h0 : n < 0
  · rw [u_arg 5 _ n (by omega)]
    go_enter Tryd.func9, Tryd.ntmps9
    go_wp2_with fail
    refine (chars_byte _).mono ?_
    rintro e w' ⟨rfl, rfl⟩
    go_wp2
    go_ret3
    exact ⟨rfl, Below.refl _ _⟩
  · obtain ⟨m, rfl⟩ : ∃ m : Nat, n = (m : Int) := ⟨n.toNat, by omega⟩
    have hW : widthOf 5 (m : Int) = (m : Int) := by unfold widthOf; rw [if_neg h0, if_neg (by decide), if_pos (by decide)]
    by_cases h1 : s.size < m
    · rw [u_short 5 _ _ (by omega) (by rw [hW, len_eq]; omega), len_eq]
      have HW : Hid _ := hW
      clear hW h0
      have h2 : (s.size : Int) < (m : Int) := by omega
      go_enter Tryd.func9, Tryd.ntmps9
      go_wp2_with fail
      refine (chars_byte _).mono ?_
      rintro e w' ⟨rfl, rfl⟩
      go_wp2_with fail
      refine (width_any 5 m _ hn).mono ?_
      rintro e w' ⟨rfl, rfl⟩
      rw [HW.out]
      go_wp2
      go_ret3
      exact ⟨rfl, Below.refl _ _⟩
    · have hL : (s.data.toList.take (widthOf 5 (m : Int)).toNat) = s.data.toList.take (m) := by rw [hW, Int.toNat_natCast]
      rw [u_read 5 _ _ (by omega) (by rw [hW, len_eq]; omega), hL, fit5, Int.toNat_natCast]
      have HW : Hid _ := hW
      clear hW h0 hL
      have h2 : ¬ (s.size : Int) < (m : Int) := by omega
      go_enter Tryd.func9, Tryd.ntmps9
      go_wp2_with fail
      refine (chars_byte _).mono ?_
      rintro e w' ⟨rfl, rfl⟩
      go_wp2_with fail
      refine (width_any 5 m _ hn).mono ?_
      rintro e w' ⟨rfl, rfl⟩
      rw [HW.out]
      go_wp2_with fail
      refine (read_byt5 (s.extract 0 m) _ m _ (by rw [ext_size s _ (by omega)]; omega)).mono ?_
      rintro e w1 ⟨rfl, hb⟩
      unfold val3
      go_wp2
      go_ret3
      exact ⟨rfl, hb⟩

theorem unpack_any (enc : Int) (s : ByteArray) (n : Int) (w : World) (hs : s.size ≤ 4194304) (hn : n ≤ 9223372036854775807) (hT : Tab w) : Calls Tryd.prog 9 #[.int .i64 enc, .string s, .int .i64 n] w fun e w' => e = .returned (val3 (unpackR enc s.data.toList n)) ∧ Below w.heap.size w w' := by
  by_cases h : 1 ≤ enc ∧ enc ≤ 5
  · have h5 : enc = 1 ∨ enc = 2 ∨ enc = 3 ∨ enc = 4 ∨ enc = 5 := by omega
    rcases h5 with rfl | rfl | rfl | rfl | rfl
    · exact unpack1 s n w hs hn
    · exact unpack2 s n w hs hn
    · exact unpack3 s n w hs hn
    · exact unpack4 s n w hs hn hT
    · exact unpack5 s n w hs hn
  · exact unpack_none enc s n w (by omega)
end Go.Proofs.YtekbonfaaofdiabDoor.Unp
