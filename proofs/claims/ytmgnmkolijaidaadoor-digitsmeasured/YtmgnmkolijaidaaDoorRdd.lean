/- read, and Unpack, the program's. -/
import Derived.Test.YtmgnmkolijaidaaDoorSplHE
import Derived.Test.YtmgnmkolijaidaaDoorSplHT
import Derived.Test.YtmgnmkolijaidaaDoorSplHR
import Derived.Test.YtmgnmkolijaidaaDoorSplDE
import Derived.Test.YtmgnmkolijaidaaDoorSplDT
import Derived.Test.YtmgnmkolijaidaaDoorPck
namespace Go.Proofs.YtmgnmkolijaidaaDoor.Rdd
open Go.RowKit Lib0 Chars Ebc Frm Spl Pck
/-- the character that a byte stands for, of ASCII, EBCDIC, BINARY -/
def chr (enc : Int) (b : UInt8) : UInt8 := if enc = 4 then dec b else b
/-- the characters of the k-th byte of n characters, each of which must fit -/
def byteG (p : UInt8 → Bool) (enc : Int) (n : Nat) (k : Nat) (b : UInt8) : List UInt8 × Int :=
  if enc = 2 ∨ enc = 3 then byteR p (holeAt enc n k) b else if p (chr enc b) then ([chr enc b], 0) else ([], 11)
theorem byteG_two (p : UInt8 → Bool) (enc : Int) (n : Nat) (h : enc = 2 ∨ enc = 3) : byteG p enc n = fun k b => byteR p (holeAt enc n k) b := by
  funext k b; simp [byteG, h]
theorem byteG_one (p : UInt8 → Bool) (enc : Int) (n : Nat) (h : enc = 1 ∨ enc = 4 ∨ enc = 5) : byteG p enc n = fun _ b => if p (chr enc b) then ([chr enc b], 0) else ([], 11) := by
  funext k b
  have : ¬ (enc = 2 ∨ enc = 3) := by omega
  simp only [byteG, if_neg this]
def readR (p : UInt8 → Bool) (enc : Int) (n : Nat) (l : List UInt8) : List UInt8 × Int × Int := splitG (byteG p enc n) 0 l []
theorem single (p : UInt8 → Bool) (d : UInt8 → UInt8) : ∀ (l : List UInt8) (k : Nat) (acc : List UInt8), splitG (fun _ b => if p (d b) then ([d b], 0) else ([], 11)) k l acc = if fuL p (l.map d) < l.length then ([], 11, ((k + fuL p (l.map d) : Nat) : Int)) else (acc ++ l.map d, 0, 0)
  | [], k, acc => by simp [splitG, fuL]
  | b :: l, k, acc => by
    by_cases h : p (d b) = true
    · have ih := single p d l (k + 1) (acc ++ [d b])
      simp only [splitG, h, if_true, List.map_cons, fuL, List.length_cons]
      rw [ih]
      by_cases hf : fuL p (l.map d) < l.length
      · rw [if_pos hf, if_pos (by omega), show k + 1 + fuL p (l.map d) = k + (fuL p (l.map d) + 1) by omega]
      · rw [if_neg hf, if_neg (by omega), List.append_assoc]; rfl
    · simp [splitG, h, fuL]
theorem read_single (p : UInt8 → Bool) (enc : Int) (n : Nat) (l : List UInt8) (h : enc = 1 ∨ enc = 4 ∨ enc = 5) : readR p enc n l = if fuL p (l.map (chr enc)) < l.length then ([], 11, (fuL p (l.map (chr enc)) : Int)) else (l.map (chr enc), 0, 0) := by
  rw [readR, byteG_one p enc n h, single]; simp
theorem chr_id (enc : Int) (l : List UInt8) (h : ¬ enc = 4) : l.map (chr enc) = l := by
  have e : chr enc = id := by funext b; simp [chr, h]
  rw [e, List.map_id]
theorem chr_dec (l : List UInt8) : l.map (chr 4) = l.map dec := by
  have e : chr 4 = dec := by funext b; simp [chr]
  rw [e]
theorem mk_list (l : List UInt8) : (ByteArray.mk l.toArray).data.toList = l := by simp
theorem mk_size (l : List UInt8) : (ByteArray.mk l.toArray).size = l.length := by simp [ByteArray.size]
theorem ret_3 {a b : ByteArray} {x y x' y' : Value} (h : a = b) (hx : x = x') (hy : y = y') : Ending.returned (.tuple #[.string a, x, y]) = .returned (.tuple #[.string b, x', y']) := by rw [h, hx, hy]

theorem sp_hlf2 (s : ByteArray) (n : Nat) (w : World) (hs : s.size ≤ 4194304) (hn : s.size = (n + 1) / 2) :
    Calls Tryd.prog 24 #[.int .i64 2, .string s, .int .i64 n, .func (.func 34) #[] #[]] w fun e w' => e = .returned (val3 (readR hlf 2 n s.data.toList)) ∧ Below w.heap.size w w' := by
  rw [readR, byteG_two hlf 2 n (by omega)]
  by_cases ho : n % 2 = 0
  · exact split_hlf_even 2 s n w hs (by omega)
  · exact split_hlf_two s n w hs (by omega)
theorem read_hlf2 (s : ByteArray) (n : Nat) (w : World) (hs : s.size ≤ 4194304) (hn : s.size = (n + 1) / 2) :
    Calls Tryd.prog 14 #[.int .i64 2, .string s, .int .i64 n, .func (.func 34) #[] #[]] w fun e w' => e = .returned (val3 (readR hlf 2 n s.data.toList)) ∧ Below w.heap.size w w' := by
  have HN : Hid (s.size = (n + 1) / 2) := hn
  clear hn
  go_enter Tryd.func14, Tryd.ntmps14
  go_wp2_with fail
  refine (sp_hlf2 s n _ hs HN.out).mono ?_
  rintro e w' ⟨rfl, hb⟩
  unfold val3
  go_wp2
  go_ret3
  exact ⟨rfl, hb⟩

theorem sp_hlf3 (s : ByteArray) (n : Nat) (w : World) (hs : s.size ≤ 4194304) (hn : s.size = (n + 1) / 2) :
    Calls Tryd.prog 24 #[.int .i64 3, .string s, .int .i64 n, .func (.func 34) #[] #[]] w fun e w' => e = .returned (val3 (readR hlf 3 n s.data.toList)) ∧ Below w.heap.size w w' := by
  rw [readR, byteG_two hlf 3 n (by omega)]
  by_cases ho : n % 2 = 0
  · exact split_hlf_even 3 s n w hs (by omega)
  · exact split_hlf_three s n w hs (by omega)
theorem read_hlf3 (s : ByteArray) (n : Nat) (w : World) (hs : s.size ≤ 4194304) (hn : s.size = (n + 1) / 2) :
    Calls Tryd.prog 14 #[.int .i64 3, .string s, .int .i64 n, .func (.func 34) #[] #[]] w fun e w' => e = .returned (val3 (readR hlf 3 n s.data.toList)) ∧ Below w.heap.size w w' := by
  have HN : Hid (s.size = (n + 1) / 2) := hn
  clear hn
  go_enter Tryd.func14, Tryd.ntmps14
  go_wp2_with fail
  refine (sp_hlf3 s n _ hs HN.out).mono ?_
  rintro e w' ⟨rfl, hb⟩
  unfold val3
  go_wp2
  go_ret3
  exact ⟨rfl, hb⟩

theorem sp_dig2 (s : ByteArray) (n : Nat) (w : World) (hs : s.size ≤ 4194304) (hn : s.size = (n + 1) / 2) :
    Calls Tryd.prog 24 #[.int .i64 2, .string s, .int .i64 n, .func (.func 15) #[] #[]] w fun e w' => e = .returned (val3 (readR dig 2 n s.data.toList)) ∧ Below w.heap.size w w' := by
  rw [readR, byteG_two dig 2 n (by omega)]
  by_cases ho : n % 2 = 0
  · exact split_dig_even 2 s n w hs (by omega)
  · exact split_dig_two s n w hs (by omega)
theorem read_dig2 (s : ByteArray) (n : Nat) (w : World) (hs : s.size ≤ 4194304) (hn : s.size = (n + 1) / 2) :
    Calls Tryd.prog 14 #[.int .i64 2, .string s, .int .i64 n, .func (.func 15) #[] #[]] w fun e w' => e = .returned (val3 (readR dig 2 n s.data.toList)) ∧ Below w.heap.size w w' := by
  have HN : Hid (s.size = (n + 1) / 2) := hn
  clear hn
  go_enter Tryd.func14, Tryd.ntmps14
  go_wp2_with fail
  refine (sp_dig2 s n _ hs HN.out).mono ?_
  rintro e w' ⟨rfl, hb⟩
  unfold val3
  go_wp2
  go_ret3
  exact ⟨rfl, hb⟩

set_option maxRecDepth 100000 in
theorem read_sgn1 (s : ByteArray) (n : Int) (m : Nat) (w : World) (hs : s.size ≤ 4194304) :
    Calls Tryd.prog 14 #[.int .i64 1, .string s, .int .i64 n, .func (.func 33) #[] #[]] w fun e w' => e = .returned (val3 (readR sgn 1 m s.data.toList)) ∧ Below w.heap.size w w' := by
  rw [read_single sgn 1 m _ (by omega), chr_id 1 _ (by omega), len_eq]
  by_cases h : fuL sgn s.data.toList < s.size
  · rw [if_pos h]
    have h2 : (fuL sgn s.data.toList : Int) < (s.size : Int) := by omega
    clear h
    go_enter Tryd.func14, Tryd.ntmps14
    go_wp2_with fail
    refine (fu_sgn s _ hs).mono ?_
    rintro e w' ⟨rfl, rfl⟩
    go_wp2
    go_ret3
    exact ⟨rfl, Below.refl _ _⟩
  · rw [if_neg h]
    have h2 : ¬ (fuL sgn s.data.toList : Int) < (s.size : Int) := by omega
    clear h
    go_enter Tryd.func14, Tryd.ntmps14
    go_wp2_with fail
    refine (fu_sgn s _ hs).mono ?_
    rintro e w' ⟨rfl, rfl⟩
    go_wp2_with fail
    refine (clone_any s _ hs).mono ?_
    rintro e w1 ⟨rfl, hb⟩
    go_wp2
    go_ret3
    exact ⟨rfl, hb⟩

set_option maxRecDepth 100000 in
theorem read_sgn4 (s : ByteArray) (n : Int) (m : Nat) (w : World) (hs : s.size ≤ 4194304) (hT : Tab w) :
    Calls Tryd.prog 14 #[.int .i64 4, .string s, .int .i64 n, .func (.func 33) #[] #[]] w fun e w' => e = .returned (val3 (readR sgn 4 m s.data.toList)) ∧ Below w.heap.size w w' := by
  rw [read_single sgn 4 m _ (by omega), chr_dec, len_eq]
  have HT : Hid (Tab w) := hT
  clear hT
  obtain ⟨d, hd⟩ : ∃ d, ByteArray.mk (s.data.toList.map dec).toArray = d := ⟨_, rfl⟩
  have Hd : Hid _ := hd
  have hdl : Hid (s.data.toList.map dec = d.data.toList) := by show _ = _; rw [← hd, mk_list]
  have hds : d.size = s.size := by rw [← hd, mk_size, List.length_map, len_eq]
  clear hd
  rw [hdl.out]
  by_cases h : fuL sgn d.data.toList < s.size
  · rw [if_pos h]
    have h2 : (fuL sgn d.data.toList : Int) < (d.size : Int) := by omega
    clear h
    go_enter Tryd.func14, Tryd.ntmps14
    go_wp2_with fail
    refine (from_any s _ hs HT.out).mono ?_
    rintro e w' ⟨rfl, hb⟩
    rw [Hd.out]
    go_wp2_with fail
    refine (fu_sgn d _ (by omega)).mono ?_
    rintro e w1 ⟨rfl, hw⟩
    rw [hw]
    clear hw w1
    go_wp2
    go_ret3
    exact ⟨rfl, hb⟩
  · rw [if_neg h]
    have h2 : ¬ (fuL sgn d.data.toList : Int) < (d.size : Int) := by omega
    clear h
    go_enter Tryd.func14, Tryd.ntmps14
    go_wp2_with fail
    refine (from_any s _ hs HT.out).mono ?_
    rintro e w' ⟨rfl, hb⟩
    rw [Hd.out]
    go_wp2_with fail
    refine (fu_sgn d _ (by omega)).mono ?_
    rintro e w1 ⟨rfl, hw⟩
    rw [hw]
    clear hw w1
    go_wp2_with fail
    refine (clone_any d _ (by omega)).mono ?_
    rintro e w1 ⟨rfl, hb1⟩
    go_wp2
    go_ret3
    exact ⟨rfl, hb.trans (hb1.mono hb.size)⟩

set_option maxRecDepth 100000 in
theorem read_dig1 (s : ByteArray) (n : Int) (m : Nat) (w : World) (hs : s.size ≤ 4194304) :
    Calls Tryd.prog 14 #[.int .i64 1, .string s, .int .i64 n, .func (.func 15) #[] #[]] w fun e w' => e = .returned (val3 (readR dig 1 m s.data.toList)) ∧ Below w.heap.size w w' := by
  rw [read_single dig 1 m _ (by omega), chr_id 1 _ (by omega), len_eq]
  by_cases h : fuL dig s.data.toList < s.size
  · rw [if_pos h]
    have h2 : (fuL dig s.data.toList : Int) < (s.size : Int) := by omega
    clear h
    go_enter Tryd.func14, Tryd.ntmps14
    go_wp2_with fail
    refine (fu_dig s _ hs).mono ?_
    rintro e w' ⟨rfl, rfl⟩
    go_wp2
    go_ret3
    exact ⟨rfl, Below.refl _ _⟩
  · rw [if_neg h]
    have h2 : ¬ (fuL dig s.data.toList : Int) < (s.size : Int) := by omega
    clear h
    go_enter Tryd.func14, Tryd.ntmps14
    go_wp2_with fail
    refine (fu_dig s _ hs).mono ?_
    rintro e w' ⟨rfl, rfl⟩
    go_wp2_with fail
    refine (clone_any s _ hs).mono ?_
    rintro e w1 ⟨rfl, hb⟩
    go_wp2
    go_ret3
    exact ⟨rfl, hb⟩

set_option maxRecDepth 100000 in
theorem read_dig4 (s : ByteArray) (n : Int) (m : Nat) (w : World) (hs : s.size ≤ 4194304) (hT : Tab w) :
    Calls Tryd.prog 14 #[.int .i64 4, .string s, .int .i64 n, .func (.func 15) #[] #[]] w fun e w' => e = .returned (val3 (readR dig 4 m s.data.toList)) ∧ Below w.heap.size w w' := by
  rw [read_single dig 4 m _ (by omega), chr_dec, len_eq]
  have HT : Hid (Tab w) := hT
  clear hT
  obtain ⟨d, hd⟩ : ∃ d, ByteArray.mk (s.data.toList.map dec).toArray = d := ⟨_, rfl⟩
  have Hd : Hid _ := hd
  have hdl : Hid (s.data.toList.map dec = d.data.toList) := by show _ = _; rw [← hd, mk_list]
  have hds : d.size = s.size := by rw [← hd, mk_size, List.length_map, len_eq]
  clear hd
  rw [hdl.out]
  by_cases h : fuL dig d.data.toList < s.size
  · rw [if_pos h]
    have h2 : (fuL dig d.data.toList : Int) < (d.size : Int) := by omega
    clear h
    go_enter Tryd.func14, Tryd.ntmps14
    go_wp2_with fail
    refine (from_any s _ hs HT.out).mono ?_
    rintro e w' ⟨rfl, hb⟩
    rw [Hd.out]
    go_wp2_with fail
    refine (fu_dig d _ (by omega)).mono ?_
    rintro e w1 ⟨rfl, hw⟩
    rw [hw]
    clear hw w1
    go_wp2
    go_ret3
    exact ⟨rfl, hb⟩
  · rw [if_neg h]
    have h2 : ¬ (fuL dig d.data.toList : Int) < (d.size : Int) := by omega
    clear h
    go_enter Tryd.func14, Tryd.ntmps14
    go_wp2_with fail
    refine (from_any s _ hs HT.out).mono ?_
    rintro e w' ⟨rfl, hb⟩
    rw [Hd.out]
    go_wp2_with fail
    refine (fu_dig d _ (by omega)).mono ?_
    rintro e w1 ⟨rfl, hw⟩
    rw [hw]
    clear hw w1
    go_wp2_with fail
    refine (clone_any d _ (by omega)).mono ?_
    rintro e w1 ⟨rfl, hb1⟩
    go_wp2
    go_ret3
    exact ⟨rfl, hb.trans (hb1.mono hb.size)⟩

theorem fu_byt_all (l : List UInt8) : fuL byt l = l.length := fuL_all _ _ (by simp [byt])
theorem read_byt5 (s : ByteArray) (n : Int) (m : Nat) (w : World) (hs : s.size ≤ 4194304) :
    Calls Tryd.prog 14 #[.int .i64 5, .string s, .int .i64 n, .func (.func 35) #[] #[]] w fun e w' => e = .returned (val3 (readR byt 5 m s.data.toList)) ∧ Below w.heap.size w w' := by
  rw [read_single byt 5 m _ (by omega), chr_id 5 _ (by omega), fu_byt_all, if_neg (by omega)]
  go_enter Tryd.func14, Tryd.ntmps14
  go_wp2_with fail
  refine (clone_any s _ hs).mono ?_
  rintro e w1 ⟨rfl, hb⟩
  go_wp2
  go_ret3
  exact ⟨rfl, hb⟩
end Go.Proofs.YtmgnmkolijaidaaDoor.Rdd
