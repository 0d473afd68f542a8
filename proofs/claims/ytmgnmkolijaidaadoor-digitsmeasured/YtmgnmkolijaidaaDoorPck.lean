/- Pack, the program's. -/
import Derived.Test.YtmgnmkolijaidaaDoorJoin
import Derived.Test.YtmgnmkolijaidaaDoorShelf
namespace Go.Proofs.YtmgnmkolijaidaaDoor.Pck
open Go.RowKit Lib0 Chars Ebc Join
/-- what Pack answers -/
def fit (enc : Int) : UInt8 → Bool := if enc = 1 ∨ enc = 4 then sgn else if enc = 2 ∨ enc = 3 then hlf else byt
def packL (enc : Int) (l : List UInt8) : List UInt8 := if enc = 4 then l.map ebc else if enc = 2 then joinL (if l.length % 2 = 1 then 48 :: l else l) else if enc = 3 then joinL l else l
def packR (enc : Int) (l : List UInt8) : List UInt8 × Int := if 1 ≤ enc ∧ enc ≤ 5 then (if fuL (fit enc) l < l.length then ([], 11) else (packL enc l, 0)) else ([], 1)
theorem p_arg (enc : Int) (l : List UInt8) (h : enc < 1 ∨ 5 < enc) : packR enc l = ([], 1) := by unfold packR; rw [if_neg (by omega)]
theorem p_char (enc : Int) (l : List UInt8) (h : 1 ≤ enc ∧ enc ≤ 5) (h2 : fuL (fit enc) l < l.length) : packR enc l = ([], 11) := by unfold packR; rw [if_pos h, if_pos h2]
theorem p_yes (enc : Int) (l : List UInt8) (h : 1 ≤ enc ∧ enc ≤ 5) (h2 : ¬ fuL (fit enc) l < l.length) : packR enc l = (packL enc l, 0) := by unfold packR; rw [if_pos h, if_neg h2]
theorem fit1 : fit 1 = sgn := by simp [fit]
theorem fit2 : fit 2 = hlf := by simp [fit]
theorem fit3 : fit 3 = hlf := by simp [fit]
theorem fit4 : fit 4 = sgn := by simp [fit]
theorem fit5 : fit 5 = byt := by simp [fit]
theorem len_eq (s : ByteArray) : s.data.toList.length = s.size := by simp
theorem clone_any (s : ByteArray) (w : World) (hs : s.size ≤ 4194304) :
    Calls Tryd.prog 23 #[.string s] w fun e w' => e = .returned (.string s) ∧ Below w.heap.size w w' := by
  go_enter Tryd.func23, Tryd.ntmps23
  go_wp2_with fail
  refine (Tryd.stringslite_Clone s _ (by omega)).mono ?_
  rintro e w' ⟨rfl, hb⟩
  go_wp2
  go_ret
  exact ⟨rfl, hb⟩
theorem ret_ss {a b : ByteArray} {x y : Value} (h : a = b) (h2 : x = y) : Ending.returned (.tuple #[.string a, x]) = .returned (.tuple #[.string b, y]) := by rw [h, h2]
abbrev Post (enc : Int) (s : ByteArray) (w : World) (e : Ending) (w' : World) : Prop := e = .returned (.tuple #[.string ⟨(packR enc s.data.toList).1.toArray⟩, .int .i64 (packR enc s.data.toList).2]) ∧ Below w.heap.size w w'
theorem pack_none (enc : Int) (s : ByteArray) (w : World) (h : enc < 1 ∨ 5 < enc) : Calls Tryd.prog 12 #[.int .i64 enc, .string s] w (Post enc s w) := by
  show Calls _ _ _ _ fun e w' => e = _ ∧ _
  rw [p_arg enc _ h]
  go_enter Tryd.func12, Tryd.ntmps12
  go_wp2_with fail
  refine (chars_none enc _ h).mono ?_
  rintro e w' ⟨rfl, rfl⟩
  go_wp2
  go_ret2
  exact ⟨rfl, Below.refl _ _⟩

set_option maxRecDepth 100000 in
theorem pack_unfit1 (s : ByteArray) (w : World) (hs : s.size ≤ 4194304) (h : fuL sgn s.data.toList < s.size) : Calls Tryd.prog 12 #[.int .i64 1, .string s] w (Post 1 s w) := by
  show Calls _ _ _ _ fun e w' => e = _ ∧ _
  rw [p_char 1 _ (by omega) (by rw [len_eq]; exact h)]
  have h2 : (fuL sgn s.data.toList : Int) < (s.size : Int) := by omega
  go_enter Tryd.func12, Tryd.ntmps12
  go_wp2_with fail
  refine (chars_sign 1 _ (by omega)).mono ?_
  rintro e w' ⟨rfl, rfl⟩
  go_wp2_with fail
  refine (fu_sgn s _ hs).mono ?_
  rintro e w' ⟨rfl, rfl⟩
  go_wp2
  go_ret2
  exact ⟨rfl, Below.refl _ _⟩
set_option maxRecDepth 100000 in
theorem pack_fit1 (s : ByteArray) (w : World) (hs : s.size ≤ 4194300) (ha : s.data.toList.all sgn = true) : Calls Tryd.prog 12 #[.int .i64 1, .string s] w (Post 1 s w) := by
  show Calls _ _ _ _ fun e w' => e = _ ∧ _
  rw [p_yes 1 _ (by omega) (by have := fuL_all sgn _ ha; rw [fit1]; omega)]
  have HF : Hid (fuL sgn s.data.toList = s.size) := by show _ = _; rw [fuL_all _ _ ha]; simp
  clear ha
  go_enter Tryd.func12, Tryd.ntmps12
  go_wp2_with fail
  refine (chars_sign 1 _ (by omega)).mono ?_
  rintro e w' ⟨rfl, rfl⟩
  go_wp2_with fail
  refine (fu_sgn s _ (by omega)).mono ?_
  rintro e w' ⟨rfl, rfl⟩
  rw [HF.out]
  go_wp2_with fail
  refine (clone_any s _ (by omega)).mono ?_
  rintro e w1 ⟨rfl, hb⟩
  go_wp2
  go_ret2
  exact ⟨ret_ss rfl rfl, hb⟩

set_option maxRecDepth 100000 in
theorem pack_unfit2 (s : ByteArray) (w : World) (hs : s.size ≤ 4194304) (h : fuL hlf s.data.toList < s.size) : Calls Tryd.prog 12 #[.int .i64 2, .string s] w (Post 2 s w) := by
  show Calls _ _ _ _ fun e w' => e = _ ∧ _
  rw [p_char 2 _ (by omega) (by rw [len_eq]; exact h)]
  have h2 : (fuL hlf s.data.toList : Int) < (s.size : Int) := by omega
  go_enter Tryd.func12, Tryd.ntmps12
  go_wp2_with fail
  refine (chars_half 2 _ (by omega)).mono ?_
  rintro e w' ⟨rfl, rfl⟩
  go_wp2_with fail
  refine (fu_hlf s _ hs).mono ?_
  rintro e w' ⟨rfl, rfl⟩
  go_wp2
  go_ret2
  exact ⟨rfl, Below.refl _ _⟩
set_option maxRecDepth 100000 in
theorem pack_fit2 (s : ByteArray) (w : World) (hs : s.size ≤ 4194300) (ha : s.data.toList.all hlf = true) : Calls Tryd.prog 12 #[.int .i64 2, .string s] w (Post 2 s w) := by
  show Calls _ _ _ _ fun e w' => e = _ ∧ _
  rw [p_yes 2 _ (by omega) (by have := fuL_all hlf _ ha; rw [fit2]; omega)]
  have HF : Hid (fuL hlf s.data.toList = s.size) := by show _ = _; rw [fuL_all _ _ ha]; simp
  have HA : Hid (s.data.toList.all hlf = true) := ha
  clear ha
  by_cases hodd : s.size % 2 = 1
  · have hev : (((s.size : Int) % 2) == 1) = true := by simp; omega
    have e1 : Hid ((ByteArray.mk #[48] ++ s).data.toList = 48 :: s.data.toList) := by show _ = _; simp
    have e2 : (ByteArray.mk #[48] ++ s).size = s.size + 1 := by rw [ByteArray.size_append, show (ByteArray.mk #[48]).size = 1 from rfl]; omega
    go_enter Tryd.func12, Tryd.ntmps12
    go_wp2_with fail
    refine (chars_half 2 _ (by omega)).mono ?_
    rintro e w' ⟨rfl, rfl⟩
    go_wp2_with fail
    refine (fu_hlf s _ (by omega)).mono ?_
    rintro e w' ⟨rfl, rfl⟩
    rw [HF.out]
    go_wp2_with fail
    refine (join_any (ByteArray.mk #[48] ++ s) _ (by omega) (by rw [e1.out, List.all_cons, HA.out]; decide)).mono ?_
    rintro e w1 ⟨rfl, hb⟩
    rw [e1.out]
    go_wp2
    go_ret2
    exact ⟨ret_ss (by simp [packL, hodd]) rfl, hb⟩
  · have hev : (((s.size : Int) % 2) == 1) = false := by simp; omega
    go_enter Tryd.func12, Tryd.ntmps12
    go_wp2_with fail
    refine (chars_half 2 _ (by omega)).mono ?_
    rintro e w' ⟨rfl, rfl⟩
    go_wp2_with fail
    refine (fu_hlf s _ (by omega)).mono ?_
    rintro e w' ⟨rfl, rfl⟩
    rw [HF.out]
    go_wp2_with fail
    refine (join_any s _ (by omega) HA.out).mono ?_
    rintro e w1 ⟨rfl, hb⟩
    go_wp2
    go_ret2
    exact ⟨ret_ss (by simp [packL, hodd]) rfl, hb⟩

set_option maxRecDepth 100000 in
theorem pack_unfit3 (s : ByteArray) (w : World) (hs : s.size ≤ 4194304) (h : fuL hlf s.data.toList < s.size) : Calls Tryd.prog 12 #[.int .i64 3, .string s] w (Post 3 s w) := by
  show Calls _ _ _ _ fun e w' => e = _ ∧ _
  rw [p_char 3 _ (by omega) (by rw [len_eq]; exact h)]
  have h2 : (fuL hlf s.data.toList : Int) < (s.size : Int) := by omega
  go_enter Tryd.func12, Tryd.ntmps12
  go_wp2_with fail
  refine (chars_half 3 _ (by omega)).mono ?_
  rintro e w' ⟨rfl, rfl⟩
  go_wp2_with fail
  refine (fu_hlf s _ hs).mono ?_
  rintro e w' ⟨rfl, rfl⟩
  go_wp2
  go_ret2
  exact ⟨rfl, Below.refl _ _⟩
set_option maxRecDepth 100000 in
theorem pack_fit3 (s : ByteArray) (w : World) (hs : s.size ≤ 4194300) (ha : s.data.toList.all hlf = true) : Calls Tryd.prog 12 #[.int .i64 3, .string s] w (Post 3 s w) := by
  show Calls _ _ _ _ fun e w' => e = _ ∧ _
  rw [p_yes 3 _ (by omega) (by have := fuL_all hlf _ ha; rw [fit3]; omega)]
  have HF : Hid (fuL hlf s.data.toList = s.size) := by show _ = _; rw [fuL_all _ _ ha]; simp
  have HA : Hid (s.data.toList.all hlf = true) := ha
  clear ha
  go_enter Tryd.func12, Tryd.ntmps12
  go_wp2_with fail
  refine (chars_half 3 _ (by omega)).mono ?_
  rintro e w' ⟨rfl, rfl⟩
  go_wp2_with fail
  refine (fu_hlf s _ (by omega)).mono ?_
  rintro e w' ⟨rfl, rfl⟩
  rw [HF.out]
  go_wp2_with fail
  refine (join_any s _ (by omega) HA.out).mono ?_
  rintro e w1 ⟨rfl, hb⟩
  go_wp2
  go_ret2
  exact ⟨ret_ss rfl rfl, hb⟩

set_option maxRecDepth 100000 in
theorem pack_unfit4 (s : ByteArray) (w : World) (hs : s.size ≤ 4194304) (h : fuL sgn s.data.toList < s.size) : Calls Tryd.prog 12 #[.int .i64 4, .string s] w (Post 4 s w) := by
  show Calls _ _ _ _ fun e w' => e = _ ∧ _
  rw [p_char 4 _ (by omega) (by rw [len_eq]; exact h)]
  have h2 : (fuL sgn s.data.toList : Int) < (s.size : Int) := by omega
  go_enter Tryd.func12, Tryd.ntmps12
  go_wp2_with fail
  refine (chars_sign 4 _ (by omega)).mono ?_
  rintro e w' ⟨rfl, rfl⟩
  go_wp2_with fail
  refine (fu_sgn s _ hs).mono ?_
  rintro e w' ⟨rfl, rfl⟩
  go_wp2
  go_ret2
  exact ⟨rfl, Below.refl _ _⟩
set_option maxRecDepth 100000 in
theorem pack_fit4 (s : ByteArray) (w : World) (hs : s.size ≤ 4194300) (ha : s.data.toList.all sgn = true) (hT : Tab w) : Calls Tryd.prog 12 #[.int .i64 4, .string s] w (Post 4 s w) := by
  show Calls _ _ _ _ fun e w' => e = _ ∧ _
  rw [p_yes 4 _ (by omega) (by have := fuL_all sgn _ ha; rw [fit4]; omega)]
  have HF : Hid (fuL sgn s.data.toList = s.size) := by show _ = _; rw [fuL_all _ _ ha]; simp
  have HA : Hid (s.data.toList.all sgn = true) := ha
  have HT : Hid (Tab w) := hT
  clear ha hT
  go_enter Tryd.func12, Tryd.ntmps12
  go_wp2_with fail
  refine (chars_sign 4 _ (by omega)).mono ?_
  rintro e w' ⟨rfl, rfl⟩
  go_wp2_with fail
  refine (fu_sgn s _ (by omega)).mono ?_
  rintro e w' ⟨rfl, rfl⟩
  rw [HF.out]
  go_wp2_with fail
  refine (toEBCDIC_any s _ (by omega) HA.out HT.out).mono ?_
  rintro e w1 ⟨rfl, hb⟩
  go_wp2
  go_ret2
  exact ⟨ret_ss rfl rfl, hb⟩

set_option maxRecDepth 100000 in
theorem pack_unfit5 (s : ByteArray) (w : World) (hs : s.size ≤ 4194304) (h : fuL byt s.data.toList < s.size) : Calls Tryd.prog 12 #[.int .i64 5, .string s] w (Post 5 s w) := by
  show Calls _ _ _ _ fun e w' => e = _ ∧ _
  rw [p_char 5 _ (by omega) (by rw [len_eq]; exact h)]
  have h2 : (fuL byt s.data.toList : Int) < (s.size : Int) := by omega
  go_enter Tryd.func12, Tryd.ntmps12
  go_wp2_with fail
  refine (chars_byte _).mono ?_
  rintro e w' ⟨rfl, rfl⟩
  go_wp2_with fail
  refine (fu_byt s _ hs).mono ?_
  rintro e w' ⟨rfl, rfl⟩
  go_wp2
  go_ret2
  exact ⟨rfl, Below.refl _ _⟩
set_option maxRecDepth 100000 in
theorem pack_fit5 (s : ByteArray) (w : World) (hs : s.size ≤ 4194300) (ha : s.data.toList.all byt = true) : Calls Tryd.prog 12 #[.int .i64 5, .string s] w (Post 5 s w) := by
  show Calls _ _ _ _ fun e w' => e = _ ∧ _
  rw [p_yes 5 _ (by omega) (by have := fuL_all byt _ ha; rw [fit5]; omega)]
  have HF : Hid (fuL byt s.data.toList = s.size) := by show _ = _; rw [fuL_all _ _ ha]; simp
  clear ha
  go_enter Tryd.func12, Tryd.ntmps12
  go_wp2_with fail
  refine (chars_byte _).mono ?_
  rintro e w' ⟨rfl, rfl⟩
  go_wp2_with fail
  refine (fu_byt s _ (by omega)).mono ?_
  rintro e w' ⟨rfl, rfl⟩
  rw [HF.out]
  go_wp2_with fail
  refine (clone_any s _ (by omega)).mono ?_
  rintro e w1 ⟨rfl, hb⟩
  go_wp2
  go_ret2
  exact ⟨ret_ss rfl rfl, hb⟩

theorem pack_any (enc : Int) (s : ByteArray) (w : World) (hs : s.size ≤ 4194300) (hT : Tab w) : Calls Tryd.prog 12 #[.int .i64 enc, .string s] w (Post enc s w) := by
  by_cases h : 1 ≤ enc ∧ enc ≤ 5
  · have hl := len_eq s
    have h5 : enc = 1 ∨ enc = 2 ∨ enc = 3 ∨ enc = 4 ∨ enc = 5 := by omega
    rcases h5 with rfl | rfl | rfl | rfl | rfl
    · by_cases hf : fuL sgn s.data.toList < s.size
      · exact pack_unfit1 s w (by omega) hf
      · exact pack_fit1 s w hs (fuL_eq _ _ (by have := fuL_le sgn s.data.toList; omega))
    · by_cases hf : fuL hlf s.data.toList < s.size
      · exact pack_unfit2 s w (by omega) hf
      · exact pack_fit2 s w hs (fuL_eq _ _ (by have := fuL_le hlf s.data.toList; omega))
    · by_cases hf : fuL hlf s.data.toList < s.size
      · exact pack_unfit3 s w (by omega) hf
      · exact pack_fit3 s w hs (fuL_eq _ _ (by have := fuL_le hlf s.data.toList; omega))
    · by_cases hf : fuL sgn s.data.toList < s.size
      · exact pack_unfit4 s w (by omega) hf
      · exact pack_fit4 s w hs (fuL_eq _ _ (by have := fuL_le sgn s.data.toList; omega)) hT
    · by_cases hf : fuL byt s.data.toList < s.size
      · exact pack_unfit5 s w (by omega) hf
      · exact pack_fit5 s w hs (fuL_eq _ _ (by have := fuL_le byt s.data.toList; omega))
  · exact pack_none enc s w (by omega)
end Go.Proofs.YtmgnmkolijaidaaDoor.Pck
