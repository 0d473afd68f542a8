/- A right byte, for a place: turned. -/
import Derived.Test.YtekbonfaaofdiabDoorBak
namespace Go.Proofs.YtekbonfaaofdiabDoor.Trn
open Go.RowKit Lib0 Chars Ebc Join Frm Spl Pck Rdd Unp Bck Bak
abbrev TPost (enc : Int) (n k : Nat) (w : World) (e : Ending) (w' : World) : Prop := e = .returned (.string ⟨#[turnB enc n k]⟩) ∧ w' = w
theorem tb (enc : Int) (n k : Nat) (c : UInt8) (h : turnB enc n k = c) : Ending.returned (.string ⟨#[c]⟩) = .returned (.string ⟨#[turnB enc n k]⟩) := by rw [h]
theorem turned1 (b : UInt8) (k n : Nat) (w : World) : Calls Tryd.prog 12 #[.int .i64 1, .int .u8 (b.toNat : Int), .int .i64 k, .int .i64 n] w (TPost 1 n k w) := by
  show Calls _ _ _ _ fun e w' => e = _ ∧ _
  have HE : Hid (turnB 1 n k = 55) := by show _ = _; simp [turnB]
  go_enter Tryd.func12, Tryd.ntmps12
  go_wp2
  go_ret
  exact ⟨tb 1 n k _ HE.out, rfl⟩
theorem turned4 (b : UInt8) (k n : Nat) (w : World) : Calls Tryd.prog 12 #[.int .i64 4, .int .u8 (b.toNat : Int), .int .i64 k, .int .i64 n] w (TPost 4 n k w) := by
  show Calls _ _ _ _ fun e w' => e = _ ∧ _
  have HE : Hid (turnB 4 n k = 247) := by show _ = _; simp [turnB]
  go_enter Tryd.func12, Tryd.ntmps12
  go_wp2
  go_ret
  exact ⟨tb 4 n k _ HE.out, rfl⟩
theorem turned2 (b : UInt8) (k n : Nat) (w : World) : Calls Tryd.prog 12 #[.int .i64 2, .int .u8 (b.toNat : Int), .int .i64 k, .int .i64 n] w (TPost 2 n k w) := by
  show Calls _ _ _ _ fun e w' => e = _ ∧ _
  by_cases ho : n % 2 = 0
  · have q1 : ((n : Int) % 2 == 1) = false := beq_eq_false_iff_ne.mpr (by omega)
    have HE : Hid (turnB 2 n k = 55) := by show _ = _; simp [turnB, holeAt, ho]
    clear ho
    go_enter Tryd.func12, Tryd.ntmps12
    go_wp2
    go_ret
    exact ⟨tb 2 n k _ HE.out, rfl⟩
  · have q1 : ((n : Int) % 2 == 1) = true := beq_iff_eq.mpr (by omega)
    by_cases h0 : k = 0
    · subst h0
      have HE : Hid (turnB 2 n 0 = 5) := by show _ = _; simp [turnB, holeAt, ho]
      clear ho
      go_enter Tryd.func12, Tryd.ntmps12
      go_wp2
      go_ret
      exact ⟨tb 2 n 0 _ HE.out, rfl⟩
    · have q2 : ((k : Int) == 0) = false := beq_eq_false_iff_ne.mpr (by omega)
      have HE : Hid (turnB 2 n k = 55) := by show _ = _; simp [turnB, holeAt, ho, h0]
      clear ho h0
      go_enter Tryd.func12, Tryd.ntmps12
      go_wp2
      go_ret
      exact ⟨tb 2 n k _ HE.out, rfl⟩
theorem turned3 (b : UInt8) (k n : Nat) (w : World) (hn : (n : Int) ≤ 9223372036854775807) : Calls Tryd.prog 12 #[.int .i64 3, .int .u8 (b.toNat : Int), .int .i64 k, .int .i64 n] w (TPost 3 n k w) := by
  show Calls _ _ _ _ fun e w' => e = _ ∧ _
  by_cases ho : n % 2 = 0
  · have q1 : ((n : Int) % 2 == 1) = false := beq_eq_false_iff_ne.mpr (by omega)
    have HE : Hid (turnB 3 n k = 55) := by show _ = _; simp [turnB, holeAt, ho]
    clear ho
    go_enter Tryd.func12, Tryd.ntmps12
    go_wp2
    go_ret
    exact ⟨tb 3 n k _ HE.out, rfl⟩
  · have q1 : ((n : Int) % 2 == 1) = true := beq_iff_eq.mpr (by omega)
    by_cases h0 : k = n / 2
    · have q2 : ((k : Int) == (n : Int) / 2) = true := beq_iff_eq.mpr (by omega)
      have HE : Hid (turnB 3 n k = 95) := by show _ = _; simp [turnB, holeAt, ho, h0]
      clear ho h0
      go_enter Tryd.func12, Tryd.ntmps12
      go_wp2
      go_ret
      exact ⟨tb 3 n k _ HE.out, rfl⟩
    · have q2 : ((k : Int) == (n : Int) / 2) = false := beq_eq_false_iff_ne.mpr (by omega)
      have HE : Hid (turnB 3 n k = 55) := by show _ = _; simp [turnB, holeAt, ho, h0]
      clear ho h0
      go_enter Tryd.func12, Tryd.ntmps12
      go_wp2
      go_ret
      exact ⟨tb 3 n k _ HE.out, rfl⟩
theorem turned_any (enc : Int) (b : UInt8) (k n : Nat) (w : World) (h : 1 ≤ enc ∧ enc ≤ 4) (hn : (n : Int) ≤ 9223372036854775807) : Calls Tryd.prog 12 #[.int .i64 enc, .int .u8 (b.toNat : Int), .int .i64 k, .int .i64 n] w (TPost enc n k w) := by
  have h5 : enc = 1 ∨ enc = 2 ∨ enc = 3 ∨ enc = 4 := by omega
  rcases h5 with rfl | rfl | rfl | rfl
  · exact turned1 b k n w
  · exact turned2 b k n w
  · exact turned3 b k n w hn
  · exact turned4 b k n w
/-- one byte turned -/
def putB (s : ByteArray) (j : Nat) (c : UInt8) : ByteArray := s.extract 0 j ++ ⟨#[c]⟩ ++ s.extract (j + 1) s.size
theorem put_list (s : ByteArray) (j : Nat) (c : UInt8) (h : j < s.size) : (putB s j c).data.toList = s.data.toList.set j c := by
  have hl := len_eq s
  rw [List.set_eq_take_append_cons_drop, if_pos (by omega)]
  have e0 : ∀ a b : ByteArray, (a ++ b).data.toList = a.data.toList ++ b.data.toList := fun a b => by simp
  have e2 : (s.extract (j + 1) s.size).data.toList = (s.data.toList.drop (j + 1)).take (s.size - (j + 1)) := by simp
  have e3 : (s.data.toList.drop (j + 1)).take (s.size - (j + 1)) = s.data.toList.drop (j + 1) := List.take_of_length_le (by rw [List.length_drop]; omega)
  unfold putB
  rw [e0, e0, ext_list, e2, e3, List.append_assoc]
  rfl
theorem put_size (s : ByteArray) (j : Nat) (c : UInt8) (h : j < s.size) : (putB s j c).size = s.size := by
  rw [← len_eq, put_list s j c h, List.length_set, len_eq]
/-- what Unpack answers of bytes with a wrong one, and once it is turned -/
theorem turn_fact (enc : Int) (s : ByteArray) (m W : Nat) (he : 1 ≤ enc ∧ enc ≤ 5) (hW : widthOf enc (m : Int) = (W : Int)) (hle : W ≤ s.size) (t : List UInt8) (er z : Int) (h0 : er ≠ 0) (hu : unpackR enc s.data.toList (m : Int) = (t, er, z)) :
    t = [] ∧ enc ≤ 4 ∧ (er = 11 ∨ er = 12) ∧ ∃ j : Nat, j < W ∧ z = (j : Int) ∧ ∃ (t' : List UInt8) (f z' : Int), unpackR enc (putB s j (turnB enc m j)).data.toList (m : Int) = (t', f, z') ∧ (f = 0 ∨ z < z') := by
  have hl := len_eq s
  rw [u_read enc _ _ (by omega) (by rw [hW, hl]; omega), hW, Int.toNat_natCast, Int.toNat_natCast] at hu
  obtain ⟨e1, j, hj, hz, ⟨b, hb⟩, hall⟩ := split_err (byteG (fit enc) enc m) t er z h0 (s.data.toList.take W) 0 [] hu
  rw [Nat.zero_add] at hz hb hall
  have h4 : enc ≤ 4 := by
    rcases Int.lt_or_le 4 enc with h | h
    · obtain rfl : enc = 5 := by omega
      rw [never5] at hb
      exact absurd hb.symm h0
    · exact h
  have hcode : er = 11 ∨ er = 12 := by
    have := byteG_code (fit enc) enc m j b
    omega
  rw [List.length_take] at hj
  refine ⟨e1, h4, hcode, j, by omega, hz, ?_⟩
  have hr := hall (turnB enc m j) (turn_right enc m j ⟨he.1, h4⟩)
  obtain ⟨r, hrr⟩ : ∃ r, splitG (byteG (fit enc) enc m) 0 ((s.data.toList.take W).set j (turnB enc m j)) [] = r := ⟨_, rfl⟩
  rw [hrr] at hr
  obtain ⟨t', f, z'⟩ := r
  refine ⟨t', f, z', ?_, hr⟩
  rw [put_list s j _ (by omega), u_read enc _ _ (by omega) (by rw [hW, List.length_set, hl]; omega), hW, Int.toNat_natCast, Int.toNat_natCast, List.take_set]
  exact hrr
/-- what Unpack answers of right bytes, and Pack of that -/
theorem back_fact (enc : Int) (s : ByteArray) (m W : Nat) (he : 1 ≤ enc ∧ enc ≤ 5) (hW : widthOf enc (m : Int) = (W : Int)) (hle : W ≤ s.size) (t : List UInt8) (z : Int) (hu : unpackR enc s.data.toList (m : Int) = (t, 0, z)) :
    z = 0 ∧ t.length = m ∧ packR enc t = ((s.extract 0 W).data.toList, 0) := by
  have hl := len_eq s
  rw [u_read enc _ _ (by omega) (by rw [hW, hl]; omega), hW, Int.toNat_natCast, Int.toNat_natCast] at hu
  obtain ⟨h1, h2, h3, h4⟩ := pack_read (fit enc) enc m (s.data.toList.take W) t z he (fun _ h => h) (by rw [hW, List.length_take]; omega) hu
  refine ⟨h4, h2, ?_⟩
  rw [p_yes enc t he (by have := fuL_all (fit enc) t h3; omega), h1, ext_list]
theorem u_nil (enc : Int) (he : 1 ≤ enc ∧ enc ≤ 5) : unpackR enc (ByteArray.mk #[]).data.toList 0 = ([], 0, 0) := by
  have h5 : enc = 1 ∨ enc = 2 ∨ enc = 3 ∨ enc = 4 ∨ enc = 5 := by omega
  rcases h5 with rfl | rfl | rfl | rfl | rfl <;> decide
end Go.Proofs.YtekbonfaaofdiabDoor.Trn
