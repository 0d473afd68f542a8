/- The document's Code and Pack. -/
import Derived.Test.YtekbonfaaofdiaaDoorPck
import Derived.Lib.Bytealg
import Derived.BigQuiet
import Derived.Deep.QuietTactic
namespace Go.Proofs.YtekbonfaaofdiaaDoor.Cod
open Go.RowKit Lib0 Chars Ebc Join Pck
/-- the sixteen signs; the number of one, or -1 -/
def hxl : List UInt8 := [48, 49, 50, 51, 52, 53, 54, 55, 56, 57, 65, 66, 67, 68, 69, 70]
def six (c : UInt8) : Int := Lib.indexByte hxl c
theorem ix_hit (c : UInt8) : ∀ (l : List UInt8) (k : Nat) (h : k < l.length), (l.take k).all (fun x => x != c) = true → l[k] = c → Lib.indexByte l c = k
  | [], k, h, _, _ => by simp at h
  | x :: l, 0, _, _, hp => by simp only [List.getElem_cons_zero] at hp; simp [Lib.indexByte, hp]
  | x :: l, k + 1, h, ha, hp => by
    simp only [List.take_succ_cons, List.all_cons, Bool.and_eq_true] at ha
    have hx : (x == c) = false := by have := ha.1; simp only [bne, Bool.not_eq_true'] at this; exact this
    have ih := ix_hit c l k (by simpa using h) ha.2 (by simpa using hp)
    have hne : (((k : Nat) : Int) == -1) = false := by rw [beq_eq_false_iff_ne]; omega
    simp only [Lib.indexByte, hx, ih, hne, Bool.false_eq_true, if_false]
    omega
theorem ix_none (c : UInt8) : ∀ (l : List UInt8), l.all (fun x => x != c) = true → Lib.indexByte l c = -1
  | [], _ => rfl
  | x :: l, ha => by
    simp only [List.all_cons, Bool.and_eq_true] at ha
    have hx : (x == c) = false := by have := ha.1; simp only [bne, Bool.not_eq_true'] at this; exact this
    simp [Lib.indexByte, hx, ix_none c l ha.2]
theorem ib_lt (c : UInt8) : ∀ l : List UInt8, Lib.indexByte l c < (l.length : Int)
  | [] => by simp [Lib.indexByte]
  | b :: l => by
    have h1 := ib_lt c l
    simp only [Lib.indexByte, List.length_cons]
    split
    · omega
    · split <;> omega
theorem eq_u8 (a b : UInt8) : ((a.toNat : Int) == (b.toNat : Int)) = (a == b) := by
  rw [Bool.eq_iff_iff]; simp only [beq_iff_eq]
  constructor
  · intro h; exact UInt8.toNat.inj (by omega)
  · intro h; rw [h]
set_option maxRecDepth 100000 in
theorem at_any (s : ByteArray) (c : UInt8) (w : World) (hs : s.size ≤ 4194304) :
    Calls Tryd.prog 49 #[.string s, .int .u8 (c.toNat : Int)] w fun e w' => e = .returned (.int .i64 (Lib.indexByte s.data.toList c)) ∧ w' = w := by
  go_enter Tryd.func49, Tryd.ntmps49
  go_wp2
  go_loop [5] (fun i => ∃ k : Nat, k ≤ s.size ∧ i = .int .i64 k ∧ (s.data.toList.take k).all (fun x => x != c) = true) (fun i => s.size - (intOf i).toNat)
  case atStart => exact ⟨0, Nat.zero_le _, rfl, rfl⟩
  case round =>
    obtain ⟨k, hk, rfl, hal⟩ := hrel
    have Hal : Hid ((s.data.toList.take k).all (fun x => x != c) = true) := hal
    clear hal
    by_cases hlt : k < s.size
    · cases hp : s[k] == c
      · have hq : ((s[k].toNat : Int) == (c.toNat : Int)) = false := by rw [eq_u8]; exact hp
        have Hp : Hid ((s[k] == c) = false) := hp
        clear hp
        go_wp2
        go_round
        case rel => exact ⟨k + 1, by omega, by go_num, all_snoc (fun x => x != c) s k hlt Hal.out (by simp only [bne, Hp.out, Bool.not_false])⟩
        case measure => simp [intOf]; omega
      · have hq : ((s[k].toNat : Int) == (c.toNat : Int)) = true := by rw [eq_u8]; exact hp
        have Hp : Hid ((s[k] == c) = true) := hp
        clear hp
        go_wp2
        go_ret
        exact ⟨ret_int (by rw [ix_hit c s.data.toList k (by simpa using hlt) Hal.out (by exact beq_iff_eq.1 Hp.out)]), rfl⟩
    · go_wp2
      go_ret
      exact ⟨ret_int (by rw [ix_none c s.data.toList (by have := Hal.out; rwa [take_all s k (by omega)] at this)]), rfl⟩

theorem at_hx (c : UInt8) (w : World) : Calls Tryd.prog 49 #[.string (ByteArray.mk #[48, 49, 50, 51, 52, 53, 54, 55, 56, 57, 65, 66, 67, 68, 69, 70]), .int .u8 (c.toNat : Int)] w fun e w' => e = .returned (.int .i64 (six c)) ∧ w' = w :=
  at_any _ c w (by decide)
/-- all signs, and the halves of their bytes, as the document writes them -/
def fromB : ByteArray := ByteArray.mk #[32, 33, 34, 35, 36, 37, 38, 39, 40, 41, 42, 43, 44, 45, 46, 47, 48, 49, 50, 51, 52, 53, 54, 55, 56, 57, 58, 59, 60, 61, 62, 63, 64, 65, 66, 67, 68, 69, 70, 71, 72, 73, 74, 75, 76, 77, 78, 79, 80, 81, 82, 83, 84, 85, 86, 87, 88, 89, 90, 91, 92, 93, 94, 95, 96, 97, 98, 99, 100, 101, 102, 103, 104, 105, 106, 107, 108, 109, 110, 111, 112, 113, 114, 115, 116, 117, 118, 119, 120, 121, 122, 123, 124, 125, 126]
set_option maxRecDepth 100000 in
def toB : ByteArray := ByteArray.mk #[52, 48, 53, 65, 55, 70, 55, 66, 53, 66, 54, 67, 53, 48, 55, 68, 52, 68, 53, 68, 53, 67, 52, 69, 54, 66, 54, 48, 52, 66, 54, 49, 70, 48, 70, 49, 70, 50, 70, 51, 70, 52, 70, 53, 70, 54, 70, 55, 70, 56, 70, 57, 55, 65, 53, 69, 52, 67, 55, 69, 54, 69, 54, 70, 55, 67, 67, 49, 67, 50, 67, 51, 67, 52, 67, 53, 67, 54, 67, 55, 67, 56, 67, 57, 68, 49, 68, 50, 68, 51, 68, 52, 68, 53, 68, 54, 68, 55, 68, 56, 68, 57, 69, 50, 69, 51, 69, 52, 69, 53, 69, 54, 69, 55, 69, 56, 69, 57, 66, 65, 69, 48, 66, 66, 66, 48, 54, 68, 55, 57, 56, 49, 56, 50, 56, 51, 56, 52, 56, 53, 56, 54, 56, 55, 56, 56, 56, 57, 57, 49, 57, 50, 57, 51, 57, 52, 57, 53, 57, 54, 57, 55, 57, 56, 57, 57, 65, 50, 65, 51, 65, 52, 65, 53, 65, 54, 65, 55, 65, 56, 65, 57, 67, 48, 52, 70, 68, 48, 65, 49]
set_option maxRecDepth 100000 in
theorem toB_size : toB.size = 190 := rfl
theorem from_all : ∀ m : Fin 256, Lib.indexByte fromB.data.toList (UInt8.ofNat m.val) = if sgn (UInt8.ofNat m.val) then (m.val : Int) - 32 else -1 := by decide +kernel
theorem from_idx (c : UInt8) : Lib.indexByte fromB.data.toList c = if sgn c then (c.toNat : Int) - 32 else -1 := by
  have := from_all ⟨c.toNat, c.toNat_lt⟩
  simpa only [UInt8.ofNat_toNat] using this
set_option maxRecDepth 100000 in
theorem to_all : ∀ m : Fin 95, 0 ≤ six (toB[2 * m.val]'(by rw [toB_size]; omega)) ∧ 0 ≤ six (toB[2 * m.val + 1]'(by rw [toB_size]; omega)) ∧ 16 * six (toB[2 * m.val]'(by rw [toB_size]; omega)) + six (toB[2 * m.val + 1]'(by rw [toB_size]; omega)) = ebT.getD m.val 0 := by decide +kernel
theorem at_from (c : UInt8) (w : World) (h : sgn c = true) : Calls Tryd.prog 49 #[.string (ByteArray.mk #[32, 33, 34, 35, 36, 37, 38, 39, 40, 41, 42, 43, 44, 45, 46, 47, 48, 49, 50, 51, 52, 53, 54, 55, 56, 57, 58, 59, 60, 61, 62, 63, 64, 65, 66, 67, 68, 69, 70, 71, 72, 73, 74, 75, 76, 77, 78, 79, 80, 81, 82, 83, 84, 85, 86, 87, 88, 89, 90, 91, 92, 93, 94, 95, 96, 97, 98, 99, 100, 101, 102, 103, 104, 105, 106, 107, 108, 109, 110, 111, 112, 113, 114, 115, 116, 117, 118, 119, 120, 121, 122, 123, 124, 125, 126]), .int .u8 (c.toNat : Int)] w fun e w' => e = .returned (.int .i64 ((c.toNat - 32 : Nat) : Int)) ∧ w' = w := by
  have hb := sgn_bd c h
  have hf := at_any fromB c w (by decide)
  rw [from_idx, if_pos h, show (c.toNat : Int) - 32 = ((c.toNat - 32 : Nat) : Int) by omega] at hf
  exact hf
theorem at_from_no (c : UInt8) (w : World) (h : sgn c = false) : Calls Tryd.prog 49 #[.string (ByteArray.mk #[32, 33, 34, 35, 36, 37, 38, 39, 40, 41, 42, 43, 44, 45, 46, 47, 48, 49, 50, 51, 52, 53, 54, 55, 56, 57, 58, 59, 60, 61, 62, 63, 64, 65, 66, 67, 68, 69, 70, 71, 72, 73, 74, 75, 76, 77, 78, 79, 80, 81, 82, 83, 84, 85, 86, 87, 88, 89, 90, 91, 92, 93, 94, 95, 96, 97, 98, 99, 100, 101, 102, 103, 104, 105, 106, 107, 108, 109, 110, 111, 112, 113, 114, 115, 116, 117, 118, 119, 120, 121, 122, 123, 124, 125, 126]), .int .u8 (c.toNat : Int)] w fun e w' => e = .returned (.int .i64 (-1)) ∧ w' = w := by
  have hf := at_any fromB c w (by decide)
  rw [from_idx, if_neg (by rw [h]; decide)] at hf
  exact hf
theorem code_val (n : Nat) (hn : n < 95) (x y : UInt8) (hx : x = toB[2 * n]'(by rw [toB_size]; omega)) (hy : y = toB[2 * n + 1]'(by rw [toB_size]; omega)) : wrap64 (wrap64 (16 * six x) + six y) % 256 = (((ebT.getD n 0).toNat.toUInt8.toNat : Nat) : Int) := by
  obtain ⟨h1, h2, h3⟩ := to_all ⟨n, hn⟩
  have hb := ebT_bd ⟨n, hn⟩
  rw [← hx] at h1 h3
  rw [← hy] at h2 h3
  have b1 := ib_lt x hxl
  have b2 := ib_lt y hxl
  change six x < 16 at b1
  change six y < 16 at b2
  rw [IntWalk.wrap64_in (16 * six x) ⟨by omega, by omega⟩, IntWalk.wrap64_in _ ⟨by omega, by omega⟩, h3]
  simp only [UInt8.toNat_ofNat', Nat.toUInt8]
  simp only at hb
  omega
theorem ret_xb {a b : Int} {x : Value} (h : a = b) : Ending.returned (.tuple #[.int .u8 a, x]) = .returned (.tuple #[.int .u8 b, x]) := by rw [h]
set_option maxRecDepth 100000 in
theorem code4 (c : UInt8) (w : World) (h : sgn c = true) :
    Calls Tryd.prog 28 #[.int .i64 4, .int .u8 (c.toNat : Int)] w fun e w' => e = .returned (.tuple #[.int .u8 ((ebc c).toNat : Int), .bool true]) ∧ ∃ n, w' = w.drewN n := by
  have HH : Hid (sgn c = true) := h
  have hb := sgn_bd c h
  clear h
  obtain ⟨n, Hn, hn⟩ : ∃ n, Hid (c.toNat - 32 = n) ∧ n < 95 := ⟨_, rfl, by omega⟩
  clear hb
  have q1 : (0 : Int) ≤ 2 * (n : Int) := by omega
  have q2 : 2 * (n : Int) < 190 := by omega
  have q3 : (0 : Int) ≤ 2 * (n : Int) + 1 := by omega
  have q4 : 2 * (n : Int) + 1 < 190 := by omega
  have q5 : IntKind.i64.wrap (2 * (n : Int)) = 2 * (n : Int) := wrap_i64 _ (by omega) (by omega)
  have q6 : IntKind.i64.wrap (2 * (n : Int) + 1) = 2 * (n : Int) + 1 := wrap_i64 _ (by omega) (by omega)
  go_enter Tryd.func28, Tryd.ntmps28
  go_wp2_with fail
  refine (at_from c _ HH.out).mono ?_
  rintro e w' ⟨rfl, rfl⟩
  rw [Hn.out]
  go_wp2_with fail
  go_quiet ((go_at_call 49; exact Calls.quiet_of_same (at_hx _ _)))
  go_wp2
  go_ret2
  refine ⟨ret_xb ?_, ⟨_, rfl⟩⟩
  rw [show ((ebc c).toNat : Int) = (((ebT.getD n 0).toNat.toUInt8.toNat : Nat) : Int) by rw [ebc, Hn.out]]
  exact code_val n hn _ _ rfl rfl
theorem code4_no (c : UInt8) (w : World) (h : sgn c = false) :
    Calls Tryd.prog 28 #[.int .i64 4, .int .u8 (c.toNat : Int)] w fun e w' => e = .returned (.tuple #[.int .u8 0, .bool false]) ∧ w' = w := by
  go_enter Tryd.func28, Tryd.ntmps28
  go_wp2_with fail
  refine (at_from_no c _ h).mono ?_
  rintro e w' ⟨rfl, rfl⟩
  go_wp2
  go_ret2
  exact ⟨rfl, rfl⟩
theorem code5 (c : UInt8) (w : World) :
    Calls Tryd.prog 28 #[.int .i64 5, .int .u8 (c.toNat : Int)] w fun e w' => e = .returned (.tuple #[.int .u8 (c.toNat : Int), .bool true]) ∧ w' = w := by
  go_enter Tryd.func28, Tryd.ntmps28
  go_wp2
  go_ret2
  exact ⟨rfl, rfl⟩
theorem ret_xc {x : Value} {a b : Bool} (h : a = b) : Ending.returned (.tuple #[x, .bool a]) = .returned (.tuple #[x, .bool b]) := by rw [h]
theorem code1 (c : UInt8) (w : World) :
    Calls Tryd.prog 28 #[.int .i64 1, .int .u8 (c.toNat : Int)] w fun e w' => e = .returned (.tuple #[.int .u8 (c.toNat : Int), .bool (sgn c)]) ∧ w' = w := by
  by_cases h1 : (32 : Int) ≤ c.toNat <;> by_cases h2 : (c.toNat : Int) ≤ 126
  all_goals
    go_enter Tryd.func28, Tryd.ntmps28
    go_wp2
    go_ret2
    exact ⟨ret_xc (by unfold sgn; first | (rw [eq_comm, decide_eq_true_eq]; omega) | (rw [eq_comm, decide_eq_false_iff_not]; omega)), rfl⟩
/-- the byte of a character, of ASCII, EBCDIC, BINARY -/
def codeB (enc : Int) (c : UInt8) : UInt8 := if enc = 4 then (if sgn c then ebc c else 0) else c
theorem code_any (enc : Int) (c : UInt8) (w : World) (h : enc = 1 ∨ enc = 4 ∨ enc = 5) :
    Calls Tryd.prog 28 #[.int .i64 enc, .int .u8 (c.toNat : Int)] w fun e w' => e = .returned (.tuple #[.int .u8 ((codeB enc c).toNat : Int), .bool (fit enc c)]) ∧ ∃ n, w' = w.drewN n := by
  rcases h with rfl | rfl | rfl
  · rw [fit1]
    exact (code1 c w).mono fun e w' ⟨he, hw⟩ => ⟨he, 0, hw⟩
  · rw [fit4]
    cases h : sgn c
    · exact (code4_no c w h).mono fun e w' ⟨he, hw⟩ => ⟨by rw [he]; simp [codeB, h], 0, hw⟩
    · exact (code4 c w h).mono fun e w' ⟨he, hw⟩ => ⟨by rw [he]; simp [codeB, h], hw⟩
  · rw [fit5]
    exact (code5 c w).mono fun e w' ⟨he, hw⟩ => ⟨he, 0, hw⟩
end Go.Proofs.YtekbonfaaofdiaaDoor.Cod
