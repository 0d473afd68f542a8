/- Unpack, the program's. -/
import Derived.Test.YtmgnmkolijaidaaDoorRdd
namespace Go.Proofs.YtmgnmkolijaidaaDoor.Unp
open Go.RowKit Lib0 Chars Ebc Frm Spl Pck Rdd
/-- how many bytes n characters have -/
def widthOf (enc n : Int) : Int := if n < 0 then 0 else if enc = 2 ∨ enc = 3 then n / 2 + n % 2 else if enc = 1 ∨ enc = 4 ∨ enc = 5 then n else 0
theorem width_any (enc n : Int) (w : World) (hn : n ≤ 9223372036854775807) :
    Calls Tryd.prog 19 #[.int .i64 enc, .int .i64 n] w fun e w' => e = .returned (.int .i64 (widthOf enc n)) ∧ w' = w := by
  by_cases h0 : n < 0
  · go_enter Tryd.func19, Tryd.ntmps19
    go_wp2
    go_ret
    exact ⟨ret_int (by simp [widthOf, h0]), rfl⟩
  · have h1 : 0 ≤ n := by omega
    go_enter Tryd.func19, Tryd.ntmps19
    go_wp2
    all_goals
      go_ret
      exact ⟨ret_int (by unfold widthOf; simp_all <;> (repeat' split) <;> omega), rfl⟩
/-- what Unpack answers -/
def unpackR (enc : Int) (l : List UInt8) (n : Int) : List UInt8 × Int × Int :=
  if 1 ≤ enc ∧ enc ≤ 5 ∧ 0 ≤ n then (if (l.length : Int) < widthOf enc n then ([], 10, (l.length : Int)) else readR (fit enc) enc n.toNat (l.take (widthOf enc n).toNat)) else ([], 1, 0)
theorem u_arg (enc : Int) (l : List UInt8) (n : Int) (h : enc < 1 ∨ 5 < enc ∨ n < 0) : unpackR enc l n = ([], 1, 0) := by unfold unpackR; rw [if_neg (by omega)]
theorem u_short (enc : Int) (l : List UInt8) (n : Int) (h : 1 ≤ enc ∧ enc ≤ 5 ∧ 0 ≤ n) (h2 : (l.length : Int) < widthOf enc n) : unpackR enc l n = ([], 10, (l.length : Int)) := by unfold unpackR; rw [if_pos h, if_pos h2]
theorem u_read (enc : Int) (l : List UInt8) (n : Int) (h : 1 ≤ enc ∧ enc ≤ 5 ∧ 0 ≤ n) (h2 : ¬ (l.length : Int) < widthOf enc n) : unpackR enc l n = readR (fit enc) enc n.toNat (l.take (widthOf enc n).toNat) := by unfold unpackR; rw [if_pos h, if_neg h2]
theorem ext_list (s : ByteArray) (k : Nat) : (s.extract 0 k).data.toList = s.data.toList.take k := by simp
theorem ext_size (s : ByteArray) (k : Nat) (h : k ≤ s.size) : (s.extract 0 k).size = k := by rw [ByteArray.size_extract]; omega
end Go.Proofs.YtmgnmkolijaidaaDoor.Unp
