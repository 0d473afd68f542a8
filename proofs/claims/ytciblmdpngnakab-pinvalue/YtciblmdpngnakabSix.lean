/- Sixteenths: which byte is one, and its number; the first byte that does not fit. -/
import Derived.Test.YtciblmdpngnakabLib0
import Derived.Lib.Bytealg
namespace Go.Proofs.Ytciblmdpngnakab.Six
open Go.RowKit Lib0
theorem run_ibs (s : ByteArray) (c : Int) (w : World) : (callFunc 74 #[.string s, .int .u8 c]).run Try.prog w = .ok (.value (.int .i64 (Lib.indexByte s.data.toList c.toNat.toUInt8))) w := by
  rw [run_callFunc_extern (P := Try.prog) (e := Extern.BytealgIndexByte.indexByte) Try.func74 (by kernel_rfl) (by kernel_rfl) (by kernel_rfl) (by kernel_rfl) #[.string s, .int .u8 c] w, Lib.run_indexByteString]
  rfl
theorem ib1 (s : ByteArray) (c : Int) (w : World) :
    Calls Try.prog 55 #[.string s, .int .u8 c] w fun e w' => e = .returned (.int .i64 (Lib.indexByte s.data.toList c.toNat.toUInt8)) ∧ w' = w := by
  have h := run_ibs s c
  go_enter Try.func55, Try.ntmps55
  go_wp2
  go_ret
  exact ⟨rfl, rfl⟩
theorem ib2 (s : ByteArray) (c : Int) (w : World) :
    Calls Try.prog 40 #[.string s, .int .u8 c] w fun e w' => e = .returned (.int .i64 (Lib.indexByte s.data.toList c.toNat.toUInt8)) ∧ w' = w := by
  go_enter Try.func40, Try.ntmps40
  go_wp2_with fail
  refine (ib1 s c _).mono ?_
  rintro e w' ⟨rfl, rfl⟩
  go_wp2
  go_ret
  exact ⟨rfl, rfl⟩
/-- the sixteen signs; the number of one, or -1 -/
def hxl : List UInt8 := [48, 49, 50, 51, 52, 53, 54, 55, 56, 57, 65, 66, 67, 68, 69, 70]
def six (c : UInt8) : Int := Lib.indexByte hxl c
def isSix (c : UInt8) : Bool := decide (0 ≤ six c)
theorem ix_hit (c : UInt8) : ∀ (l : List UInt8) (k : Nat) (h : k < l.length), (l.take k).all (fun x => x != c) = true → l[k] = c → Lib.indexByte l c = k
  | [], k, h, _, _ => by simp at h
  | x :: l, 0, _, _, hp => by simp only [List.getElem_cons_zero] at hp; simp [Lib.indexByte, hp]
  | x :: l, k + 1, h, ha, hp => by
    simp only [List.take_succ_cons, List.all_cons, Bool.and_eq_true] at ha
    have hx : (x == c) = false := by have := ha.1; simp only [bne, Bool.not_eq_true'] at this; exact this
    have ih := ix_hit c l k (by simpa using h) ha.2 (by simpa using hp)
    have hne : (((k : Nat) : Int) == -1) = false := by rw [beq_eq_false_iff_ne]; omega
    simp only [Lib.indexByte, hx, ih, hne, Bool.false_eq_true, if_false]
    omega
theorem ix_none (c : UInt8) : ∀ (l : List UInt8), l.all (fun x => x != c) = true → Lib.indexByte l c = -1
  | [], _ => rfl
  | x :: l, ha => by
    simp only [List.all_cons, Bool.and_eq_true] at ha
    have hx : (x == c) = false := by have := ha.1; simp only [bne, Bool.not_eq_true'] at this; exact this
    simp [Lib.indexByte, hx, ix_none c l ha.2]
/-- pairs of signs as bytes -/
def unhexL : List UInt8 → List UInt8
  | a :: b :: l => (16 * six a + six b).toNat.toUInt8 :: unhexL l
  | _ => []
theorem unhexL_snoc : ∀ (l : List UInt8) (a b : UInt8), l.length % 2 = 0 → unhexL (l ++ [a, b]) = unhexL l ++ [(16 * six a + six b).toNat.toUInt8]
  | [], a, b, _ => rfl
  | [x], a, b, h => by simp at h
  | x :: y :: l, a, b, h => by
    simp only [List.cons_append, unhexL]
    rw [unhexL_snoc l a b (by simp only [List.length_cons] at h; omega)]
theorem or16n : ∀ a b : Fin 16, (16 * a.val) ||| b.val = 16 * a.val + b.val := by decide
theorem or16 (a b : Int) (h1 : 0 ≤ a) (h2 : a < 16) (h3 : 0 ≤ b) (h4 : b < 16) : bits .or .u8 (IntKind.u8.wrap (a * 16)) b = ((((16 * a + b).toNat.toUInt8).toNat : Nat) : Int) := by
  obtain ⟨A, rfl⟩ := Int.eq_ofNat_of_zero_le h1
  obtain ⟨B, rfl⟩ := Int.eq_ofNat_of_zero_le h3
  rw [wrap_u8 _ (by omega) (by omega), u8_or _ _ (by omega) (by omega) (by omega) (by omega)]
  have e1 : ((A : Int) * 16).toNat = 16 * A := by omega
  have e2 : ((B : Int)).toNat = B := by omega
  have e3 : (16 * (A : Int) + (B : Int)).toNat = 16 * A + B := by omega
  rw [e1, e2, e3, or16n ⟨A, by omega⟩ ⟨B, by omega⟩]
  simp only [UInt8.toNat_ofNat', Nat.toUInt8]
  omega
theorem six_of (s : ByteArray) (ha : s.data.toList.all isSix = true) (k : Nat) (h : k < s.size) : 0 ≤ six s[k] := by
  have := List.all_eq_true.1 ha s[k] (by show s.data[k] ∈ s.data.toList; simp)
  exact of_decide_eq_true this
theorem take_two (s : ByteArray) (j : Nat) (h : j + 1 < s.size) : s.data.toList.take (j + 2) = s.data.toList.take j ++ [s[j], s[j + 1]] := by
  rw [take_snoc s (j + 1) h, take_snoc s j (by omega)]; simp
theorem ret_str3 {a b : ByteArray} {x y : Value} (h : a = b) : Ending.returned (.tuple #[.string a, x, y]) = .returned (.tuple #[.string b, x, y]) := by rw [h]
theorem ib_lt (c : UInt8) : ∀ l : List UInt8, Lib.indexByte l c < (l.length : Int)
  | [] => by simp [Lib.indexByte]
  | b :: l => by
    have h1 := ib_lt c l
    simp only [Lib.indexByte, List.length_cons]
    split
    · omega
    · split <;> omega
theorem six_bd (c : UInt8) : -1 ≤ six c ∧ six c < 16 := ⟨Lib.indexByte_ge _ _, ib_lt c hxl⟩
theorem back (c : UInt8) : ((c.toNat : Int)).toNat.toUInt8 = c := by simp
theorem eq_u8 (a b : UInt8) : ((a.toNat : Int) == (b.toNat : Int)) = (a == b) := by
  rw [Bool.eq_iff_iff]; simp only [beq_iff_eq]
  constructor
  · intro h; exact UInt8.toNat.inj (by omega)
  · intro h; rw [h]
end Go.Proofs.Ytciblmdpngnakab.Six
