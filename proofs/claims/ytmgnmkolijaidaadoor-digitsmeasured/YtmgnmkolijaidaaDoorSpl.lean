/- Halves of bytes read as characters. -/
import Derived.Test.YtmgnmkolijaidaaDoorFrm
import Derived.BigQuiet
import Derived.Deep.QuietTactic
import Derived.LoopN
namespace Go.Proofs.YtmgnmkolijaidaaDoor.Spl
open Go.RowKit Lib0 Chars Ebc
/-- byte by byte from the front: what each is, or the first error and its place -/
def splitG (F : Nat → UInt8 → List UInt8 × Int) : Nat → List UInt8 → List UInt8 → List UInt8 × Int × Int
  | _, [], acc => (acc, 0, 0)
  | k, b :: l, acc => if (F k b).2 = 0 then splitG F (k + 1) l (acc ++ (F k b).1) else ([], (F k b).2, (k : Int))
def c1 (b : UInt8) : UInt8 := (48 + b.toNat / 16).toUInt8
def c2 (b : UInt8) : UInt8 := (48 + b.toNat % 16).toUInt8
/-- a byte's characters; which half is filling: 0 none, 1 the high one, 2 the low one -/
def byteR (p : UInt8 → Bool) (hole : Nat) (b : UInt8) : List UInt8 × Int :=
  if hole = 1 then (if p (c2 b) then (if b.toNat / 16 = 0 then ([c2 b], 0) else ([], 12)) else ([], 11))
  else if hole = 2 then (if p (c1 b) then (if b.toNat % 16 = 15 then ([c1 b], 0) else ([], 12)) else ([], 11))
  else (if p (c1 b) then (if p (c2 b) then ([c1 b, c2 b], 0) else ([], 11)) else ([], 11))
def holeAt (enc : Int) (n k : Nat) : Nat := if n % 2 = 0 then 0 else if enc = 2 then (if k = 0 then 1 else 0) else (if k = n / 2 then 2 else 0)
theorem c1_nat (b : UInt8) : (c1 b).toNat = 48 + b.toNat / 16 := by have := b.toNat_lt; simp only [c1, UInt8.toNat_ofNat', Nat.toUInt8]; omega
theorem c2_nat (b : UInt8) : (c2 b).toNat = 48 + b.toNat % 16 := by have := b.toNat_lt; simp only [c2, UInt8.toNat_ofNat', Nat.toUInt8]; omega
theorem c1_int (b : UInt8) (n : Int) (h : n = 48 + (b.toNat : Int) / 16) : n = ((c1 b).toNat : Int) := by rw [c1_nat]; omega
theorem c2_int (b : UInt8) (n : Int) (h : n = 48 + (b.toNat : Int) % 16) : n = ((c2 b).toNat : Int) := by rw [c2_nat]; omega
theorem drop_cons (s : ByteArray) (k : Nat) (h : k < s.size) : s.data.toList.drop k = s[k] :: s.data.toList.drop (k + 1) := by
  rw [List.drop_eq_getElem_cons (by simpa using h)]; rfl
theorem step_ok (F : Nat → UInt8 → List UInt8 × Int) (s : ByteArray) (k : Nat) (h : k < s.size) (acc x : List UInt8) (hf : F k s[k] = (x, 0)) : splitG F k (s.data.toList.drop k) acc = splitG F (k + 1) (s.data.toList.drop (k + 1)) (acc ++ x) := by
  rw [drop_cons s k h, splitG, hf]; simp
theorem step_no (F : Nat → UInt8 → List UInt8 × Int) (s : ByteArray) (k : Nat) (h : k < s.size) (acc x : List UInt8) (e : Int) (he : e ≠ 0) (hf : F k s[k] = (x, e)) : splitG F k (s.data.toList.drop k) acc = ([], e, (k : Int)) := by
  rw [drop_cons s k h, splitG, hf]; simp [he]
theorem step_end (F : Nat → UInt8 → List UInt8 × Int) (s : ByteArray) (k : Nat) (h : s.size ≤ k) (acc : List UInt8) : splitG F k (s.data.toList.drop k) acc = (acc, 0, 0) := by
  rw [List.drop_eq_nil_of_le (by simpa using h)]; rfl
/-- three results -/
def val3 (r : List UInt8 × Int × Int) : Value := .tuple #[.string ⟨r.1.toArray⟩, .int .i64 r.2.1, .int .i64 r.2.2]
theorem own_two {w : World} {B e n n' : Nat} {v v' : Value} {l l' : List UInt8} (h : w.ownsRow B e 1 v n (bs l)) (hv : v = v') (hn : n = n') (hl : l = l') : w.ownsRow B e 1 v' n' (bs l') := by subst hv hn hl; exact h
theorem snoc_bs (l : List UInt8) (c : UInt8) (n : Int) (h : n = (c.toNat : Int)) : bs l ++ [Value.int .u8 n] = bs (l ++ [c]) := by subst h; simp [bs]
theorem two_bs (l : List UInt8) (c d : UInt8) (n m : Int) (h : n = (c.toNat : Int)) (h2 : m = (d.toNat : Int)) : bs l ++ [Value.int .u8 n, Value.int .u8 m] = bs (l ++ [c, d]) := by subst h h2; simp [bs]
theorem fill_none (enc : Int) (n : Nat) (w : World) (h : n % 2 = 0) (hn : (n : Int) ≤ 9223372036854775807) : Calls Tryd.prog 37 #[.int .i64 enc, .int .i64 n] w fun e w' => e = .returned (.tuple #[.int .i64 (-1), .int .u8 0]) ∧ w' = w := by
  have h1 : (((n : Int) % 2) == 0) = true := by simp; omega
  go_enter Tryd.func37, Tryd.ntmps37
  go_wp2
  go_ret2
  exact ⟨rfl, rfl⟩
theorem fill_two (n : Nat) (w : World) (h : n % 2 = 1) (hn : (n : Int) ≤ 9223372036854775807) : Calls Tryd.prog 37 #[.int .i64 2, .int .i64 n] w fun e w' => e = .returned (.tuple #[.int .i64 0, .int .u8 0]) ∧ w' = w := by
  have h1 : (((n : Int) % 2) == 0) = false := by simp; omega
  go_enter Tryd.func37, Tryd.ntmps37
  go_wp2
  go_ret2
  exact ⟨rfl, rfl⟩
theorem fill_three (n : Nat) (w : World) (h : n % 2 = 1) (hn : (n : Int) ≤ 9223372036854775807) : Calls Tryd.prog 37 #[.int .i64 3, .int .i64 n] w fun e w' => e = .returned (.tuple #[.int .i64 n, .int .u8 15]) ∧ w' = w := by
  have h1 : (((n : Int) % 2) == 0) = false := by simp; omega
  go_enter Tryd.func37, Tryd.ntmps37
  go_wp2
  go_ret2
  exact ⟨rfl, rfl⟩
theorem ix0 (x y : Value) (w : World) : (Instr.index 64 (.agg #[x, y]) (.int .i64 0)).run Tryd.prog w = .ok x w := by kernel_rfl
theorem ix1 (x y : Value) (w : World) : (Instr.index 64 (.agg #[x, y]) (.int .i64 1)).run Tryd.prog w = .ok y w := by kernel_rfl
theorem isHalf_int (n : Int) (c : UInt8) (h : n = (c.toNat : Int)) (w : World) : Calls Tryd.prog 34 #[.int .u8 n] w fun e w' => e = .returned (.bool (hlf c)) ∧ w' = w := by subst h; exact isHalf_any c w
theorem isDigit_int (n : Int) (c : UInt8) (h : n = (c.toNat : Int)) (w : World) : Calls Tryd.prog 15 #[.int .u8 n] w fun e w' => e = .returned (.bool (dig c)) ∧ w' = w := by subst h; exact isDigit_any c w
end Go.Proofs.YtmgnmkolijaidaaDoor.Spl
