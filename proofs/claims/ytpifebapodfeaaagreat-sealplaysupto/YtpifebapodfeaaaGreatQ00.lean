import Derived.Test.YtpifebapodfeaaaGreatRows
import Derived.WalkKit
import Derived.Laws.BitsAllLaws
import Derived.WalkLawsBesides
import Derived.WalkSpells
import Derived.Laws.ResultCell
import Derived.Below
import Derived.Deep.RegionHeld3
import Derived.Deep.WholeRow
import Derived.WalkSmall
/- Plain facts, of no program: rows of bits, the cipher's tables, one block under a key. -/
namespace Go.Proofs.YtpifebapodfeaaaGreat.Pla
set_option linter.unusedVariables false
open Go.RowKit
/-- a row of bits, the first one lowest, as a number -/
def valR : List Bool → Nat
  | [] => 0
  | b :: l => 2 * valR l + b.toNat
/-- a row of bits, the first one highest, as a number -/
def val (l : List Bool) : Nat := valR l.reverse
theorem valR_bit : ∀ (l : List Bool) (i : Nat), (valR l).testBit i = l.getD i false
  | [], i => by simp [valR]
  | b :: l, 0 => by rw [valR, Nat.testBit_zero]; cases b <;> simp <;> omega
  | b :: l, i + 1 => by
    have e : (2 * valR l + b.toNat) / 2 = valR l := by cases b <;> simp <;> omega
    rw [valR, Nat.testBit_succ, e, valR_bit l i]; simp
theorem valR_lt : ∀ l : List Bool, valR l < 2 ^ l.length
  | [] => by simp [valR]
  | b :: l => by
    have := valR_lt l
    rw [valR, List.length_cons, Nat.pow_succ]
    cases b <;> simp <;> omega
theorem val_lt (l : List Bool) : val l < 2 ^ l.length := by have := valR_lt l.reverse; simpa [val] using this
theorem val_nil : val [] = 0 := rfl
theorem val_snoc (l : List Bool) (b : Bool) : val (l ++ [b]) = 2 * val l + b.toNat := by simp [val, valR]
theorem val_bit (l : List Bool) (i : Nat) : (val l).testBit i = (decide (i < l.length) && l.getD (l.length - 1 - i) false) := by
  rw [val, valR_bit]
  by_cases h : i < l.length
  · rw [decide_eq_true h, Bool.true_and]
    simp only [List.getD_eq_getElem?_getD, List.getElem?_reverse h]
  · rw [decide_eq_false h, Bool.false_and]
    simp only [List.getD_eq_getElem?_getD]
    rw [List.getElem?_eq_none (by simp; omega)]; rfl
theorem valR_append : ∀ (a b : List Bool), valR (a ++ b) = valR a + 2 ^ a.length * valR b
  | [], b => by simp [valR]
  | x :: a, b => by
    rw [List.cons_append, valR, valR_append a b, valR, List.length_cons, Nat.pow_succ, Nat.mul_add, Nat.mul_comm (2 ^ a.length) 2, Nat.mul_assoc]
    omega
theorem val_append (a b : List Bool) : val (a ++ b) = val a * 2 ^ b.length + val b := by
  simp only [val, List.reverse_append, valR_append, List.length_reverse]
  rw [Nat.mul_comm]; omega
theorem valR_inj : ∀ (a b : List Bool), a.length = b.length → valR a = valR b → a = b
  | [], [], _, _ => rfl
  | [], y :: b, h, _ => by simp at h
  | x :: a, [], h, _ => by simp at h
  | x :: a, y :: b, h, e => by
    simp only [valR] at e
    have h1 : valR a = valR b := by cases x <;> cases y <;> simp at e <;> omega
    have h2 : x = y := by cases x <;> cases y <;> simp at e <;> first | rfl | omega
    rw [h2, valR_inj a b (by simpa using h) h1]
theorem val_inj {a b : List Bool} (h : a.length = b.length) (e : val a = val b) : a = b :=
  List.reverse_inj.1 (valR_inj _ _ (by simpa using h) e)
/-- n bits of a number, the highest first -/
def bitsN (n x : Nat) : List Bool := (List.range n).map fun i => x.testBit (n - 1 - i)
theorem bitsN_len (n x : Nat) : (bitsN n x).length = n := by simp [bitsN]
theorem bitsN_get (n x i : Nat) (h : i < n) : (bitsN n x).getD i false = x.testBit (n - 1 - i) := by simp [bitsN, h]
theorem val_bitsN (n x : Nat) (h : x < 2 ^ n) : val (bitsN n x) = x := by
  apply Nat.eq_of_testBit_eq
  intro i
  rw [val_bit, bitsN_len]
  by_cases hi : i < n
  · rw [decide_eq_true hi, Bool.true_and, bitsN_get _ _ _ (by omega)]; congr 1; omega
  · rw [decide_eq_false hi, Bool.false_and, Nat.testBit_lt_two_pow (Nat.lt_of_lt_of_le h (Nat.pow_le_pow_right (by decide) (by omega)))]
theorem bitsN_val (l : List Bool) : bitsN l.length (val l) = l := val_inj (bitsN_len _ _) (val_bitsN _ _ (val_lt l))
/-- the bits that a table takes -/
def tk (t : List Nat) (x : List Bool) : List Bool := t.map fun n => x.getD (n - 1) false
theorem tk_len (t : List Nat) (x : List Bool) : (tk t x).length = t.length := by simp [tk]
def xr (a b : List Bool) : List Bool := List.zipWith Bool.xor a b
theorem xr_len (a b : List Bool) (n : Nat) (ha : a.length = n) (hb : b.length = n) : (xr a b).length = n := by simp [xr, ha, hb]
theorem xr_get (a b : List Bool) (i : Nat) (h : a.length = b.length) : (xr a b).getD i false = Bool.xor (a.getD i false) (b.getD i false) := by
  simp only [xr, List.getD_eq_getElem?_getD, List.getElem?_zipWith]
  by_cases hi : i < a.length
  · rw [List.getElem?_eq_getElem hi, List.getElem?_eq_getElem (h ▸ hi)]; rfl
  · rw [List.getElem?_eq_none (by omega), List.getElem?_eq_none (by omega)]; rfl
theorem val_xr (a b : List Bool) (h : a.length = b.length) : val (xr a b) = val a ^^^ val b := by
  apply Nat.eq_of_testBit_eq
  intro i
  rw [Nat.testBit_xor, val_bit, val_bit, val_bit, xr_len a b b.length h rfl, h, xr_get a b _ h]
  by_cases hi : i < b.length <;> simp [hi]
def rot (l : List Bool) (n : Nat) : List Bool := l.drop n ++ l.take n
def nib (n : Nat) : List Bool := [n.testBit 3, n.testBit 2, n.testBit 1, n.testBit 0]
theorem nib_val : ∀ n, n < 16 → val (nib n) = n := by decide
def tIn : List Nat := [58, 50, 42, 34, 26, 18, 10, 2, 60, 52, 44, 36, 28, 20, 12, 4, 62, 54, 46, 38, 30, 22, 14, 6, 64, 56, 48, 40, 32, 24, 16, 8, 57, 49, 41, 33, 25, 17, 9, 1, 59, 51, 43, 35, 27, 19, 11, 3, 61, 53, 45, 37, 29, 21, 13, 5, 63, 55, 47, 39, 31, 23, 15, 7]
def tOut : List Nat := [40, 8, 48, 16, 56, 24, 64, 32, 39, 7, 47, 15, 55, 23, 63, 31, 38, 6, 46, 14, 54, 22, 62, 30, 37, 5, 45, 13, 53, 21, 61, 29, 36, 4, 44, 12, 52, 20, 60, 28, 35, 3, 43, 11, 51, 19, 59, 27, 34, 2, 42, 10, 50, 18, 58, 26, 33, 1, 41, 9, 49, 17, 57, 25]
def tWide : List Nat := [32, 1, 2, 3, 4, 5, 4, 5, 6, 7, 8, 9, 8, 9, 10, 11, 12, 13, 12, 13, 14, 15, 16, 17, 16, 17, 18, 19, 20, 21, 20, 21, 22, 23, 24, 25, 24, 25, 26, 27, 28, 29, 28, 29, 30, 31, 32, 1]
def tP : List Nat := [16, 7, 20, 21, 29, 12, 28, 17, 1, 15, 23, 26, 5, 18, 31, 10, 2, 8, 24, 14, 32, 27, 3, 9, 19, 13, 30, 6, 22, 11, 4, 25]
def tK1 : List Nat := [57, 49, 41, 33, 25, 17, 9, 1, 58, 50, 42, 34, 26, 18, 10, 2, 59, 51, 43, 35, 27, 19, 11, 3, 60, 52, 44, 36, 63, 55, 47, 39, 31, 23, 15, 7, 62, 54, 46, 38, 30, 22, 14, 6, 61, 53, 45, 37, 29, 21, 13, 5, 28, 20, 12, 4]
def tK2 : List Nat := [14, 17, 11, 24, 1, 5, 3, 28, 15, 6, 21, 10, 23, 19, 12, 4, 26, 8, 16, 7, 27, 20, 13, 2, 41, 52, 31, 37, 47, 55, 30, 40, 51, 45, 33, 48, 44, 49, 39, 56, 34, 53, 46, 42, 50, 36, 29, 32]
/-- the boxes, one behind the other, their rows one behind the other -/
def boxL : List Nat := [14, 4, 13, 1, 2, 15, 11, 8, 3, 10, 6, 12, 5, 9, 0, 7, 0, 15, 7, 4, 14, 2, 13, 1, 10, 6, 12, 11, 9, 5, 3, 8, 4, 1, 14, 8, 13, 6, 2, 11, 15, 12, 9, 7, 3, 10, 5, 0, 15, 12, 8, 2, 4, 9, 1, 7, 5, 11, 3, 14, 10, 0, 6, 13, 15, 1, 8, 14, 6, 11, 3, 4, 9, 7, 2, 13, 12, 0, 5, 10, 3, 13, 4, 7, 15, 2, 8, 14, 12, 0, 1, 10, 6, 9, 11, 5, 0, 14, 7, 11, 10, 4, 13, 1, 5, 8, 12, 6, 9, 3, 2, 15, 13, 8, 10, 1, 3, 15, 4, 2, 11, 6, 7, 12, 0, 5, 14, 9, 10, 0, 9, 14, 6, 3, 15, 5, 1, 13, 12, 7, 11, 4, 2, 8, 13, 7, 0, 9, 3, 4, 6, 10, 2, 8, 5, 14, 12, 11, 15, 1, 13, 6, 4, 9, 8, 15, 3, 0, 11, 1, 2, 12, 5, 10, 14, 7, 1, 10, 13, 0, 6, 9, 8, 7, 4, 15, 14, 3, 11, 5, 2, 12, 7, 13, 14, 3, 0, 6, 9, 10, 1, 2, 8, 5, 11, 12, 4, 15, 13, 8, 11, 5, 6, 15, 0, 3, 4, 7, 2, 12, 1, 10, 14, 9, 10, 6, 9, 0, 12, 11, 7, 13, 15, 1, 3, 14, 5, 2, 8, 4, 3, 15, 0, 6, 10, 1, 13, 8, 9, 4, 5, 11, 12, 7, 2, 14, 2, 12, 4, 1, 7, 10, 11, 6, 8, 5, 3, 15, 13, 0, 14, 9, 14, 11, 2, 12, 4, 7, 13, 1, 5, 0, 15, 10, 3, 9, 8, 6, 4, 2, 1, 11, 10, 13, 7, 8, 15, 9, 12, 5, 6, 3, 0, 14, 11, 8, 12, 7, 1, 14, 2, 13, 6, 15, 0, 9, 10, 4, 5, 3, 12, 1, 10, 15, 9, 2, 6, 8, 0, 13, 3, 4, 14, 7, 5, 11, 10, 15, 4, 2, 7, 12, 9, 5, 6, 1, 13, 14, 0, 11, 3, 8, 9, 14, 15, 5, 2, 8, 12, 3, 7, 0, 4, 10, 1, 13, 11, 6, 4, 3, 2, 12, 9, 5, 15, 10, 11, 14, 1, 7, 6, 0, 8, 13, 4, 11, 2, 14, 15, 0, 8, 13, 3, 12, 9, 7, 5, 10, 6, 1, 13, 0, 11, 7, 4, 9, 1, 10, 14, 3, 5, 12, 2, 15, 8, 6, 1, 4, 11, 13, 12, 3, 7, 14, 10, 15, 6, 8, 0, 5, 9, 2, 6, 11, 13, 8, 1, 4, 10, 7, 9, 5, 0, 15, 14, 2, 3, 12, 13, 2, 8, 4, 6, 15, 11, 1, 10, 9, 3, 14, 5, 0, 12, 7, 1, 15, 13, 8, 10, 3, 7, 4, 12, 5, 6, 11, 0, 14, 9, 2, 7, 11, 4, 1, 9, 12, 14, 2, 0, 6, 10, 13, 15, 3, 5, 8, 2, 1, 14, 7, 4, 10, 8, 13, 15, 12, 9, 0, 3, 5, 6, 11]
def grp (x : List Bool) (i : Nat) : List Bool := (x.drop (6 * i)).take 6
/-- what the box i has for six bits -/
def six (i : Nat) (g : Nat) : Nat := boxL.getD (64 * i + 16 * (2 * (g / 32 % 2) + g % 2) + g / 2 % 16) 0
def mixB (r k : List Bool) : List Bool := (List.range 8).flatMap fun i => nib (six i (val (grp (xr (tk tWide r) k) i)))
/-- F of the chapter -/
def mix (r k : List Bool) : List Bool := tk tP (mixB r k)
def rnd (s : List Bool × List Bool) (k : List Bool) : List Bool × List Bool := (s.2, xr s.1 (mix s.2 k))
def des (ks : List (List Bool)) (x : List Bool) : List Bool :=
  tk tOut ((ks.foldl rnd ((tk tIn x).take 32, (tk tIn x).drop 32)).2 ++ (ks.foldl rnd ((tk tIn x).take 32, (tk tIn x).drop 32)).1)
def turns (r : Nat) : Nat := if r = 1 ∨ r = 2 ∨ r = 9 ∨ r = 16 then 1 else 2
/-- the two halves of a key behind n rounds -/
def hlv (key : List Bool) : Nat → List Bool × List Bool
  | 0 => ((tk tK1 key).take 28, (tk tK1 key).drop 28)
  | n + 1 => (rot (hlv key n).1 (turns (n + 1)), rot (hlv key n).2 (turns (n + 1)))
def rk (key : List Bool) (n : Nat) : List Bool := tk tK2 ((hlv key (n + 1)).1 ++ (hlv key (n + 1)).2)
def sched (key : List Bool) : List (List Bool) := (List.range 16).map (rk key)
theorem rot_len (l : List Bool) (n : Nat) (h : n ≤ l.length) : (rot l n).length = l.length := by simp [rot]; omega
theorem turns_le (r : Nat) : turns r ≤ 2 := by unfold turns; split <;> omega
theorem turns_pos (r : Nat) : 1 ≤ turns r := by unfold turns; split <;> omega
theorem hlv_len (key : List Bool) : ∀ n, (hlv key n).1.length = 28 ∧ (hlv key n).2.length = 28
  | 0 => by simp [hlv, tk_len, show tK1.length = 56 by decide]
  | n + 1 => by
    have h := hlv_len key n
    have t := turns_le (n + 1)
    simp only [hlv]
    exact ⟨by rw [rot_len _ _ (by omega)]; exact h.1, by rw [rot_len _ _ (by omega)]; exact h.2⟩
theorem rk_len (key : List Bool) (n : Nat) : (rk key n).length = 48 := by rw [rk, tk_len]; decide
theorem mixB_len (r k : List Bool) : (mixB r k).length = 32 := by simp [mixB, nib]; decide
theorem mix_len (r k : List Bool) : (mix r k).length = 32 := by rw [mix, tk_len]; decide
theorem rnd_len (s : List Bool × List Bool) (k : List Bool) (h : s.1.length = 32 ∧ s.2.length = 32) : (rnd s k).1.length = 32 ∧ (rnd s k).2.length = 32 :=
  ⟨h.2, xr_len _ _ _ h.1 (mix_len _ _)⟩
theorem rnds_len : ∀ (ks : List (List Bool)) (s : List Bool × List Bool), s.1.length = 32 ∧ s.2.length = 32 → (ks.foldl rnd s).1.length = 32 ∧ (ks.foldl rnd s).2.length = 32
  | [], s, h => h
  | k :: ks, s, h => rnds_len ks _ (rnd_len s k h)
theorem des_len (ks : List (List Bool)) (x : List Bool) : (des ks x).length = 64 := by rw [des, tk_len]; decide
/-- bytes as bits -/
def bitsS (l : List UInt8) : List Bool := l.flatMap fun c => bitsN 8 c.toNat
theorem bitsS_len (l : List UInt8) : (bitsS l).length = 8 * l.length := by
  induction l with
  | nil => rfl
  | cons c l ih => simp only [bitsS, List.flatMap_cons, List.length_append, bitsN_len, List.length_cons] at ih ⊢; omega
def pt (k : List UInt8) (i : Nat) : List UInt8 := (k.drop (8 * i)).take 8
def sc (k : List UInt8) (i : Nat) : List (List Bool) := sched (bitsS (pt k i))
/-- the part that encrypts last -/
def lst (k : List UInt8) : Nat := if k.length = 16 then 0 else 2
/-- one block under a whole key, and back -/
def enc (k : List UInt8) (x : List Bool) : List Bool := if k.length = 8 then des (sc k 0) x else des (sc k (lst k)) (des (sc k 1).reverse (des (sc k 0) x))
def dec (k : List UInt8) (x : List Bool) : List Bool := if k.length = 8 then des (sc k 0).reverse x else des (sc k 0).reverse (des (sc k 1) (des (sc k (lst k)).reverse x))
theorem enc_len (k : List UInt8) (x : List Bool) : (enc k x).length = 64 := by unfold enc; split <;> exact des_len _ _
theorem dec_len (k : List UInt8) (x : List Bool) : (dec k x).length = 64 := by unfold dec; split <;> exact des_len _ _
/-- 64 bits as bytes -/
def byW (w : List Bool) : List UInt8 := (List.range 8).map fun j => UInt8.ofNat (val ((w.drop (8 * j)).take 8))
theorem byW_len (w : List Bool) : (byW w).length = 8 := by simp [byW]
/-- the block i of a text, as bits -/
def blk (s : List UInt8) (i : Nat) : List Bool := bitsS (pt s i)
end Go.Proofs.YtpifebapodfeaaaGreat.Pla
/- Rows of cells and worlds: what the contracts share. -/
namespace Go.Proofs.YtpifebapodfeaaaGreat.Cb
set_option linter.unusedVariables false
open Go.RowKit Pla
theorem below_one (w : World) (a : Obj) : Below w.heap.size w (w.alloc a) := (Below.refl _ w).alloc (Nat.le_refl _) _
theorem below_two (w : World) (a b : Obj) : Below w.heap.size w ((w.alloc a).alloc b) := ((Below.refl _ w).alloc (Nat.le_refl _) _).alloc (by simp) _
theorem below_three (w : World) (a b c : Obj) : Below w.heap.size w (((w.alloc a).alloc b).alloc c) := (below_two w a b).alloc (by simp; omega) _
theorem keepB {a y x : World} (h : Below a.heap.size a y) (k : Below y.heap.size y x) : Below a.heap.size a x := h.trans (k.mono h.size)
theorem keepC {a x : World} {p : Addr} {v : Value} (h : Below a.heap.size a x) (k : a.cell? p = some v) (hp : p.block < a.heap.size) : x.cell? p = some v := (h.cell hp).trans k
theorem held2 {a x : World} {b : Nat} {u v : Value} {t : TypeId} (h : Below a.heap.size a x) (hb : a.heap[b]? = some (Obj.cells #[u, v] t)) :
    x.cell? ⟨b, 0, none⟩ = some u ∧ x.cell? ⟨b, 1, none⟩ = some v ∧ x.frozen? ⟨b, 0, none⟩ = false ∧ x.frozen? ⟨b, 1, none⟩ = false := by
  have hx : x.heap[b]? = some (Obj.cells #[u, v] t) := (h.block b (Array.getElem?_eq_some_iff.1 hb).1).trans hb
  refine ⟨?_, ?_, ?_, ?_⟩ <;> simp [World.cell?, World.frozen?, hx]
theorem kept {a x : World} {b : Nat} {o : Obj} (h : Below a.heap.size a x) (hb : a.heap[b]? = some o) : x.heap[b]? = some o := (h.block b (Array.getElem?_eq_some_iff.1 hb).1).trans hb
theorem held2a {a x : World} {b : Nat} {u v : Value} {t : TypeId} (h : Below a.heap.size a x) (hb : a.heap[b]? = some (Obj.cells #[u, v] t)) (o : Obj) :
    (x.alloc o).cell? ⟨b, 0, none⟩ = some u ∧ (x.alloc o).cell? ⟨b, 1, none⟩ = some v ∧ (x.alloc o).frozen? ⟨b, 0, none⟩ = false ∧ (x.alloc o).frozen? ⟨b, 1, none⟩ = false :=
  held2 (h.alloc h.size o) hb
theorem h1_0 (w : World) (a : Obj) : (w.alloc a).heap[w.heap.size]? = some a := by
  show (w.heap.push a)[w.heap.size]? = some a
  simp
theorem h2_0 (w : World) (a b : Obj) : ((w.alloc a).alloc b).heap[w.heap.size]? = some a := (Below.heap_alloc _ b _ (by simp)).trans (h1_0 w a)
theorem h2_1 (w : World) (a b : Obj) : ((w.alloc a).alloc b).heap[w.heap.size + 1]? = some b := by
  have := h1_0 (w.alloc a) b
  rwa [World.size_alloc] at this
theorem h3_0 (w : World) (a b c : Obj) : (((w.alloc a).alloc b).alloc c).heap[w.heap.size]? = some a := (Below.heap_alloc _ c _ (by simp; omega)).trans (h2_0 w a b)
theorem h3_1 (w : World) (a b c : Obj) : (((w.alloc a).alloc b).alloc c).heap[w.heap.size + 1]? = some b := (Below.heap_alloc _ c _ (by simp)).trans (h2_1 w a b)
theorem h3_2 (w : World) (a b c : Obj) : (((w.alloc a).alloc b).alloc c).heap[w.heap.size + 1 + 1]? = some c := by
  have := h1_0 ((w.alloc a).alloc b) c
  rwa [World.size_alloc, World.size_alloc] at this
theorem setRow_at {w : World} {g : Nat} {c : Array Value} {t : TypeId} {fr : Nat × Nat} (h : w.heap[g]? = some (.cells c t fr)) (c' : Array Value) : (w.setRow g c').heap[g]? = some (.cells c' t fr) := by
  show (w.heap.modify g _)[g]? = _
  rw [Array.getElem?_modify]; simp [h]
theorem setRow_ne {w : World} {g k : Nat} (h : g ≠ k) (c' : Array Value) : (w.setRow g c').heap[k]? = w.heap[k]? := by
  show (w.heap.modify g _)[k]? = _
  rw [Array.getElem?_modify]; simp [h]
theorem below_setRow {B : Nat} {a w : World} (h : Below B a w) {g : Nat} (hg : B ≤ g) (c' : Array Value) : Below B a (w.setRow g c') :=
  ⟨h.os, h.tape, h.output, by have := h.size; simpa [World.setRow] using this, fun k hk => (setRow_ne (by omega) c').trans (h.block k hk)⟩
/-- n bytes as cells -/
def byC (n : Nat) (v : Nat → Nat) : Array Value := ((List.range n).map fun i => Value.int .u8 ((v i : Nat) : Int)).toArray
theorem byC_size (n : Nat) (v : Nat → Nat) : (byC n v).size = n := by simp [byC]
theorem byC_get (n : Nat) (v : Nat → Nat) (i : Nat) (h : i < n) : (byC n v)[i]? = some (.int .u8 ((v i : Nat) : Int)) := by simp [byC, h]
def updN (v : Nat → Nat) (k b : Nat) : Nat → Nat := fun i => if i = k then b else v i
theorem byC_set (n : Nat) (v : Nat → Nat) (k b : Nat) (h : k < n) : (byC n v).setIfInBounds k (.int .u8 (b : Int)) = byC n (updN v k b) := by
  apply Array.ext_getElem?
  intro i
  by_cases hi : i < n
  · rw [byC_get _ _ _ hi, Array.getElem?_setIfInBounds]
    by_cases e : k = i
    · subst e; simp [updN, byC_size, h]
    · rw [if_neg e, byC_get _ _ _ hi, updN, if_neg (fun x => e x.symm)]
  · rw [Array.getElem?_eq_none (by simp [byC_size]; omega), Array.getElem?_eq_none (by simp [byC_size]; omega)]
theorem byC_ext {n : Nat} {v u : Nat → Nat} (h : ∀ i, i < n → v i = u i) : byC n v = byC n u := by
  simp only [byC]; congr 1
  apply List.map_congr_left
  intro i hi
  rw [h i (List.mem_range.1 hi)]
theorem byC_one (n : Nat) (v : Nat → Nat) : (byC n v).all (·.oneCell') = true := by
  simp only [byC, List.all_toArray, List.all_eq_true, List.mem_map, List.mem_range]
  rintro x ⟨i, _, rfl⟩; rfl
theorem below_drewN {B : Nat} {a w : World} (h : Below B a w) : ∀ n, Below B a (w.drewN n)
  | 0 => h
  | n + 1 => (below_drewN h n).drew
theorem toNat_lt (b : UInt8) : (b.toNat : Int) < 256 := by have := b.toNat_lt; omega
/-- a table's cells -/
def tabC (l : List Nat) : Array Value := (l.map fun n : Nat => Value.int .u8 ((n : Nat) : Int)).toArray
theorem tabC_size (l : List Nat) : (tabC l).size = l.length := by simp [tabC]
theorem tabC_get (l : List Nat) (i : Nat) (h : i < l.length) : (tabC l)[i]? = some (.int .u8 ((l[i] : Nat) : Int)) := by simp [tabC, h]
end Go.Proofs.YtpifebapodfeaaaGreat.Cb
/- take, inGroups, the tables. -/
namespace Go.Proofs.YtpifebapodfeaaaGreat.Tk
set_option linter.unusedVariables false
open Go.RowKit Pla Cb
theorem step_bit (a b : Nat) (ha : a < 9223372036854775808) (hb : b < 2) : bits .or .u64 ((a : Int) * 2) (b : Int) = ((2 * a + b : Nat) : Int) := by
  have h := u64_or_nat (2 * a) b (by omega) (by omega)
  have e : 2 * a ||| b = 2 * a + b := by
    have := @Nat.two_pow_add_eq_or_of_lt 1 b hb a
    exact this.symm
  rw [e] at h
  rw [← h]
  congr 1
  simp; omega
theorem one_bit (x : List Bool) (W n : Nat) (hW : x.length = W) (hW2 : W ≤ 64) (h1 : 1 ≤ n) (h2 : n ≤ W) : bits .and .u64 ((val x : Int) / 2 ^ (W - n)) 1 = (((x.getD (n - 1) false).toNat : Nat) : Int) := by
  have lt := val_lt x
  have p : 2 ^ x.length ≤ 2 ^ 64 := Nat.pow_le_pow_right (by decide) (by omega)
  have e : ((val x : Int) / 2 ^ (W - n)) = ((val x / 2 ^ (W - n) : Nat) : Int) := by simp
  have lt2 : val x / 2 ^ (W - n) < 18446744073709551616 := Nat.lt_of_le_of_lt (Nat.div_le_self _ _) (Nat.lt_of_lt_of_le lt p)
  have h := u64_and_nat (val x / 2 ^ (W - n)) 1 lt2 (by decide)
  rw [nat_mask1] at h
  rw [e]
  refine h.trans ?_
  have b := val_bit x (W - n)
  rw [Nat.testBit_eq_decide_div_mod_eq, decide_eq_true (show W - n < x.length by omega), Bool.true_and, show x.length - 1 - (W - n) = n - 1 by omega] at b
  rw [← b]
  have : val x / 2 ^ (W - n) % 2 < 2 := Nat.mod_lt _ (by decide)
  by_cases c : val x / 2 ^ (W - n) % 2 = 1
  · rw [c]; rfl
  · rw [show val x / 2 ^ (W - n) % 2 = 0 by omega]; rfl
theorem tk_snoc (l : List Nat) (x : List Bool) (j : Nat) (h : j < l.length) : val (tk (l.take (j + 1)) x) = 2 * val (tk (l.take j) x) + (x.getD (l[j] - 1) false).toNat := by
  rw [List.take_succ_eq_append_getElem h, tk, List.map_append, List.map_cons, List.map_nil, val_snoc]; rfl
set_option maxRecDepth 100000 in
set_option maxHeartbeats 1600000 in
theorem take_any (x : List Bool) (l : List Nat) (W L g : Nat) (fr : Nat × Nat) (hW : Hid (x.length = W)) (hL : Hid (l.length = L)) (w : World) (hg : w.heap[g]? = some (.cells (tabC l) 5 fr)) (hl : ∀ n ∈ l, 1 ≤ n ∧ n ≤ W) (hW2 : W ≤ 64) (hL2 : L ≤ 64) :
    Calls Tryz.prog 86 #[.int .u64 (val x : Int), .int .i64 (W : Int), .slice (some ⟨g, 0, none⟩) L L] w fun e w' => e = .returned (.int .u64 (val (tk l x) : Int)) ∧ w' = w := by
  go_enter Tryz.func86, Tryz.ntmps86
  go_wp2
  go_loopw [7, 9, 12] (fun a v c wr => ∃ j : Nat, j ≤ L ∧ c = .int .i64 (j : Int) ∧ a = .int .u64 (val (tk (l.take j) x) : Int) ∧ wr = w) (fun _ _ c _ => L + 1 - (intOf c).toNat)
  case atStart => exact ⟨0, by omega, rfl, rfl, rfl⟩
  case round =>
    obtain ⟨j, hj, rfl, rfl, rfl⟩ := hrel
    by_cases hj2 : j < L
    · have hjl : j < l.length := by rw [hL.out]; exact hj2
      have q : (j : Int) < (L : Int) := by omega
      have q0 : (0 : Int) ≤ (j : Int) := by omega
      have hn := hl l[j] (List.getElem_mem hjl)
      have k0 : wr.cell? ⟨g, j, none⟩ = some (.int .u8 ((l[j] : Nat) : Int)) := by rw [cell_of_row wr g j _ _ fr hg]; exact tabC_get l j hjl
      have HE : Hid (val (tk (l.take (j + 1)) x) = 2 * val (tk (l.take j) x) + (x.getD (l[j] - 1) false).toNat) := tk_snoc l x j hjl
      have u1 := one_bit x W l[j] hW.out hW2 hn.1 hn.2
      have lt : val (tk (l.take j) x) < 9223372036854775808 := Nat.lt_of_lt_of_le (val_lt _) (by rw [tk_len]; exact Nat.pow_le_pow_right (n := 2) (by decide) (show (l.take j).length ≤ 63 by simp; omega))
      have hb : (x.getD (l[j] - 1) false).toNat < 2 := by cases x.getD (l[j] - 1) false <;> decide
      have u2 := step_bit (val (tk (l.take j) x)) (x.getD (l[j] - 1) false).toNat lt hb
      have i1 : (val (tk (l.take j) x) : Int) ≤ 9223372036854775807 := by omega
      generalize (x.getD (l[j] - 1) false).toNat = b at *
      generalize val (tk (l.take j) x) = a at *
      generalize hm : l[j] = m at *
      have i2 : (1 : Int) ≤ (m : Int) := by omega
      have i3 : (m : Int) ≤ (W : Int) := by omega
      have i4 : (W : Int) ≤ 64 := by omega
      have i5 : (m : Int) ≤ 64 := by omega
      have t1 : ((W : Int) - (m : Int)).toNat = W - m := by omega
      clear hL hl hm hW hn lt hb hg
      go_wp2
      refine ⟨⟨j + 1, by omega, by simp, by rw [HE.out]; simp, trivial⟩, ?_⟩
      simp only [intOf]; omega
    · obtain rfl : j = L := by omega
      have e : l.take j = l := List.take_of_length_le (by rw [hL.out]; exact Nat.le_refl _)
      rw [e]
      clear hL hl hW hg e
      go_wp2
      go_ret
      exact ⟨rfl, rfl⟩
theorem z45 : (Tryz.prog.info? 111).map (fun i => (i.zero, i.size)) = some (some (.agg (byC 8 fun _ => 0)), 8) := by kernel_rfl
theorem h45 (v : Nat → Nat) : (Tryz.prog.info? 111).map (·.size) = some (byC 8 v).size := by rw [byC_size]; kernel_rfl
def up (v : Nat → Nat) (j : Nat) : Nat → Nat := fun i => if i < j then v i else 0
theorem up_step (n : Nat) (v : Nat → Nat) (j : Nat) (hj : j < n) : (byC n (up v j)).setIfInBounds j (.int .u8 ((v j : Nat) : Int)) = byC n (up v (j + 1)) := by
  rw [byC_set _ _ _ _ hj]
  refine byC_ext fun i hi => ?_
  simp only [updN, up]
  by_cases e : i = j
  · subst e; simp
  · by_cases e2 : i < j
    · simp [e, e2, show i < j + 1 by omega]
    · simp [e, e2, show ¬ i < j + 1 by omega]
theorem up_zero (n : Nat) (v : Nat → Nat) : byC n (fun _ => 0) = byC n (up v 0) := byC_ext fun i hi => by simp [up]
theorem up_all (n : Nat) (v : Nat → Nat) : byC n (up v n) = byC n v := byC_ext fun i hi => by simp [up, hi]
theorem grp_len (x : List Bool) (j : Nat) (hx : x.length = 48) (hj : j < 8) : (grp x j).length = 6 := by simp [grp, hx]; omega
theorem grp_val (x : List Bool) (j : Nat) (hx : x.length = 48) (hj : j < 8) : val (grp x j) = val x / 2 ^ (6 * (7 - j)) % 64 := by
  have e : x = x.take (6 * j) ++ (grp x j ++ x.drop (6 * j + 6)) := by
    rw [grp, ← List.drop_drop, List.take_append_drop, List.take_append_drop]
  have l1 : (x.drop (6 * j + 6)).length = 6 * (7 - j) := by simp [hx]; omega
  have l2 := grp_len x j hx hj
  have v1 := val_lt (x.drop (6 * j + 6))
  have v2 := val_lt (grp x j)
  rw [l1] at v1
  rw [l2] at v2
  have e2 : val x = (val (x.take (6 * j)) * 64 + val (grp x j)) * 2 ^ (6 * (7 - j)) + val (x.drop (6 * j + 6)) := by
    conv => lhs; rw [e]
    rw [← List.append_assoc, val_append, val_append, l1, l2]
  rw [e2]
  have p : 0 < 2 ^ (6 * (7 - j)) := Nat.pow_pos (by decide)
  rw [Nat.mul_comm _ (2 ^ (6 * (7 - j))), Nat.mul_add_div p, Nat.div_eq_of_lt v1]
  omega
set_option maxRecDepth 100000 in
set_option maxHeartbeats 1600000 in
theorem inG (R : Nat) (v : Nat → Nat) (hv : Hid (∀ j, j < 8 → v j = R / 2 ^ (6 * (7 - j)) % 64)) (lt : R < 281474976710656) (w : World) :
    Calls Tryz.prog 90 #[.int .u64 (R : Int)] w fun e w' => e = .returned (.agg (byC 8 v)) ∧ Below w.heap.size w w' := by
  have hz := (zero_of_info z45).1
  rw [← up_all 8]
  have e0 := up_zero 8 v
  have i1 : (R : Int) < 281474976710656 := by omega
  go_enter Tryz.func90, Tryz.ntmps90
  go_wp2_with fail
  go_loopw [4, 5] (fun i c wr => ∃ j : Nat, j ≤ 8 ∧ c = .int .i64 (j : Int) ∧ wr = (w.alloc (Obj.cells (byC 8 (up v 0)) 111)).alloc (Obj.cells (byC 8 (up v j)) 111)) (fun _ c _ => 9 - (intOf c).toNat)
  case atStart => exact ⟨0, by omega, rfl, rfl⟩
  case round =>
    obtain ⟨j, hj, rfl, rfl⟩ := hrel
    by_cases hj2 : j < 8
    · have q : (j : Int) < 8 := by omega
      have q0 : (0 : Int) ≤ (j : Int) := by omega
      have k1 := byC_get 8 (up v j) j hj2
      have HN : Hid ((byC 8 (up v j)).setIfInBounds j (.int .u8 ((v j : Nat) : Int)) = byC 8 (up v (j + 1))) := up_step 8 v j hj2
      have u1 : bits .and .u64 ((R : Int) / 2 ^ (6 * (7 - j))) 63 % 256 = ((v j : Nat) : Int) := by
        rw [hv.out j hj2]
        have h := u64_and_nat (R / 2 ^ (6 * (7 - j))) 63 (Nat.lt_of_le_of_lt (Nat.div_le_self _ _) (by omega)) (by decide)
        rw [nat_mask6] at h
        have e : ((R : Int) / 2 ^ (6 * (7 - j))) = ((R / 2 ^ (6 * (7 - j)) : Nat) : Int) := by simp
        rw [e]
        have h' : bits .and .u64 ((R / 2 ^ (6 * (7 - j)) : Nat) : Int) 63 = ((R / 2 ^ (6 * (7 - j)) % 64 : Nat) : Int) := h
        rw [h']; omega
      clear e0 hv
      go_wp2
      refine ⟨⟨j + 1, by omega, by simp, by rw [HN.out]⟩, ?_⟩
      simp only [intOf]; omega
    · obtain rfl : j = 8 := by omega
      have g1 := h2_1 w (Obj.cells (byC 8 (up v 0)) 111) (Obj.cells (byC 8 (up v 8)) 111)
      have g0 := h2_0 w (Obj.cells (byC 8 (up v 0)) 111) (Obj.cells (byC 8 (up v 8)) 111)
      have b0 := below_two w (Obj.cells (byC 8 (up v 0)) 111) (Obj.cells (byC 8 (up v 8)) 111)
      go_wp2_with (first
        | (refine wpList_load_row rfl 111 _ rfl (w.heap.size + 1) rfl _ _ _ _ g1 Tryz.underlying111 rfl (h45 _) ?_)
        | (refine wpList_store_row rfl 111 _ _ rfl w.heap.size _ rfl rfl _ _ g0 (h45 _) (by rw [byC_size, byC_size]) (byC_one _ _) ?_))
      exact bodyPost_ret (v := .agg (byC 8 (up v 8))) (results_cell_row rfl _ _ w.heap.size _ _ _ _ rfl (setRow_at g0 _) Tryz.underlying111 rfl (h45 _)) rfl ⟨rfl, below_setRow b0 (Nat.le_refl _) _⟩
theorem inGroups_any (x : List Bool) (hx : Hid (x.length = 48)) (w : World) :
    Calls Tryz.prog 90 #[.int .u64 (val x : Int)] w fun e w' => e = .returned (.agg (byC 8 fun j => val (grp x j))) ∧ Below w.heap.size w w' :=
  inG (val x) _ (fun j hj => grp_val x j hx.out hj : ∀ j, j < 8 → val (grp x j) = val x / 2 ^ (6 * (7 - j)) % 64) (by have := val_lt x; rw [hx.out] at this; exact this) w
end Go.Proofs.YtpifebapodfeaaaGreat.Tk
/- The tables. -/
namespace Go.Proofs.YtpifebapodfeaaaGreat.Tb
set_option linter.unusedVariables false
open Go.RowKit Pla Cb
theorem tabIn_any (w : World) : Calls Tryz.prog 95 #[] w fun e w' => e = .returned (.slice (some ⟨w.heap.size, 0, none⟩) 64 64) ∧ w' = w.alloc (Obj.cells (tabC tIn) 5) := by
  go_enter Tryz.func95, Tryz.ntmps95
  go_wp2
  go_ret
  exact ⟨rfl, rfl⟩
theorem tabOut_any (w : World) : Calls Tryz.prog 97 #[] w fun e w' => e = .returned (.slice (some ⟨w.heap.size, 0, none⟩) 64 64) ∧ w' = w.alloc (Obj.cells (tabC tOut) 5) := by
  go_enter Tryz.func97, Tryz.ntmps97
  go_wp2
  go_ret
  exact ⟨rfl, rfl⟩
theorem tabWide_any (w : World) : Calls Tryz.prog 108 #[] w fun e w' => e = .returned (.slice (some ⟨w.heap.size, 0, none⟩) 48 48) ∧ w' = w.alloc (Obj.cells (tabC tWide) 5) := by
  go_enter Tryz.func108, Tryz.ntmps108
  go_wp2
  go_ret
  exact ⟨rfl, rfl⟩
theorem tabP_any (w : World) : Calls Tryz.prog 110 #[] w fun e w' => e = .returned (.slice (some ⟨w.heap.size, 0, none⟩) 32 32) ∧ w' = w.alloc (Obj.cells (tabC tP) 5) := by
  go_enter Tryz.func110, Tryz.ntmps110
  go_wp2
  go_ret
  exact ⟨rfl, rfl⟩
theorem tabK1_any (w : World) : Calls Tryz.prog 87 #[] w fun e w' => e = .returned (.slice (some ⟨w.heap.size, 0, none⟩) 56 56) ∧ w' = w.alloc (Obj.cells (tabC tK1) 5) := by
  go_enter Tryz.func87, Tryz.ntmps87
  go_wp2
  go_ret
  exact ⟨rfl, rfl⟩
theorem tabK2_any (w : World) : Calls Tryz.prog 92 #[] w fun e w' => e = .returned (.slice (some ⟨w.heap.size, 0, none⟩) 48 48) ∧ w' = w.alloc (Obj.cells (tabC tK2) 5) := by
  go_enter Tryz.func92, Tryz.ntmps92
  go_wp2
  go_ret
  exact ⟨rfl, rfl⟩
end Go.Proofs.YtpifebapodfeaaaGreat.Tb
