import Derived.Test.YtciblmdpngnakaaRows
import Derived.WalkKit
import Derived.Laws.BitsAllLaws
import Derived.WalkLawsBesides
import Derived.WalkSpells
import Derived.Laws.ResultCell
import Derived.Below
import Derived.Deep.RegionHeld3
import Derived.Deep.WholeRow
import Derived.WalkSmall
/- Plain facts, of no program: rows of bits, the cipher's tables, one block under a key. -/
namespace Go.Proofs.Ytciblmdpngnakaa.Pla
set_option linter.unusedVariables false
open Go.RowKit
/-- a row of bits, the first one lowest, as a number -/
def valR : List Bool → Nat
  | [] => 0
  | b :: l => 2 * valR l + b.toNat
/-- a row of bits, the first one highest, as a number -/
def val (l : List Bool) : Nat := valR l.reverse
theorem valR_bit : ∀ (l : List Bool) (i : Nat), (valR l).testBit i = l.getD i false
  | [], i => by simp [valR]
  | b :: l, 0 => by rw [valR, Nat.testBit_zero]; cases b <;> simp <;> omega
  | b :: l, i + 1 => by
    have e : (2 * valR l + b.toNat) / 2 = valR l := by cases b <;> simp <;> omega
    rw [valR, Nat.testBit_succ, e, valR_bit l i]; simp
theorem valR_lt : ∀ l : List Bool, valR l < 2 ^ l.length
  | [] => by simp [valR]
  | b :: l => by
    have := valR_lt l
    rw [valR, List.length_cons, Nat.pow_succ]
    cases b <;> simp <;> omega
theorem val_lt (l : List Bool) : val l < 2 ^ l.length := by have := valR_lt l.reverse; simpa [val] using this
theorem val_nil : val [] = 0 := rfl
theorem val_snoc (l : List Bool) (b : Bool) : val (l ++ [b]) = 2 * val l + b.toNat := by simp [val, valR]
theorem val_bit (l : List Bool) (i : Nat) : (val l).testBit i = (decide (i < l.length) && l.getD (l.length - 1 - i) false) := by
  rw [val, valR_bit]
  by_cases h : i < l.length
  · rw [decide_eq_true h, Bool.true_and]
    simp only [List.getD_eq_getElem?_getD, List.getElem?_reverse h]
  · rw [decide_eq_false h, Bool.false_and]
    simp only [List.getD_eq_getElem?_getD]
    rw [List.getElem?_eq_none (by simp; omega)]; rfl
theorem valR_append : ∀ (a b : List Bool), valR (a ++ b) = valR a + 2 ^ a.length * valR b
  | [], b => by simp [valR]
  | x :: a, b => by
    rw [List.cons_append, valR, valR_append a b, valR, List.length_cons, Nat.pow_succ, Nat.mul_add, Nat.mul_comm (2 ^ a.length) 2, Nat.mul_assoc]
    omega
theorem val_append (a b : List Bool) : val (a ++ b) = val a * 2 ^ b.length + val b := by
  simp only [val, List.reverse_append, valR_append, List.length_reverse]
  rw [Nat.mul_comm]; omega
theorem valR_inj : ∀ (a b : List Bool), a.length = b.length → valR a = valR b → a = b
  | [], [], _, _ => rfl
  | [], y :: b, h, _ => by simp at h
  | x :: a, [], h, _ => by simp at h
  | x :: a, y :: b, h, e => by
    simp only [valR] at e
    have h1 : valR a = valR b := by cases x <;> cases y <;> simp at e <;> omega
    have h2 : x = y := by cases x <;> cases y <;> simp at e <;> first | rfl | omega
    rw [h2, valR_inj a b (by simpa using h) h1]
theorem val_inj {a b : List Bool} (h : a.length = b.length) (e : val a = val b) : a = b :=
  List.reverse_inj.1 (valR_inj _ _ (by simpa using h) e)
/-- n bits of a number, the highest first -/
def bitsN (n x : Nat) : List Bool := (List.range n).map fun i => x.testBit (n - 1 - i)
theorem bitsN_len (n x : Nat) : (bitsN n x).length = n := by simp [bitsN]
theorem bitsN_get (n x i : Nat) (h : i < n) : (bitsN n x).getD i false = x.testBit (n - 1 - i) := by simp [bitsN, h]
theorem val_bitsN (n x : Nat) (h : x < 2 ^ n) : val (bitsN n x) = x := by
  apply Nat.eq_of_testBit_eq
  intro i
  rw [val_bit, bitsN_len]
  by_cases hi : i < n
  · rw [decide_eq_true hi, Bool.true_and, bitsN_get _ _ _ (by omega)]; congr 1; omega
  · rw [decide_eq_false hi, Bool.false_and, Nat.testBit_lt_two_pow (Nat.lt_of_lt_of_le h (Nat.pow_le_pow_right (by decide) (by omega)))]
theorem bitsN_val (l : List Bool) : bitsN l.length (val l) = l := val_inj (bitsN_len _ _) (val_bitsN _ _ (val_lt l))
/-- the bits that a table takes -/
def tk (t : List Nat) (x : List Bool) : List Bool := t.map fun n => x.getD (n - 1) false
theorem tk_len (t : List Nat) (x : List Bool) : (tk t x).length = t.length := by simp [tk]
def xr (a b : List Bool) : List Bool := List.zipWith Bool.xor a b
theorem xr_len (a b : List Bool) (n : Nat) (ha : a.length = n) (hb : b.length = n) : (xr a b).length = n := by simp [xr, ha, hb]
theorem xr_get (a b : List Bool) (i : Nat) (h : a.length = b.length) : (xr a b).getD i false = Bool.xor (a.getD i false) (b.getD i false) := by
  simp only [xr, List.getD_eq_getElem?_getD, List.getElem?_zipWith]
  by_cases hi : i < a.length
  · rw [List.getElem?_eq_getElem hi, List.getElem?_eq_getElem (h ▸ hi)]; rfl
  · rw [List.getElem?_eq_none (by omega), List.getElem?_eq_none (by omega)]; rfl
theorem val_xr (a b : List Bool) (h : a.length = b.length) : val (xr a b) = val a ^^^ val b := by
  apply Nat.eq_of_testBit_eq
  intro i
  rw [Nat.testBit_xor, val_bit, val_bit, val_bit, xr_len a b b.length h rfl, h, xr_get a b _ h]
  by_cases hi : i < b.length <;> simp [hi]
def rot (l : List Bool) (n : Nat) : List Bool := l.drop n ++ l.take n
def nib (n : Nat) : List Bool := [n.testBit 3, n.testBit 2, n.testBit 1, n.testBit 0]
theorem nib_val : ∀ n, n < 16 → val (nib n) = n := by decide
def tIn : List Nat := [58, 50, 42, 34, 26, 18, 10, 2, 60, 52, 44, 36, 28, 20, 12, 4, 62, 54, 46, 38, 30, 22, 14, 6, 64, 56, 48, 40, 32, 24, 16, 8, 57, 49, 41, 33, 25, 17, 9, 1, 59, 51, 43, 35, 27, 19, 11, 3, 61, 53, 45, 37, 29, 21, 13, 5, 63, 55, 47, 39, 31, 23, 15, 7]
def tOut : List Nat := [40, 8, 48, 16, 56, 24, 64, 32, 39, 7, 47, 15, 55, 23, 63, 31, 38, 6, 46, 14, 54, 22, 62, 30, 37, 5, 45, 13, 53, 21, 61, 29, 36, 4, 44, 12, 52, 20, 60, 28, 35, 3, 43, 11, 51, 19, 59, 27, 34, 2, 42, 10, 50, 18, 58, 26, 33, 1, 41, 9, 49, 17, 57, 25]
def tWide : List Nat := [32, 1, 2, 3, 4, 5, 4, 5, 6, 7, 8, 9, 8, 9, 10, 11, 12, 13, 12, 13, 14, 15, 16, 17, 16, 17, 18, 19, 20, 21, 20, 21, 22, 23, 24, 25, 24, 25, 26, 27, 28, 29, 28, 29, 30, 31, 32, 1]
def tP : List Nat := [16, 7, 20, 21, 29, 12, 28, 17, 1, 15, 23, 26, 5, 18, 31, 10, 2, 8, 24, 14, 32, 27, 3, 9, 19, 13, 30, 6, 22, 11, 4, 25]
def tK1 : List Nat := [57, 49, 41, 33, 25, 17, 9, 1, 58, 50, 42, 34, 26, 18, 10, 2, 59, 51, 43, 35, 27, 19, 11, 3, 60, 52, 44, 36, 63, 55, 47, 39, 31, 23, 15, 7, 62, 54, 46, 38, 30, 22, 14, 6, 61, 53, 45, 37, 29, 21, 13, 5, 28, 20, 12, 4]
def tK2 : List Nat := [14, 17, 11, 24, 1, 5, 3, 28, 15, 6, 21, 10, 23, 19, 12, 4, 26, 8, 16, 7, 27, 20, 13, 2, 41, 52, 31, 37, 47, 55, 30, 40, 51, 45, 33, 48, 44, 49, 39, 56, 34, 53, 46, 42, 50, 36, 29, 32]
/-- the boxes, one behind the other, their rows one behind the other -/
def boxL : List Nat := [14, 4, 13, 1, 2, 15, 11, 8, 3, 10, 6, 12, 5, 9, 0, 7, 0, 15, 7, 4, 14, 2, 13, 1, 10, 6, 12, 11, 9, 5, 3, 8, 4, 1, 14, 8, 13, 6, 2, 11, 15, 12, 9, 7, 3, 10, 5, 0, 15, 12, 8, 2, 4, 9, 1, 7, 5, 11, 3, 14, 10, 0, 6, 13, 15, 1, 8, 14, 6, 11, 3, 4, 9, 7, 2, 13, 12, 0, 5, 10, 3, 13, 4, 7, 15, 2, 8, 14, 12, 0, 1, 10, 6, 9, 11, 5, 0, 14, 7, 11, 10, 4, 13, 1, 5, 8, 12, 6, 9, 3, 2, 15, 13, 8, 10, 1, 3, 15, 4, 2, 11, 6, 7, 12, 0, 5, 14, 9, 10, 0, 9, 14, 6, 3, 15, 5, 1, 13, 12, 7, 11, 4, 2, 8, 13, 7, 0, 9, 3, 4, 6, 10, 2, 8, 5, 14, 12, 11, 15, 1, 13, 6, 4, 9, 8, 15, 3, 0, 11, 1, 2, 12, 5, 10, 14, 7, 1, 10, 13, 0, 6, 9, 8, 7, 4, 15, 14, 3, 11, 5, 2, 12, 7, 13, 14, 3, 0, 6, 9, 10, 1, 2, 8, 5, 11, 12, 4, 15, 13, 8, 11, 5, 6, 15, 0, 3, 4, 7, 2, 12, 1, 10, 14, 9, 10, 6, 9, 0, 12, 11, 7, 13, 15, 1, 3, 14, 5, 2, 8, 4, 3, 15, 0, 6, 10, 1, 13, 8, 9, 4, 5, 11, 12, 7, 2, 14, 2, 12, 4, 1, 7, 10, 11, 6, 8, 5, 3, 15, 13, 0, 14, 9, 14, 11, 2, 12, 4, 7, 13, 1, 5, 0, 15, 10, 3, 9, 8, 6, 4, 2, 1, 11, 10, 13, 7, 8, 15, 9, 12, 5, 6, 3, 0, 14, 11, 8, 12, 7, 1, 14, 2, 13, 6, 15, 0, 9, 10, 4, 5, 3, 12, 1, 10, 15, 9, 2, 6, 8, 0, 13, 3, 4, 14, 7, 5, 11, 10, 15, 4, 2, 7, 12, 9, 5, 6, 1, 13, 14, 0, 11, 3, 8, 9, 14, 15, 5, 2, 8, 12, 3, 7, 0, 4, 10, 1, 13, 11, 6, 4, 3, 2, 12, 9, 5, 15, 10, 11, 14, 1, 7, 6, 0, 8, 13, 4, 11, 2, 14, 15, 0, 8, 13, 3, 12, 9, 7, 5, 10, 6, 1, 13, 0, 11, 7, 4, 9, 1, 10, 14, 3, 5, 12, 2, 15, 8, 6, 1, 4, 11, 13, 12, 3, 7, 14, 10, 15, 6, 8, 0, 5, 9, 2, 6, 11, 13, 8, 1, 4, 10, 7, 9, 5, 0, 15, 14, 2, 3, 12, 13, 2, 8, 4, 6, 15, 11, 1, 10, 9, 3, 14, 5, 0, 12, 7, 1, 15, 13, 8, 10, 3, 7, 4, 12, 5, 6, 11, 0, 14, 9, 2, 7, 11, 4, 1, 9, 12, 14, 2, 0, 6, 10, 13, 15, 3, 5, 8, 2, 1, 14, 7, 4, 10, 8, 13, 15, 12, 9, 0, 3, 5, 6, 11]
def grp (x : List Bool) (i : Nat) : List Bool := (x.drop (6 * i)).take 6
/-- what the box i has for six bits -/
def six (i : Nat) (g : Nat) : Nat := boxL.getD (64 * i + 16 * (2 * (g / 32 % 2) + g % 2) + g / 2 % 16) 0
def mixB (r k : List Bool) : List Bool := (List.range 8).flatMap fun i => nib (six i (val (grp (xr (tk tWide r) k) i)))
/-- F of the chapter -/
def mix (r k : List Bool) : List Bool := tk tP (mixB r k)
def rnd (s : List Bool × List Bool) (k : List Bool) : List Bool × List Bool := (s.2, xr s.1 (mix s.2 k))
def des (ks : List (List Bool)) (x : List Bool) : List Bool :=
  tk tOut ((ks.foldl rnd ((tk tIn x).take 32, (tk tIn x).drop 32)).2 ++ (ks.foldl rnd ((tk tIn x).take 32, (tk tIn x).drop 32)).1)
def turns (r : Nat) : Nat := if r = 1 ∨ r = 2 ∨ r = 9 ∨ r = 16 then 1 else 2
/-- the two halves of a key behind n rounds -/
def hlv (key : List Bool) : Nat → List Bool × List Bool
  | 0 => ((tk tK1 key).take 28, (tk tK1 key).drop 28)
  | n + 1 => (rot (hlv key n).1 (turns (n + 1)), rot (hlv key n).2 (turns (n + 1)))
def rk (key : List Bool) (n : Nat) : List Bool := tk tK2 ((hlv key (n + 1)).1 ++ (hlv key (n + 1)).2)
def sched (key : List Bool) : List (List Bool) := (List.range 16).map (rk key)
theorem rot_len (l : List Bool) (n : Nat) (h : n ≤ l.length) : (rot l n).length = l.length := by simp [rot]; omega
theorem turns_le (r : Nat) : turns r ≤ 2 := by unfold turns; split <;> omega
theorem turns_pos (r : Nat) : 1 ≤ turns r := by unfold turns; split <;> omega
theorem hlv_len (key : List Bool) : ∀ n, (hlv key n).1.length = 28 ∧ (hlv key n).2.length = 28
  | 0 => by simp [hlv, tk_len, show tK1.length = 56 by decide]
  | n + 1 => by
    have h := hlv_len key n
    have t := turns_le (n + 1)
    simp only [hlv]
    exact ⟨by rw [rot_len _ _ (by omega)]; exact h.1, by rw [rot_len _ _ (by omega)]; exact h.2⟩
theorem rk_len (key : List Bool) (n : Nat) : (rk key n).length = 48 := by rw [rk, tk_len]; decide
theorem mixB_len (r k : List Bool) : (mixB r k).length = 32 := by simp [mixB, nib]; decide
theorem mix_len (r k : List Bool) : (mix r k).length = 32 := by rw [mix, tk_len]; decide
theorem rnd_len (s : List Bool × List Bool) (k : List Bool) (h : s.1.length = 32 ∧ s.2.length = 32) : (rnd s k).1.length = 32 ∧ (rnd s k).2.length = 32 :=
  ⟨h.2, xr_len _ _ _ h.1 (mix_len _ _)⟩
theorem rnds_len : ∀ (ks : List (List Bool)) (s : List Bool × List Bool), s.1.length = 32 ∧ s.2.length = 32 → (ks.foldl rnd s).1.length = 32 ∧ (ks.foldl rnd s).2.length = 32
  | [], s, h => h
  | k :: ks, s, h => rnds_len ks _ (rnd_len s k h)
theorem des_len (ks : List (List Bool)) (x : List Bool) : (des ks x).length = 64 := by rw [des, tk_len]; decide
/-- bytes as bits -/
def bitsS (l : List UInt8) : List Bool := l.flatMap fun c => bitsN 8 c.toNat
theorem bitsS_len (l : List UInt8) : (bitsS l).length = 8 * l.length := by
  induction l with
  | nil => rfl
  | cons c l ih => simp only [bitsS, List.flatMap_cons, List.length_append, bitsN_len, List.length_cons] at ih ⊢; omega
def pt (k : List UInt8) (i : Nat) : List UInt8 := (k.drop (8 * i)).take 8
def sc (k : List UInt8) (i : Nat) : List (List Bool) := sched (bitsS (pt k i))
/-- the part that encrypts last -/
def lst (k : List UInt8) : Nat := if k.length = 16 then 0 else 2
/-- one block under a whole key, and back -/
def enc (k : List UInt8) (x : List Bool) : List Bool := if k.length = 8 then des (sc k 0) x else des (sc k (lst k)) (des (sc k 1).reverse (des (sc k 0) x))
def dec (k : List UInt8) (x : List Bool) : List Bool := if k.length = 8 then des (sc k 0).reverse x else des (sc k 0).reverse (des (sc k 1) (des (sc k (lst k)).reverse x))
theorem enc_len (k : List UInt8) (x : List Bool) : (enc k x).length = 64 := by unfold enc; split <;> exact des_len _ _
theorem dec_len (k : List UInt8) (x : List Bool) : (dec k x).length = 64 := by unfold dec; split <;> exact des_len _ _
/-- 64 bits as bytes -/
def byW (w : List Bool) : List UInt8 := (List.range 8).map fun j => UInt8.ofNat (val ((w.drop (8 * j)).take 8))
theorem byW_len (w : List Bool) : (byW w).length = 8 := by simp [byW]
/-- the block i of a text, as bits -/
def blk (s : List UInt8) (i : Nat) : List Bool := bitsS (pt s i)
end Go.Proofs.Ytciblmdpngnakaa.Pla
/- Rows of cells and worlds: what the contracts share. -/
namespace Go.Proofs.Ytciblmdpngnakaa.Cb
set_option linter.unusedVariables false
open Go.RowKit Pla
theorem below_one (w : World) (a : Obj) : Below w.heap.size w (w.alloc a) := (Below.refl _ w).alloc (Nat.le_refl _) _
theorem below_two (w : World) (a b : Obj) : Below w.heap.size w ((w.alloc a).alloc b) := ((Below.refl _ w).alloc (Nat.le_refl _) _).alloc (by simp) _
theorem below_three (w : World) (a b c : Obj) : Below w.heap.size w (((w.alloc a).alloc b).alloc c) := (below_two w a b).alloc (by simp; omega) _
theorem keepB {a y x : World} (h : Below a.heap.size a y) (k : Below y.heap.size y x) : Below a.heap.size a x := h.trans (k.mono h.size)
theorem keepC {a x : World} {p : Addr} {v : Value} (h : Below a.heap.size a x) (k : a.cell? p = some v) (hp : p.block < a.heap.size) : x.cell? p = some v := (h.cell hp).trans k
theorem held2 {a x : World} {b : Nat} {u v : Value} {t : TypeId} (h : Below a.heap.size a x) (hb : a.heap[b]? = some (Obj.cells #[u, v] t)) :
    x.cell? ⟨b, 0, none⟩ = some u ∧ x.cell? ⟨b, 1, none⟩ = some v ∧ x.frozen? ⟨b, 0, none⟩ = false ∧ x.frozen? ⟨b, 1, none⟩ = false := by
  have hx : x.heap[b]? = some (Obj.cells #[u, v] t) := (h.block b (Array.getElem?_eq_some_iff.1 hb).1).trans hb
  refine ⟨?_, ?_, ?_, ?_⟩ <;> simp [World.cell?, World.frozen?, hx]
theorem kept {a x : World} {b : Nat} {o : Obj} (h : Below a.heap.size a x) (hb : a.heap[b]? = some o) : x.heap[b]? = some o := (h.block b (Array.getElem?_eq_some_iff.1 hb).1).trans hb
theorem held2a {a x : World} {b : Nat} {u v : Value} {t : TypeId} (h : Below a.heap.size a x) (hb : a.heap[b]? = some (Obj.cells #[u, v] t)) (o : Obj) :
    (x.alloc o).cell? ⟨b, 0, none⟩ = some u ∧ (x.alloc o).cell? ⟨b, 1, none⟩ = some v ∧ (x.alloc o).frozen? ⟨b, 0, none⟩ = false ∧ (x.alloc o).frozen? ⟨b, 1, none⟩ = false :=
  held2 (h.alloc h.size o) hb
theorem h1_0 (w : World) (a : Obj) : (w.alloc a).heap[w.heap.size]? = some a := by
  show (w.heap.push a)[w.heap.size]? = some a
  simp
theorem h2_0 (w : World) (a b : Obj) : ((w.alloc a).alloc b).heap[w.heap.size]? = some a := (Below.heap_alloc _ b _ (by simp)).trans (h1_0 w a)
theorem h2_1 (w : World) (a b : Obj) : ((w.alloc a).alloc b).heap[w.heap.size + 1]? = some b := by
  have := h1_0 (w.alloc a) b
  rwa [World.size_alloc] at this
theorem h3_0 (w : World) (a b c : Obj) : (((w.alloc a).alloc b).alloc c).heap[w.heap.size]? = some a := (Below.heap_alloc _ c _ (by simp; omega)).trans (h2_0 w a b)
theorem h3_1 (w : World) (a b c : Obj) : (((w.alloc a).alloc b).alloc c).heap[w.heap.size + 1]? = some b := (Below.heap_alloc _ c _ (by simp)).trans (h2_1 w a b)
theorem h3_2 (w : World) (a b c : Obj) : (((w.alloc a).alloc b).alloc c).heap[w.heap.size + 1 + 1]? = some c := by
  have := h1_0 ((w.alloc a).alloc b) c
  rwa [World.size_alloc, World.size_alloc] at this
theorem setRow_at {w : World} {g : Nat} {c : Array Value} {t : TypeId} {fr : Nat × Nat} (h : w.heap[g]? = some (.cells c t fr)) (c' : Array Value) : (w.setRow g c').heap[g]? = some (.cells c' t fr) := by
  show (w.heap.modify g _)[g]? = _
  rw [Array.getElem?_modify]; simp [h]
theorem setRow_ne {w : World} {g k : Nat} (h : g ≠ k) (c' : Array Value) : (w.setRow g c').heap[k]? = w.heap[k]? := by
  show (w.heap.modify g _)[k]? = _
  rw [Array.getElem?_modify]; simp [h]
theorem below_setRow {B : Nat} {a w : World} (h : Below B a w) {g : Nat} (hg : B ≤ g) (c' : Array Value) : Below B a (w.setRow g c') :=
  ⟨h.os, h.tape, h.output, by have := h.size; simpa [World.setRow] using this, fun k hk => (setRow_ne (by omega) c').trans (h.block k hk)⟩
/-- n bytes as cells -/
def byC (n : Nat) (v : Nat → Nat) : Array Value := ((List.range n).map fun i => Value.int .u8 ((v i : Nat) : Int)).toArray
theorem byC_size (n : Nat) (v : Nat → Nat) : (byC n v).size = n := by simp [byC]
theorem byC_get (n : Nat) (v : Nat → Nat) (i : Nat) (h : i < n) : (byC n v)[i]? = some (.int .u8 ((v i : Nat) : Int)) := by simp [byC, h]
def updN (v : Nat → Nat) (k b : Nat) : Nat → Nat := fun i => if i = k then b else v i
theorem byC_set (n : Nat) (v : Nat → Nat) (k b : Nat) (h : k < n) : (byC n v).setIfInBounds k (.int .u8 (b : Int)) = byC n (updN v k b) := by
  apply Array.ext_getElem?
  intro i
  by_cases hi : i < n
  · rw [byC_get _ _ _ hi, Array.getElem?_setIfInBounds]
    by_cases e : k = i
    · subst e; simp [updN, byC_size, h]
    · rw [if_neg e, byC_get _ _ _ hi, updN, if_neg (fun x => e x.symm)]
  · rw [Array.getElem?_eq_none (by simp [byC_size]; omega), Array.getElem?_eq_none (by simp [byC_size]; omega)]
theorem byC_ext {n : Nat} {v u : Nat → Nat} (h : ∀ i, i < n → v i = u i) : byC n v = byC n u := by
  simp only [byC]; congr 1
  apply List.map_congr_left
  intro i hi
  rw [h i (List.mem_range.1 hi)]
theorem byC_one (n : Nat) (v : Nat → Nat) : (byC n v).all (·.oneCell') = true := by
  simp only [byC, List.all_toArray, List.all_eq_true, List.mem_map, List.mem_range]
  rintro x ⟨i, _, rfl⟩; rfl
theorem below_drewN {B : Nat} {a w : World} (h : Below B a w) : ∀ n, Below B a (w.drewN n)
  | 0 => h
  | n + 1 => (below_drewN h n).drew
theorem toNat_lt (b : UInt8) : (b.toNat : Int) < 256 := by have := b.toNat_lt; omega
/-- a table's cells -/
def tabC (l : List Nat) : Array Value := (l.map fun n : Nat => Value.int .u8 ((n : Nat) : Int)).toArray
theorem tabC_size (l : List Nat) : (tabC l).size = l.length := by simp [tabC]
theorem tabC_get (l : List Nat) (i : Nat) (h : i < l.length) : (tabC l)[i]? = some (.int .u8 ((l[i] : Nat) : Int)) := by simp [tabC, h]
end Go.Proofs.Ytciblmdpngnakaa.Cb
