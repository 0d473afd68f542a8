/- Sessions, plain: a state and its steps. -/
import Derived.Test.YthfpjkboglbcaaaKb
namespace Go.Proofs.Ythfpjkboglbcaaa.Sp
set_option linter.unusedVariables false
set_option linter.unusedSimpArgs false
open Go.RowKit
@[ext] structure Ss where
  role : Int
  echo : Int
  ans : Int
  st : Int
  wait : Int
  quiet : Int
  tries : Int
structure Say where
  code : ByteArray
  back : ByteArray
  lost : Bool
def t001 : ByteArray := ⟨#[48, 48, 49]⟩
def t002 : ByteArray := ⟨#[48, 48, 50]⟩
def t101 : ByteArray := ⟨#[49, 48, 49]⟩
def t301 : ByteArray := ⟨#[51, 48, 49]⟩
def t00 : ByteArray := ⟨#[48, 48]⟩
def t12 : ByteArray := ⟨#[49, 50]⟩
def no : Say := ⟨⟨#[]⟩, ⟨#[]⟩, false⟩
def asks (c : ByteArray) : Say := ⟨c, ⟨#[]⟩, false⟩
def gone : Say := ⟨⟨#[]⟩, ⟨#[]⟩, true⟩
def fresh (role echo ans : Int) : Ss := ⟨role, echo, ans, 0, 0, 0, 0⟩
def isS (role echo ans : Int) : Bool := (decide (role = 1) || decide (role = 2)) && decide (0 ≤ echo) && decide (echo ≤ 100000) && decide (1 ≤ ans) && decide (ans ≤ 100000)
def up1 (S : Ss) : Ss := if S.role = 1 then { S with st := 1 } else { S with st := 2, wait := 0 }
def up2 (S : Ss) : Say := if S.role = 1 then no else asks t001
def down (S : Ss) : Ss := { S with st := 0 }
def heard (S : Ss) : Ss := if S.st = 3 then { S with quiet := 0 } else S
def grant1 (S : Ss) (c : ByteArray) : Ss := if c = t001 ∧ S.role = 1 then { S with st := 3 } else if c = t002 then { S with st := 1 } else S
def grant2 (S : Ss) (c : ByteArray) : ByteArray := if c = t001 ∧ S.role = 1 ∨ c = t002 ∨ c = t101 ∨ c = t301 then t00 else t12
def asked1 (S : Ss) (c : ByteArray) : Ss := if S.st = 0 then S else heard (grant1 S c)
def asked2 (S : Ss) (c : ByteArray) : Say := if S.st = 0 then no else ⟨c, grant2 S c, false⟩
def ansd0 (S : Ss) (c a : ByteArray) : Ss := if S.st = 2 ∧ c = t001 ∧ a = t00 ∨ S.st = 4 ∧ c = t301 then { S with st := 3 } else S
def ansd (S : Ss) (c a : ByteArray) : Ss := heard (ansd0 S c a)
def tick1 (S : Ss) : Ss :=
  if S.st = 2 then (if S.wait + 1 < S.ans then { S with wait := S.wait + 1 } else { S with wait := 0 })
  else if S.st = 3 then (if S.role = 1 ∨ S.echo = 0 then S else if S.quiet + 1 < S.echo then { S with quiet := S.quiet + 1 } else { S with quiet := S.quiet + 1, st := 4, tries := 1, wait := 0 })
  else if S.st = 4 then (if S.wait + 1 < S.ans then { S with wait := S.wait + 1 } else if S.tries = 3 then { S with wait := S.wait + 1, st := 0 } else { S with tries := S.tries + 1, wait := 0 })
  else S
def tick2 (S : Ss) : Say :=
  if S.st = 2 then (if S.wait + 1 < S.ans then no else asks t001)
  else if S.st = 3 then (if S.role = 1 ∨ S.echo = 0 then no else if S.quiet + 1 < S.echo then no else asks t301)
  else if S.st = 4 then (if S.wait + 1 < S.ans then no else if S.tries = 3 then gone else asks t301)
  else no
/-- a session that may be -/
structure OK (S : Ss) : Prop where
  r : S.role = 1 ∨ S.role = 2
  e0 : 0 ≤ S.echo
  e1 : S.echo ≤ 100000
  a1 : 1 ≤ S.ans
  a2 : S.ans ≤ 100000
  s : S.st = 0 ∨ S.st = 1 ∨ S.st = 2 ∨ S.st = 3 ∨ S.st = 4
  q : S.role = 1 → S.st = 0 ∨ S.st = 1 ∨ S.st = 3
  w0 : 0 ≤ S.wait
  w1 : S.st = 2 ∨ S.st = 4 → S.wait < S.ans
  q0 : 0 ≤ S.quiet
  q1 : S.role = 2 → S.echo ≠ 0 → S.st = 3 → S.quiet < S.echo
  q2 : S.quiet ≤ 100000
  t0 : S.st = 4 → S.echo ≠ 0 ∧ 1 ≤ S.tries ∧ S.tries ≤ 3
theorem ok_fresh {r e a : Int} (h : isS r e a = true) : OK (fresh r e a) := by
  simp [isS] at h
  constructor <;> dsimp only [fresh] <;> first | omega | (simp; done) | (simp; omega)
theorem isS_of {S : Ss} (h : OK S) : isS S.role S.echo S.ans = true := by
  have := h.r; have := h.e0; have := h.e1; have := h.a1; have := h.a2
  simp [isS]; omega
theorem ok_up {S : Ss} (h : OK S) : OK (up1 S) := by
  obtain ⟨r, e0, e1, a1, a2, s, q, w0, w1, q0, q1, q2, t0⟩ := h
  unfold up1
  split <;> constructor <;> dsimp only <;> first | assumption | omega | (simp; done) | (simp; omega)
theorem ok_down {S : Ss} (h : OK S) : OK (down S) := by
  obtain ⟨r, e0, e1, a1, a2, s, q, w0, w1, q0, q1, q2, t0⟩ := h
  unfold down
  constructor <;> dsimp only <;> first | assumption | omega | (simp; done) | (simp; omega)
theorem ok_heard {S : Ss} (h : OK S) : OK (heard S) := by
  unfold heard
  split
  · obtain ⟨r, e0, e1, a1, a2, s, q, w0, w1, q0, q1, q2, t0⟩ := h
    constructor <;> dsimp only <;> first | assumption | omega | (simp; done) | (simp; omega)
  · exact h
/-- On, the quiet 0 -/
theorem ok_on {S : Ss} (h : OK S) : OK { S with st := 3, quiet := 0 } := by
  obtain ⟨r, e0, e1, a1, a2, s, q, w0, w1, q0, q1, q2, t0⟩ := h
  constructor <;> dsimp only <;> first | assumption | omega | (simp; done) | (simp; omega)
theorem ok_open {S : Ss} (h : OK S) : OK { S with st := 1 } := by
  obtain ⟨r, e0, e1, a1, a2, s, q, w0, w1, q0, q1, q2, t0⟩ := h
  constructor <;> dsimp only <;> first | assumption | omega | (simp; done) | (simp; omega)
theorem ok_asked {S : Ss} (h : OK S) (c : ByteArray) : OK (asked1 S c) := by
  unfold asked1 grant1
  split
  · exact h
  · split
    · simp only [heard, if_true]; exact ok_on h
    · split
      · exact ok_heard (ok_open h)
      · exact ok_heard h
theorem ok_ansd {S : Ss} (h : OK S) (c a : ByteArray) : OK (ansd S c a) := by
  unfold ansd ansd0
  split
  · simp only [heard, if_true]; exact ok_on h
  · exact ok_heard h
theorem ok_tick {S : Ss} (h : OK S) : OK (tick1 S) := by
  obtain ⟨r, e0, e1, a1, a2, s, q, w0, w1, q0, q1, q2, t0⟩ := h
  unfold tick1
  split
  · split <;> constructor <;> dsimp only <;> first | assumption | omega | (simp; done) | (simp; omega)
  · split
    · split
      · constructor <;> first | assumption | omega
      · split <;> constructor <;> dsimp only <;> first | assumption | omega | (simp; done) | (simp; omega)
    · split
      · split
        · constructor <;> dsimp only <;> first | assumption | omega | (simp; done) | (simp; omega)
        · split <;> constructor <;> dsimp only <;> first | assumption | omega | (simp; done) | (simp; omega)
      · constructor <;> assumption
theorem same_up (S : Ss) : (up1 S).role = S.role ∧ (up1 S).echo = S.echo ∧ (up1 S).ans = S.ans := by unfold up1; split <;> exact ⟨rfl, rfl, rfl⟩
theorem same_heard (S : Ss) : (heard S).role = S.role ∧ (heard S).echo = S.echo ∧ (heard S).ans = S.ans ∧ (heard S).st = S.st ∧ (heard S).wait = S.wait ∧ (heard S).tries = S.tries := by unfold heard; split <;> exact ⟨rfl, rfl, rfl, rfl, rfl, rfl⟩
theorem same_tick (S : Ss) : (tick1 S).role = S.role ∧ (tick1 S).echo = S.echo ∧ (tick1 S).ans = S.ans := by
  unfold tick1
  repeat' split
  all_goals exact ⟨rfl, rfl, rfl⟩
theorem same_asked (S : Ss) (c : ByteArray) : (asked1 S c).role = S.role ∧ (asked1 S c).echo = S.echo ∧ (asked1 S c).ans = S.ans := by
  unfold asked1 grant1 heard
  repeat' split
  all_goals exact ⟨rfl, rfl, rfl⟩
theorem same_ansd (S : Ss) (c a : ByteArray) : (ansd S c a).role = S.role ∧ (ansd S c a).echo = S.echo ∧ (ansd S c a).ans = S.ans := by
  unfold ansd ansd0 heard
  repeat' split
  all_goals exact ⟨rfl, rfl, rfl⟩
/-- what is said, as a value -/
def sayV (s : Say) : Value := .agg #[.string s.code, .string s.back, .bool s.lost]
/-- a session's cells -/
def SV (S : Ss) : Array Value := #[.int .i64 S.role, .int .i64 S.echo, .int .i64 S.ans, .int .i64 S.st, .int .i64 S.wait, .int .i64 S.quiet, .int .i64 S.tries]
theorem setCell_heap {w : World} {g : Nat} {c : Array Value} {t : TypeId} {fr : Nat × Nat} (h : w.heap[g]? = some (.cells c t fr)) (o : Nat) (v : Value) : (w.setCell ⟨g, o, none⟩ v).heap[g]? = some (.cells (c.setIfInBounds o v) t fr) := by
  show (w.heap.modify g _)[g]? = _
  rw [Array.getElem?_modify]; simp [h]
theorem setCell_ne {w : World} {g k : Nat} (h : g ≠ k) (o : Nat) (v : Value) : (w.setCell ⟨g, o, none⟩ v).heap[k]? = w.heap[k]? := by
  show (w.heap.modify g _)[k]? = _
  rw [Array.getElem?_modify]; simp [h]
/-- what stays: all blocks but these -/
structure Fr (B : List Nat) (w w' : World) : Prop where
  os : w'.os = w.os
  tape : w'.tape = w.tape
  output : w'.output = w.output
  size : w.heap.size ≤ w'.heap.size
  block : ∀ b, b < w.heap.size → b ∉ B → w'.heap[b]? = w.heap[b]?
theorem Fr.refl (B : List Nat) (w : World) : Fr B w w := ⟨rfl, rfl, rfl, Nat.le_refl _, fun _ _ _ => rfl⟩
theorem Fr.trans {B : List Nat} {w x y : World} (h : Fr B w x) (k : Fr B x y) : Fr B w y := ⟨k.os.trans h.os, k.tape.trans h.tape, k.output.trans h.output, Nat.le_trans h.size k.size, fun b hb hn => (k.block b (Nat.lt_of_lt_of_le hb h.size) hn).trans (h.block b hb hn)⟩
theorem Fr.of {B : List Nat} {w x : World} (h : Below w.heap.size w x) : Fr B w x := ⟨h.os, h.tape, h.output, h.size, fun b hb _ => h.block b hb⟩
theorem Fr.below {w x : World} (h : Fr [] w x) : Below w.heap.size w x := ⟨h.os, h.tape, h.output, h.size, fun b hb => h.block b hb (by simp)⟩
theorem Fr.mono {B C : List Nat} {w x : World} (h : Fr B w x) (hc : ∀ b ∈ B, b ∈ C) : Fr C w x := ⟨h.os, h.tape, h.output, h.size, fun b hb hn => h.block b hb fun h2 => hn (hc b h2)⟩
theorem Fr.alloc {B : List Nat} {w x : World} (h : Fr B w x) (o : Obj) : Fr B w (x.alloc o) := ⟨h.os, h.tape, h.output, by rw [World.size_alloc]; exact Nat.le_succ_of_le h.size, fun b hb hn => (heap_alloc_old _ _ (Nat.lt_of_lt_of_le hb h.size)).trans (h.block b hb hn)⟩
theorem Fr.set {B : List Nat} {w x : World} {g : Nat} (h : Fr B w x) (hg : g ∈ B ∨ w.heap.size ≤ g) (o : Nat) (v : Value) : Fr B w (x.setCell ⟨g, o, none⟩ v) :=
  ⟨h.os, h.tape, h.output, by have := h.size; simpa [World.setCell] using this, fun b hb hn => (setCell_ne (fun e : g = b => hg.elim (fun h2 => hn (e ▸ h2)) (fun h3 => by omega)) o v).trans (h.block b hb hn)⟩
theorem Fr.drew {B : List Nat} {w x : World} (h : Fr B w x) : Fr B w x.drew := ⟨h.os, h.tape, h.output, h.size, h.block⟩
/-- what a call writes is all above the base -/
theorem Fr.under {B : List Nat} {n : Nat} {a w x : World} (hb : Below n a w) (h : Fr B w x) (hB : ∀ b ∈ B, n ≤ b) (hn : n ≤ w.heap.size) : Below n a x :=
  ⟨h.os.trans hb.os, h.tape.trans hb.tape, h.output.trans hb.output, Nat.le_trans hb.size h.size, fun b hlt => (h.block b (by omega) (fun hm => by have := hB b hm; omega)).trans (hb.block b hlt)⟩
/-- a session lies there -/
def Sm (T : TypeId) (w : World) (g : Nat) (S : Ss) : Prop := w.heap[g]? = some (.cells (SV S) T)
section
variable {T : TypeId} {w y : World} {g : Nat} {S : Ss}
theorem Sm.lt (M : Sm T w g S) : g < w.heap.size := (Array.getElem?_eq_some_iff.1 M).1
theorem Sm.ce (M : Sm T w g S) (o : Nat) : w.cell? ⟨g, o, none⟩ = (SV S)[o]? := by
  unfold World.cell?; rw [show w.heap[g]? = _ from M]; rfl
theorem Sm.fz (M : Sm T w g S) (o : Nat) : w.frozen? ⟨g, o, none⟩ = false := by
  unfold World.frozen?; rw [show w.heap[g]? = _ from M]; simp
theorem Sm.keep (M : Sm T w g S) (k : y.heap[g]? = w.heap[g]?) : Sm T y g S := k.trans M
theorem Sm.below {B : Nat} (M : Sm T w g S) (k : Below B w y) (hB : g < B) : Sm T y g S := M.keep (k.block g hB)
theorem Sm.fr {B : List Nat} (M : Sm T w g S) (k : Fr B w y) (h : g ∉ B) : Sm T y g S := M.keep (k.block g M.lt h)
theorem Sm.alloc (M : Sm T w g S) (o : Obj) : Sm T (w.alloc o) g S := M.keep (heap_alloc_old _ _ M.lt)
theorem Sm.drew (M : Sm T w g S) : Sm T w.drew g S := M
theorem Sm.set3 (M : Sm T w g S) (v : Int) : Sm T (w.setCell ⟨g, 3, none⟩ (.int .i64 v)) g { S with st := v } := setCell_heap M 3 _
theorem Sm.set4 (M : Sm T w g S) (v : Int) : Sm T (w.setCell ⟨g, 4, none⟩ (.int .i64 v)) g { S with wait := v } := setCell_heap M 4 _
theorem Sm.set5 (M : Sm T w g S) (v : Int) : Sm T (w.setCell ⟨g, 5, none⟩ (.int .i64 v)) g { S with quiet := v } := setCell_heap M 5 _
theorem Sm.set6 (M : Sm T w g S) (v : Int) : Sm T (w.setCell ⟨g, 6, none⟩ (.int .i64 v)) g { S with tries := v } := setCell_heap M 6 _
end
end Go.Proofs.Ythfpjkboglbcaaa.Sp
