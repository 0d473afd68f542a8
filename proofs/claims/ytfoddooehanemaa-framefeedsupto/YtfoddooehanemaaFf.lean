/- Frames: a Stream in its state; Waits, Idle, Reset. -/
import Derived.Test.YtfoddooehanemaaFe
import Derived.Lib.LazyBuf
namespace Go.Proofs.Ytfoddooehanemaa.Ff
set_option linter.unusedVariables false
set_option linter.unusedSimpArgs false
open Go.RowKit Lib0 Kb Fa Fb Fc Fm Fe
def LieS (w : World) (g h m : Nat) (a b c d : UInt8) (body : Value) (t e : Nat) (bb : Option Nat) : St → Prop
  | .hdr l => bb = none ∧ body = .slice none 0 0 ∧ t = l.length ∧ l.length < wid h ∧ [a, b, c, d].take l.length = l ∧ e = 0
  | .bod n l => ∃ gp z, bb = some gp ∧ gp ≠ g ∧ body = .slice (some ⟨gp, 0, none⟩) n n ∧ w.heap[gp]? = some (.cells (bs (l ++ z)).toArray 5) ∧ t = l.length ∧ l.length + z.length = n ∧ l.length < n ∧ n ≤ m ∧ e = 0
  | .brk k => bb = none ∧ body = .slice none 0 0 ∧ t = 0 ∧ e = k ∧ k ≠ 0
/-- the Stream lies there, in that state; its message's bytes lie in the block bb -/
def Lie (w : World) (g h m : Nat) (st : St) (i : Nat) (bb : Option Nat) : Prop := ∃ a b c d body t e, Sm w g h m a b c d body t i e ∧ LieS w g h m a b c d body t e bb st
theorem LieS.keep {w y : World} {g h m : Nat} {a b c d : UInt8} {body : Value} {t e : Nat} {bb : Option Nat} {st : St} (L : LieS w g h m a b c d body t e bb st) (hk : ∀ q, bb = some q → y.heap[q]? = w.heap[q]?) : LieS y g h m a b c d body t e bb st := by
  cases st with
  | hdr l => exact L
  | bod n l =>
    obtain ⟨gp, z, h1, h2, h3, h4, h5⟩ := L
    exact ⟨gp, z, h1, h2, h3, (hk gp h1).trans h4, h5⟩
  | brk k => exact L
theorem Lie.keep {w y : World} {g h m : Nat} {st : St} {i : Nat} {bb : Option Nat} (L : Lie w g h m st i bb) (hg : y.heap[g]? = w.heap[g]?) (hk : ∀ q, bb = some q → y.heap[q]? = w.heap[q]?) : Lie y g h m st i bb := by
  obtain ⟨a, b, c, d, body, t, e, S, L⟩ := L
  exact ⟨a, b, c, d, body, t, e, S.keep hg, L.keep hk⟩
theorem Lie.lt {w : World} {g h m : Nat} {st : St} {i : Nat} {bb : Option Nat} (L : Lie w g h m st i bb) : g < w.heap.size := by
  obtain ⟨a, b, c, d, body, t, e, S, L⟩ := L
  exact S.lt
theorem Lie.blt {w : World} {g h m : Nat} {st : St} {i : Nat} {bb : Option Nat} (L : Lie w g h m st i bb) (q : Nat) (hq : bb = some q) : q < w.heap.size ∧ q ≠ g := by
  obtain ⟨a, b, c, d, body, t, e, S, L⟩ := L
  cases st with
  | hdr l => rw [L.1] at hq; cases hq
  | bod n l =>
    obtain ⟨gp, z, h1, h2, h3, h4, h5⟩ := L
    rw [h1] at hq; cases hq
    exact ⟨(Array.getElem?_eq_some_iff.1 h4).1, h2⟩
  | brk k => rw [L.1] at hq; cases hq
theorem Lie.below {w y : World} {g h m : Nat} {st : St} {i : Nat} {bb : Option Nat} (L : Lie w g h m st i bb) (k : Below w.heap.size w y) : Lie y g h m st i bb :=
  L.keep (k.block g L.lt) fun q hq => k.block q (L.blt q hq).1
theorem Lie.fr {w y : World} {g h m : Nat} {st : St} {i : Nat} {bb : Option Nat} {B : List Nat} (L : Lie w g h m st i bb) (k : Fr B w y) (hg : g ∉ B) (hb : ∀ q, bb = some q → q ∉ B) : Lie y g h m st i bb :=
  L.keep (k.block g L.lt hg) fun q hq => k.block q (L.blt q hq).1 (hb q hq)
theorem eqNil (w : World) (a : Option Addr) (l c : Nat) : (binOp .eql 37 (.slice a l c) (.slice none 0 0)).run Try.prog w = .ok (.bool a.isNone) w := _root_.Go.run_eql_slice_nil w _ _ a l c Try.underlying37
theorem neNil (w : World) (a : Option Addr) (l c : Nat) : (binOp .neq 37 (.slice a l c) (.slice none 0 0)).run Try.prog w = .ok (.bool (!a.isNone)) w := _root_.Go.run_neq_slice_nil w _ _ a l c Try.underlying37
def waitN (h : Nat) : St → Nat
  | .hdr l => l.length
  | .bod _ l => wid h + l.length
  | .brk _ => 0
theorem wid_int (h : Nat) : (wid h : Int) ≤ 4 := by have := wid_le h; omega
set_option maxRecDepth 100000 in
theorem waits_any {w : World} {g h m : Nat} {st : St} {i : Nat} {bb : Option Nat} (L : Lie w g h m st i bb) (h1 : 1 ≤ h) (h4 : h ≤ 4) (hm : m ≤ 9999) :
    Calls Try.prog 18 #[.pointer (some ⟨g, 0, none⟩)] w fun e' w' => e' = .returned (.int .i64 (waitN h st : Int)) ∧ Below w.heap.size w w' := by
  obtain ⟨a, b, c, d, body, t, e, S, L⟩ := L
  have c0 : w.cell? ⟨g, 0, none⟩ = some (.int .i64 (h : Int)) := S.ce 0
  have c6 : w.cell? ⟨g, 6, none⟩ = some body := S.ce 6
  have c7 : w.cell? ⟨g, 7, none⟩ = some (.int .i64 (t : Int)) := S.ce 7
  have ne := eqNil
  have p := fun w => width_any h h1 h4 w
  have hw := wid_int h
  generalize hW : wid h = W at *
  have HW : Hid (wid h = W) := hW
  clear hW
  cases st with
  | hdr l =>
    obtain ⟨_, rfl, rfl, _⟩ := L
    go_enter Try.func18, Try.ntmps18
    go_wp2
    go_ret
    exact ⟨rfl, Below.refl _ _⟩
  | brk k =>
    obtain ⟨_, rfl, rfl, _⟩ := L
    go_enter Try.func18, Try.ntmps18
    go_wp2
    go_ret
    exact ⟨rfl, Below.refl _ _⟩
  | bod n l =>
    obtain ⟨gp, z, _, _, rfl, _, rfl, _, hl, hn, _⟩ := L
    have hl2 : (l.length : Int) ≤ 9999 := by omega
    have HE : Hid (waitN h (.bod n l) = W + l.length) := by show wid h + l.length = _; rw [HW.out]
    generalize waitN h (.bod n l) = Z at *
    generalize l.length = k at *
    go_enter Try.func18, Try.ntmps18
    go_wp2
    go_quiet ((go_at_call 36; exact Calls.quiet_of_same (p _)))
    go_wp2
    go_ret
    exact ⟨by rw [HE.out]; simp, below_drewN (Below.refl _ _) _⟩
theorem idle_any {w : World} {g h m : Nat} {st : St} {i : Nat} {bb : Option Nat} (L : Lie w g h m st i bb) :
    Calls Try.prog 20 #[.pointer (some ⟨g, 0, none⟩)] w fun e' w' => e' = .returned (.int .i64 (i : Int)) ∧ w' = w := by
  obtain ⟨a, b, c, d, body, t, e, S, L⟩ := L
  have c8 : w.cell? ⟨g, 8, none⟩ = some (.int .i64 (i : Int)) := S.ce 8
  go_enter Try.func20, Try.ntmps20
  go_wp2
  go_ret
  exact ⟨rfl, rfl⟩
theorem reset_any {w : World} {g h m : Nat} {st : St} {i : Nat} {bb : Option Nat} (L : Lie w g h m st i bb) :
    Calls Try.prog 16 #[.pointer (some ⟨g, 0, none⟩)] w fun e' w' => e' = .returned (.tuple #[]) ∧ Lie w' g h m (.hdr []) i none ∧ Fr [g] w w' := by
  obtain ⟨a, b, c, d, body, t, e, S, L⟩ := L
  go_enter Try.func16, Try.ntmps16
  go_wp2_with fail
  refine (drop_any S).mono ?_
  rintro e1 x ⟨rfl, Sx, fx⟩
  have k9 : x.cell? ⟨g, 9, none⟩ = some (.int .i64 (e : Int)) := Sx.ce 9
  have f9 := Sx.fz 9
  have HX : Hid (Sm x g h m a b c d (.slice none 0 0) 0 i e) := Sx
  have HF : Hid (Fr [g] w x) := fx
  clear Sx fx
  go_wp2_with fail
  go_end0
  exact ⟨rfl, ⟨a, b, c, d, _, _, _, HX.out.set9 0, rfl, rfl, rfl, wid_pos h, rfl, rfl⟩, HF.out.set (.inl (by simp)) _ _⟩
theorem new_lie (h m : Nat) (hr : rgt (h : Int) (m : Int) = true) (w : World) : Calls Try.prog 9 #[.int .i64 (h : Int), .int .i64 (m : Int)] w fun e' w' => e' = .returned (.tuple #[.pointer (some ⟨w.heap.size, 0, none⟩), .int .i64 0]) ∧ Lie w' w.heap.size h m (.hdr []) 0 none ∧ Below w.heap.size w w' := by
  refine (new_any h m hr w).mono ?_
  rintro e x ⟨rfl, S, hb⟩
  exact ⟨rfl, ⟨_, _, _, _, _, _, _, S, rfl, rfl, rfl, wid_pos h, rfl, rfl⟩, hb⟩
end Go.Proofs.Ytfoddooehanemaa.Ff
