/- Tracks: a step of the walk: take. -/
import Derived.Test.YtbekjlinnbmpgaaKd
import Derived.Test.YtbekjlinnbmpgaaQl
import Derived.Lib.Bytealg
namespace Go.Proofs.Ytbekjlinnbmpgaa.Kt
set_option linter.unusedVariables false
open Go.RowKit Lib0 Kp Kb Kd
theorem run_ibs (s : ByteArray) (c : Int) (w : World) : (callFunc 41 #[.string s, .int .u8 c]).run Try.prog w = .ok (.value (.int .i64 (Lib.indexByte s.data.toList c.toNat.toUInt8))) w := by
  rw [run_callFunc_extern (P := Try.prog) (e := Extern.BytealgIndexByte.indexByte) Try.func41 (by kernel_rfl) (by kernel_rfl) (by kernel_rfl) (by kernel_rfl) #[.string s, .int .u8 c] w, Lib.run_indexByteString]
  rfl
theorem ib1 (s : ByteArray) (c : Int) (w : World) :
    Calls Try.prog 40 #[.string s, .int .u8 c] w fun e w' => e = .returned (.int .i64 (Lib.indexByte s.data.toList c.toNat.toUInt8)) ∧ w' = w := by
  have h := run_ibs s c
  go_enter Try.func40, Try.ntmps40
  go_wp2
  go_ret
  exact ⟨rfl, rfl⟩
theorem ib2 (s : ByteArray) (c : Int) (w : World) :
    Calls Try.prog 39 #[.string s, .int .u8 c] w fun e w' => e = .returned (.int .i64 (Lib.indexByte s.data.toList c.toNat.toUInt8)) ∧ w' = w := by
  go_enter Try.func39, Try.ntmps39
  go_wp2_with fail
  refine (ib1 s c _).mono ?_
  rintro e w' ⟨rfl, rfl⟩
  go_wp2
  go_ret
  exact ⟨rfl, rfl⟩

/-- one of these -/
def mem (t : ByteArray) (c : UInt8) : Bool := decide (0 ≤ Lib.indexByte t.data.toList c)
/-- there is a byte, and it fits -/
def tk (p : UInt8 → Bool) (s : ByteArray) (k : Nat) : Bool := decide (k < s.size) && p (gb s k)
theorem tk_end (p : UInt8 → Bool) (s : ByteArray) (k : Nat) (h : s.size ≤ k) : tk p s k = false := by simp [tk]; omega
theorem tk_in (p : UInt8 → Bool) (s : ByteArray) (k : Nat) (h : k < s.size) : tk p s k = p s[k] := by rw [gb_eq s k h, tk]; simp [h]
theorem ixb_lt (t : List UInt8) (c : UInt8) : Lib.indexByte t c < 0 ↔ Lib.indexByte t c = -1 := by
  constructor
  · intro h
    induction t with
    | nil => rfl
    | cons x t ih =>
      simp only [Lib.indexByte] at h ⊢
      split at h
      · omega
      · split at h
        · rename_i h1 h2; simp only [h1, h2, if_true]; simp
        · rename_i h1 h2
          have : Lib.indexByte t c < 0 := by omega
          have := ih this
          simp [this] at h2
  · omega
theorem isAgg_int (y : World) : (isAgg 3).run Try.prog y = .ok false y := by simp [isAgg, go_sem]
theorem isAgg_str (y : World) : (isAgg 9).run Try.prog y = .ok false y := by simp [isAgg, go_sem]
theorem setCell_heap {w : World} {g : Nat} {c : Array Value} {t : TypeId} {fr : Nat × Nat} (h : w.heap[g]? = some (.cells c t fr)) (o : Nat) (v : Value) : (w.setCell ⟨g, o, none⟩ v).heap[g]? = some (.cells (c.setIfInBounds o v) t fr) := by
  show (w.heap.modify g _)[g]? = _
  rw [Array.getElem?_modify]; simp [h]
theorem setCell_ne {w : World} {g k : Nat} (h : g ≠ k) (o : Nat) (v : Value) : (w.setCell ⟨g, o, none⟩ v).heap[k]? = w.heap[k]? := by
  show (w.heap.modify g _)[k]? = _
  rw [Array.getElem?_modify]; simp [h]
theorem below_setCell {B : Nat} {a w : World} (h : Below B a w) {g : Nat} (hg : B ≤ g) (o : Nat) (v : Value) : Below B a (w.setCell ⟨g, o, none⟩ v) :=
  ⟨h.os, h.tape, h.output, by have := h.size; simpa [World.setCell] using this, fun k hk => (setCell_ne (by omega) o v).trans (h.block k hk)⟩
set_option maxRecDepth 100000 in
set_option maxHeartbeats 1600000 in
theorem take_any (t s : ByteArray) (k b : Nat) (x : World) (hs : s.size ≤ 4194304) (hk : k ≤ s.size) (M : x.heap[b]? = some (Obj.cells #[.string s, .int .i64 (k : Int)] 61)) :
    Calls Try.prog 34 #[.pointer (some ⟨b, 0, none⟩), .string t] x fun e y => e = .returned (.bool (tk (mem t) s k)) ∧ y.heap[b]? = some (Obj.cells #[.string s, .int .i64 (((if tk (mem t) s k then k + 1 else k : Nat)) : Int)] 61) ∧ Below b x y := by
  obtain ⟨c0, c1, f0, f1⟩ := held2 (Below.refl _ x) M
  have hb : b < x.heap.size := (Array.getElem?_eq_some_iff.1 M).1
  by_cases hlt : k < s.size
  · have q1 : ((k : Int) == (s.size : Int)) = false := by simp; omega
    rw [tk_in _ s k hlt]
    have p := ib2 t (s[k].toNat : Int)
    rw [show ((s[k].toNat : Int).toNat.toUInt8) = s[k] by simp] at p
    have hm : mem t s[k] = decide (0 ≤ Lib.indexByte t.data.toList s[k]) := rfl
    generalize Lib.indexByte t.data.toList s[k] = ix at *
    go_enter Try.func34, Try.ntmps34
    go_wp2_with fail
    go_quiet ((go_at_call 39; exact Calls.quiet_of_same (p _)))
    have Mq : (x.drewN nq).heap[b]? = some (Obj.cells #[.string s, .int .i64 (k : Int)] 61) := by rw [World.heap_drewN]; exact M
    have hB := below_drewN (Below.refl b x) nq
    obtain ⟨d0, d1, g0, g1⟩ := held2 (Below.refl _ _) Mq
    generalize x.drewN nq = y at *
    by_cases hix : ix < 0
    · have hf : mem t s[k] = false := by rw [hm]; simp; exact hix
      rw [hf] at *
      go_wp2
      go_ret
      exact ⟨rfl, Mq, hB⟩
    · have hf : mem t s[k] = true := by rw [hm]; simp; omega
      rw [hf] at *
      go_wp2
      go_ret
      exact ⟨rfl, setCell_heap Mq 1 _, below_setCell hB (Nat.le_refl _) _ _⟩
  · have q1 : (s.size : Int) = (k : Int) := by omega
    rw [tk_end _ s _ (by omega)]
    clear hlt hk hs
    go_enter Try.func34, Try.ntmps34
    go_wp2_with fail
    go_region
    have Mq : x.drew.heap[b]? = some (Obj.cells #[.string s, .int .i64 (k : Int)] 61) := M
    have hB := (Below.refl b x).drew
    generalize x.drew = y at *
    go_wp2
    go_ret
    exact ⟨rfl, Mq, hB⟩
end Go.Proofs.Ytbekjlinnbmpgaa.Kt
