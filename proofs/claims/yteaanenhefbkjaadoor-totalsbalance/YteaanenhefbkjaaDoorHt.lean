/- Class, Function, asks: both sides. -/
import Derived.Test.YteaanenhefbkjaaDoorHr
namespace Go.Proofs.YteaanenhefbkjaaDoor.Ht
set_option linter.unusedVariables false
set_option linter.unusedSimpArgs false
open Go.RowKit Hp Hr
def byt (s : ByteArray) (i : Nat) : Nat := (s.data.toList.getD i 0).toNat
def dg (s : ByteArray) (i : Nat) : Int := if rt s then (byt s i : Int) - 48 else 0
def askT (s : ByteArray) : Bool := rt s && askN (byt s 2)
theorem byt_at (s : ByteArray) (i : Nat) (h : i < s.size) : (s[i]'h).toNat = byt s i := by
  have hl : i < s.data.toList.length := by simpa using h
  rw [byt, List.getD_eq_getElem?_getD, List.getElem?_eq_getElem hl]
  rfl
theorem rt_facts (s : ByteArray) (h : rt s = true) : s.size = 4 ∧ rt4 (byt s 0) (byt s 1) (byt s 2) (byt s 3) = true := by
  by_cases hs : s.size = 4
  · refine ⟨hs, ?_⟩
    rw [rt_four s hs, byt_at, byt_at, byt_at, byt_at] at h
    exact h
  · rw [rt_no s hs] at h; cases h
theorem rt_nums {A B C D : Nat} (h : rt4 A B C D = true) : (A = 48 ∨ A = 49) ∧ 49 ≤ B ∧ B ≤ 56 ∧ 48 ≤ C ∧ C ≤ 51 ∧ (D = 48 ∨ D = 49) := by
  simp only [rt4, fnN, orN, askN, Bool.and_eq_true, Bool.or_eq_true, beq_iff_eq, decide_eq_true_eq] at h
  omega
set_option maxRecDepth 100000 in
set_option maxHeartbeats 800000 in
theorem digitAt_any (s : ByteArray) (hl : s.size ≤ maxLen) (p : Nat) (hp : p = 1 ∨ p = 2) (w : World) : Calls Tryd.prog 37 #[.string s, .int .i64 (p : Int)] w fun e w' => e = .returned (.int .i64 (dg s p)) ∧ ∃ m, w' = w.drewN m := by
  have pr := fun w => right_any s hl w
  cases hr : rt s with
  | false =>
    have e : dg s p = 0 := by rw [dg, hr]; rfl
    rw [e]
    rw [hr] at pr
    go_enter Tryd.func37, Tryd.ntmps37
    go_wp2_with fail
    refine (pr _).mono ?_
    rintro e x ⟨rfl, m, hx⟩
    rw [hx]
    clear hx x
    go_wp2_with fail
    go_ret
    exact ⟨rfl, m, rfl⟩
  | true =>
    obtain ⟨hs, h4⟩ := rt_facts s hr
    have hn := rt_nums h4
    have e : dg s p = (byt s p : Int) - 48 := by rw [dg, hr]; rfl
    rw [e]
    rw [hr] at pr
    have hb : 48 ≤ byt s p ∧ byt s p ≤ 57 := by rcases hp with rfl | rfl <;> omega
    have hp4 : p < 4 := by omega
    have hx := byt_at s p (by omega)
    generalize byt s p = X at *
    have q1 : (p : Int) < 4 := by omega
    have q2 : IntKind.u8.wrap ((X : Int) - 48) = (X : Int) - 48 := by rw [IntKind.wrap_u8]; omega
    have q3 : (48 : Int) ≤ (X : Int) := by omega
    have q4 : (X : Int) ≤ 57 := by omega
    clear h4 hn hb e hp hl
    go_enter Tryd.func37, Tryd.ntmps37
    go_wp2_with fail
    refine (pr _).mono ?_
    rintro e x ⟨rfl, m, hx2⟩
    rw [hx2]
    clear hx2 x
    go_wp2_with fail
    go_ret
    exact ⟨rfl, m, rfl⟩
end Go.Proofs.YteaanenhefbkjaaDoor.Ht
