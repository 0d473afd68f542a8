/- isField; soundField of a field with a value alone. -/
import Derived.Test.YtmnoplaepjaokaaGreatDoorIe
import Derived.Test.YtmnoplaepjaokaaGreatDoorOf
namespace Go.Proofs.YtmnoplaepjaokaaGreatDoor.If
set_option linter.unusedVariables false
set_option linter.unusedSimpArgs false
open Go.RowKit Kb Ix
def fldT (n : Int) : Bool := (Of.ofV [n]).2.2 == 0
theorem isField_any (n : Int) (hn : -9223372036854775808 ≤ n ∧ n ≤ 9223372036854775807) (w : World) : Calls Tryz.prog 145 #[.int .i64 n] w fun e w' => e = .returned (.bool (fldT n)) ∧ Below w.heap.size w w' := by
  have hf : fldT n = ((Of.ofV [n]).2.2 == 0) := rfl
  have p := Of.of_any [n] w.heap.size 0 1 (w.alloc (.cells #[.int .i64 n] 3)) (by simp) (fun i hi => by
    match i, hi with
    | 0, _ => exact cell_one_new w (.int .i64 n) 3 0 _ rfl) (by intro z hz; simp at hz; subst hz; exact hn) (by simp)
  rw [hf]
  clear hf
  generalize (Of.ofV [n]).2.2 = E at *
  generalize (((Of.ofV [n]).1 : Nat) : Int) = A at *
  generalize (((Of.ofV [n]).2.1 : Nat) : Int) = B at *
  have hb0 := below_new w (.cells #[.int .i64 n] 3)
  go_enter Tryz.func145, Tryz.ntmps145
  go_wp2_with fail
  refine p.mono ?_
  rintro e x ⟨rfl, hx⟩
  have hb : Hid (Below w.heap.size w x) := hb0.trans (hx.mono (by simp))
  clear hx p hb0
  go_wp2_with fail
  go_ret
  exact ⟨rfl, hb.out.alloc hb.out.size _⟩
theorem box_kept {w x : World} {a b c : Value} (h : Below (w.alloc (.cells #[a, b, c] 81)).heap.size (w.alloc (.cells #[a, b, c] 81)) x) : x.cell? ⟨w.heap.size, 0, none⟩ = some a ∧ x.cell? ⟨w.heap.size, 1, none⟩ = some b ∧ x.cell? ⟨w.heap.size, 2, none⟩ = some c := by
  have hc : x.heap[w.heap.size]? = some (.cells #[a, b, c] 81) := by
    rw [heap_kept h (by simp)]; exact heap_alloc_new w _
  exact ⟨by simp [World.cell?, hc], by simp [World.cell?, hc], by simp [World.cell?, hc]⟩
set_option maxRecDepth 100000 in
theorem soundField_leaf (n : Int) (hn : -9223372036854775808 ≤ n ∧ n ≤ 9223372036854775807) (s : ByteArray) (hl : s.size ≤ maxLen) (w : World) : Calls Tryz.prog 120 #[.agg #[.int .i64 n, .string s, .slice none 0 0]] w fun e w' => e = .returned (.bool (fldT n)) ∧ Below w.heap.size w w' := by
  have p := fun w => isField_any n hn w
  have q := fun w => Ie.roomBehind_nil 1 500 w
  cases hf : fldT n with
  | false =>
    rw [hf] at p
    clear q
    go_enter Tryz.func120, Tryz.ntmps120
    go_wp2_with fail
    refine (p _).mono ?_
    rintro e x ⟨rfl, hx⟩
    obtain ⟨c0, c1, c2⟩ := box_kept hx
    have hb : Hid (Below w.heap.size w x) := (below_new w _).trans (hx.mono (by simp))
    clear hx
    go_wp2_with fail
    go_ret
    exact ⟨rfl, hb.out⟩
  | true =>
    rw [hf] at p
    cases hs : s.toList.isEmpty with
    | true =>
      have g : s.toList = [] := by simpa using hs
      go_enter Tryz.func120, Tryz.ntmps120
      go_wp2_with fail
      refine (p _).mono ?_
      rintro e x ⟨rfl, hx⟩
      obtain ⟨c0, c1, c2⟩ := box_kept hx
      have hb : Hid (Below w.heap.size w x) := (below_new w _).trans (hx.mono (by simp))
      clear hx
      go_wp2_with fail
      refine (q _).mono ?_
      rintro e y ⟨rfl, hyy⟩
      rw [hyy]
      clear hyy y
      go_wp2_with fail
      go_ret
      exact ⟨rfl, hb.out⟩
    | false =>
      have g : ¬ s.toList = [] := by simpa using hs
      go_enter Tryz.func120, Tryz.ntmps120
      go_wp2_with fail
      refine (p _).mono ?_
      rintro e x ⟨rfl, hx⟩
      obtain ⟨c0, c1, c2⟩ := box_kept hx
      have hb : Hid (Below w.heap.size w x) := (below_new w _).trans (hx.mono (by simp))
      clear hx
      go_wp2_with fail
      refine (q _).mono ?_
      rintro e y ⟨rfl, hyy⟩
      rw [hyy]
      clear hyy y
      go_wp2_with fail
      go_ret
      exact ⟨rfl, hb.out⟩
end Go.Proofs.YtmnoplaepjaokaaGreatDoor.If
