/- The program's maps: And, Less, Without, With, Has. -/
import Derived.Test.YtkleoklcaalogaaBm
namespace Go.Proofs.Ytkleoklcaalogaa.Bn
set_option linter.unusedVariables false
open Go.RowKit Pla Bm
theorem forall_and4 {α : Sort _} {p q r t : α → Prop} : (∀ o, p o ∧ q o ∧ r o ∧ t o) ↔ (∀ o, p o) ∧ (∀ o, q o) ∧ (∀ o, r o) ∧ (∀ o, t o) :=
  ⟨fun h => ⟨fun o => (h o).1, fun o => (h o).2.1, fun o => (h o).2.2.1, fun o => (h o).2.2.2⟩, fun h o => ⟨h.1 o, h.2.1 o, h.2.2.1 o, h.2.2.2 o⟩⟩
set_option maxHeartbeats 1600000 in
theorem and_any (F S F' S' : Nat) (hF : F < 18446744073709551616) (hS : S < 18446744073709551616) (hF' : F' < 18446744073709551616) (hS' : S' < 18446744073709551616) (w : World) :
    Calls Try.prog 9 #[.agg #[.int .u64 (F : Int), .int .u64 (S : Int)], .agg #[.int .u64 (F' : Int), .int .u64 (S' : Int)]] w fun e w' => e = .returned (.agg #[.int .u64 (fld (F &&& F') : Int), .int .u64 (fld (S &&& S') : Int)]) ∧ Below w.heap.size w w' := by
  have e1 := u64_and_nat F F' hF hF'
  have e2 := u64_and_nat S S' hS hS'
  go_enter Try.func9, Try.ntmps9
  go_wp2_with (go_at_call 24; refine (fields_any _ _ (and_lt hF) (and_lt hS) _).mono ?_; rintro e x ⟨rfl, hb⟩; obtain ⟨c0, c1, f0, f1⟩ := held2 hb (h3_2 w _ _ _))
  exact bodyPost_ret (v := .agg #[.int .u64 (fld (F &&& F') : Int), .int .u64 (fld (S &&& S') : Int)]) (by simp [results, Try.results9, go_sem, c0, c1]) rfl ⟨rfl, ((keepB (below_three w _ _ _) hb).setCell (by simp; omega) _).setCell (by simp; omega) _⟩
set_option maxHeartbeats 1600000 in
theorem less_any (F S F' S' : Nat) (hF : F < 18446744073709551616) (hS : S < 18446744073709551616) (hF' : F' < 18446744073709551616) (hS' : S' < 18446744073709551616) (w : World) :
    Calls Try.prog 11 #[.agg #[.int .u64 (F : Int), .int .u64 (S : Int)], .agg #[.int .u64 (F' : Int), .int .u64 (S' : Int)]] w fun e w' => e = .returned (.agg #[.int .u64 (fld (less F F') : Int), .int .u64 (fld (less S S') : Int)]) ∧ Below w.heap.size w w' := by
  have e1 := u64_andNot_nat F F' hF hF'
  have e2 := u64_andNot_nat S S' hS hS'
  rw [show F &&& (18446744073709551615 - F') = less F F' from rfl] at e1
  rw [show S &&& (18446744073709551615 - S') = less S S' from rfl] at e2
  go_enter Try.func11, Try.ntmps11
  go_wp2_with (go_at_call 24; refine (fields_any _ _ (less_lt hF) (less_lt hS) _).mono ?_; rintro e x ⟨rfl, hb⟩; obtain ⟨c0, c1, f0, f1⟩ := held2 hb (h3_2 w _ _ _))
  exact bodyPost_ret (v := .agg #[.int .u64 (fld (less F F') : Int), .int .u64 (fld (less S S') : Int)]) (by simp [results, Try.results11, go_sem, c0, c1]) rfl ⟨rfl, ((keepB (below_three w _ _ _) hb).setCell (by simp; omega) _).setCell (by simp; omega) _⟩
/-- is a map right? -/
def rightB (F S : Nat) : Bool := decide (F < 9223372036854775808) && decide (S < 9223372036854775808)
/-- With's answer -/
def withV (F S : Nat) (n : Int) : Nat × Nat × Int := if field n && rightB F S then (F ||| onlyF n, S ||| onlyS n, 0) else (0, 0, 1)
end Go.Proofs.Ytkleoklcaalogaa.Bn
