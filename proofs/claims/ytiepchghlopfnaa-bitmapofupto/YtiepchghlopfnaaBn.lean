/- The program's maps: And, Less, Without, With, Has. -/
import Derived.Test.YtiepchghlopfnaaBm
namespace Go.Proofs.Ytiepchghlopfnaa.Bn
open Go.RowKit Pla Bm
theorem forall_and4 {α : Sort _} {p q r t : α → Prop} : (∀ o, p o ∧ q o ∧ r o ∧ t o) ↔ (∀ o, p o) ∧ (∀ o, q o) ∧ (∀ o, r o) ∧ (∀ o, t o) :=
  ⟨fun h => ⟨fun o => (h o).1, fun o => (h o).2.1, fun o => (h o).2.2.1, fun o => (h o).2.2.2⟩, fun h o => ⟨h.1 o, h.2.1 o, h.2.2.1 o, h.2.2.2 o⟩⟩
set_option maxHeartbeats 1600000 in
theorem and_any (F S F' S' : Nat) (hF : F < 18446744073709551616) (hS : S < 18446744073709551616) (hF' : F' < 18446744073709551616) (hS' : S' < 18446744073709551616) (w : World) :
    Calls Try.prog 25 #[.agg #[.int .u64 (F : Int), .int .u64 (S : Int)], .agg #[.int .u64 (F' : Int), .int .u64 (S' : Int)]] w fun e w' => e = .returned (.agg #[.int .u64 (fld (F &&& F') : Int), .int .u64 (fld (S &&& S') : Int)]) ∧ Below w.heap.size w w' := by
  have e1 := u64_and_nat F F' hF hF'
  have e2 := u64_and_nat S S' hS hS'
  go_enter Try.func25, Try.ntmps25
  go_wp2_with (go_at_call 45; refine (fields_any _ _ (and_lt hF) (and_lt hS) _).mono ?_; rintro e x ⟨rfl, hb⟩; obtain ⟨c0, c1, f0, f1⟩ := held2 hb (h3_2 w _ _ _))
  exact bodyPost_ret (v := .agg #[.int .u64 (fld (F &&& F') : Int), .int .u64 (fld (S &&& S') : Int)]) (by simp [results, Try.results25, go_sem, c0, c1]) rfl ⟨rfl, ((keepB (below_three w _ _ _) hb).setCell (by simp; omega) _).setCell (by simp; omega) _⟩
set_option maxHeartbeats 1600000 in
theorem less_any (F S F' S' : Nat) (hF : F < 18446744073709551616) (hS : S < 18446744073709551616) (hF' : F' < 18446744073709551616) (hS' : S' < 18446744073709551616) (w : World) :
    Calls Try.prog 27 #[.agg #[.int .u64 (F : Int), .int .u64 (S : Int)], .agg #[.int .u64 (F' : Int), .int .u64 (S' : Int)]] w fun e w' => e = .returned (.agg #[.int .u64 (fld (less F F') : Int), .int .u64 (fld (less S S') : Int)]) ∧ Below w.heap.size w w' := by
  have e1 := u64_andNot_nat F F' hF hF'
  have e2 := u64_andNot_nat S S' hS hS'
  rw [show F &&& (18446744073709551615 - F') = less F F' from rfl] at e1
  rw [show S &&& (18446744073709551615 - S') = less S S' from rfl] at e2
  go_enter Try.func27, Try.ntmps27
  go_wp2_with (go_at_call 45; refine (fields_any _ _ (less_lt hF) (less_lt hS) _).mono ?_; rintro e x ⟨rfl, hb⟩; obtain ⟨c0, c1, f0, f1⟩ := held2 hb (h3_2 w _ _ _))
  exact bodyPost_ret (v := .agg #[.int .u64 (fld (less F F') : Int), .int .u64 (fld (less S S') : Int)]) (by simp [results, Try.results27, go_sem, c0, c1]) rfl ⟨rfl, ((keepB (below_three w _ _ _) hb).setCell (by simp; omega) _).setCell (by simp; omega) _⟩
set_option maxHeartbeats 1600000 in
theorem without_any (F S : Nat) (n : Int) (hF : F < 18446744073709551616) (hS : S < 18446744073709551616) (h1 : -9223372036854775808 ≤ n) (h2 : n ≤ 9223372036854775807) (w : World) :
    Calls Try.prog 18 #[.agg #[.int .u64 (F : Int), .int .u64 (S : Int)], .int .i64 n] w fun e w' => e = .returned (.agg #[.int .u64 (less F (onlyF n) : Int), .int .u64 (less S (onlyS n) : Int)]) ∧ Below w.heap.size w w' := by
  have e1 := u64_andNot_nat F (onlyF n) hF (onlyF_lt n)
  have e2 := u64_andNot_nat S (onlyS n) hS (onlyS_lt n)
  rw [show F &&& (18446744073709551615 - onlyF n) = less F (onlyF n) from rfl] at e1
  rw [show S &&& (18446744073709551615 - onlyS n) = less S (onlyS n) from rfl] at e2
  go_enter Try.func18, Try.ntmps18
  go_wp2_with (go_at_call 41; refine (only_any n h1 h2 _).mono ?_; rintro e x ⟨rfl, hb⟩; obtain ⟨c0, c1, f0, f1⟩ := forall_and4.1 (held2a hb (h2_0 w _ _)); obtain ⟨d0, d1, g0, g1⟩ := forall_and4.1 (held2a hb (h2_1 w _ _)); have z := hb.size; have n1 : w.heap.size ≠ x.heap.size := (by simp at z; omega); have n2 : w.heap.size + 1 ≠ x.heap.size := (by simp at z; omega))
  exact bodyPost_ret (v := .agg #[.int .u64 (less F (onlyF n) : Int), .int .u64 (less S (onlyS n) : Int)]) (by simp [results, Try.results18, go_sem, d0, d1]) rfl ⟨rfl, (((keepB (below_two w _ _) hb).alloc (by simp at z; omega) _).setCell (by simp) _).setCell (by simp) _⟩
/-- is a map right? -/
def rightB (F S : Nat) : Bool := decide (F < 9223372036854775808) && decide (S < 9223372036854775808)
set_option maxHeartbeats 1600000 in
theorem with_ok (F S : Nat) (n : Int) (hF : F < 18446744073709551616) (hS : S < 18446744073709551616) (h1 : -9223372036854775808 ≤ n) (h2 : n ≤ 9223372036854775807) (hf : field n = true) (hr : rightB F S = true) (w : World) :
    Calls Try.prog 16 #[.agg #[.int .u64 (F : Int), .int .u64 (S : Int)], .int .i64 n] w fun e w' => e = .returned (.tuple #[.agg #[.int .u64 ((F ||| onlyF n : Nat) : Int), .int .u64 ((S ||| onlyS n : Nat) : Int)], .int .i64 0]) ∧ Below w.heap.size w w' := by
  go_enter Try.func16, Try.ntmps16
  go_wp2_with (first
    | (go_at_call 39; refine (isField_any _ _).mono ?_; rintro e x ⟨rfl, rfl⟩; rw [hf])
    | (go_at_call 20; refine (right_any _ _ hF hS _).mono ?_; rintro e x ⟨rfl, hb⟩; rw [show (decide (F < 9223372036854775808) && decide (S < 9223372036854775808)) = true from hr]; obtain ⟨c0, c1, f0, f1⟩ := held2 hb (h2_0 w _ _); obtain ⟨d0, d1, g0, g1⟩ := held2 hb (h2_1 w _ _); have x0 := kept hb (h2_0 w _ _); have x1 := kept hb (h2_1 w _ _)))
  go_region_with (first
    | (go_at_call 41; refine (only_any n h1 h2 _).mono ?_; rintro e y ⟨rfl, hc⟩; obtain ⟨i0, i1, j0, j1⟩ := held2 hc x0; obtain ⟨k0, k1, l0, l1⟩ := held2 hc x1; have y1 := kept hc x1)
    | (go_at_call 40; refine (or_any _ _ _ _ hF hS (onlyF_lt n) (onlyS_lt n) _).mono ?_; rintro e z ⟨rfl, hd⟩; obtain ⟨p0, p1, q0, q1⟩ := held2 hd y1))
  all_goals
    go_wp2
    exact bodyPost_ret (v := .tuple #[.agg #[.int .u64 ((F ||| onlyF n : Nat) : Int), .int .u64 ((S ||| onlyS n : Nat) : Int)], .int .i64 0]) (by simp [results, Try.results16, go_sem, p0, p1]) rfl ⟨rfl, ((keepB (keepB (keepB (below_two w _ _) hb).drew hc) hd).setCell (by simp) _).setCell (by simp) _⟩
set_option maxHeartbeats 1600000 in
theorem with_bad1 (F S : Nat) (n : Int) (hf : field n = false) (w : World) :
    Calls Try.prog 16 #[.agg #[.int .u64 (F : Int), .int .u64 (S : Int)], .int .i64 n] w fun e w' => e = .returned (.tuple #[.agg #[.int .u64 0, .int .u64 0], .int .i64 1]) ∧ Below w.heap.size w w' := by
  go_enter Try.func16, Try.ntmps16
  go_wp2_with (go_at_call 39; refine (isField_any _ _).mono ?_; rintro e x ⟨rfl, rfl⟩; rw [hf])
  exact bodyPost_ret (v := .tuple #[.agg #[.int .u64 0, .int .u64 0], .int .i64 1]) (by simp [results, Try.results16, go_sem]) rfl ⟨rfl, below_two w _ _⟩
set_option maxHeartbeats 1600000 in
theorem with_bad2 (F S : Nat) (n : Int) (hF : F < 18446744073709551616) (hS : S < 18446744073709551616) (hf : field n = true) (hr : rightB F S = false) (w : World) :
    Calls Try.prog 16 #[.agg #[.int .u64 (F : Int), .int .u64 (S : Int)], .int .i64 n] w fun e w' => e = .returned (.tuple #[.agg #[.int .u64 0, .int .u64 0], .int .i64 1]) ∧ Below w.heap.size w w' := by
  go_enter Try.func16, Try.ntmps16
  go_wp2_with (first
    | (go_at_call 39; refine (isField_any _ _).mono ?_; rintro e x ⟨rfl, rfl⟩; rw [hf])
    | (go_at_call 20; refine (right_any _ _ hF hS _).mono ?_; rintro e x ⟨rfl, hb⟩; rw [show (decide (F < 9223372036854775808) && decide (S < 9223372036854775808)) = false from hr]; obtain ⟨c0, c1, f0, f1⟩ := held2 hb (h2_0 w _ _); obtain ⟨d0, d1, g0, g1⟩ := held2 hb (h2_1 w _ _)))
  exact bodyPost_ret (v := .tuple #[.agg #[.int .u64 0, .int .u64 0], .int .i64 1]) (by simp [results, Try.results16, go_sem, d0, d1]) rfl ⟨rfl, ((keepB (below_two w _ _) hb).setCell (by simp) _).setCell (by simp) _⟩
/-- With's answer -/
def withV (F S : Nat) (n : Int) : Nat × Nat × Int := if field n && rightB F S then (F ||| onlyF n, S ||| onlyS n, 0) else (0, 0, 1)
theorem with_any (F S : Nat) (n : Int) (hF : F < 18446744073709551616) (hS : S < 18446744073709551616) (h1 : -9223372036854775808 ≤ n) (h2 : n ≤ 9223372036854775807) (w : World) :
    Calls Try.prog 16 #[.agg #[.int .u64 (F : Int), .int .u64 (S : Int)], .int .i64 n] w fun e w' => e = .returned (.tuple #[.agg #[.int .u64 ((withV F S n).1 : Int), .int .u64 ((withV F S n).2.1 : Int)], .int .i64 (withV F S n).2.2]) ∧ Below w.heap.size w w' := by
  cases hf : field n
  · rw [show withV F S n = (0, 0, 1) by simp [withV, hf]]; exact with_bad1 F S n hf w
  · cases hr : rightB F S
    · rw [show withV F S n = (0, 0, 1) by simp [withV, hf, hr]]; exact with_bad2 F S n hF hS hf hr w
    · rw [show withV F S n = (F ||| onlyF n, S ||| onlyS n, 0) by simp [withV, hf, hr]]; exact with_ok F S n hF hS h1 h2 hf hr w
end Go.Proofs.Ytiepchghlopfnaa.Bn
