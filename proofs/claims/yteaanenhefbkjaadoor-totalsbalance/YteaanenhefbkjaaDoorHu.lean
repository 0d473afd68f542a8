/- Class, Function, asks, cards: both sides. -/
import Derived.Test.YteaanenhefbkjaaDoorHt
namespace Go.Proofs.YteaanenhefbkjaaDoor.Hu
set_option linter.unusedVariables false
set_option linter.unusedSimpArgs false
open Go.RowKit Hp Hr Ht
set_option maxRecDepth 100000 in
set_option maxHeartbeats 800000 in
theorem class_any (s : ByteArray) (hl : s.size ≤ maxLen) (w : World) : Calls Tryd.prog 26 #[.string s] w fun e w' => e = .returned (.int .i64 (dg s 1)) ∧ ∃ m, w' = w.drewN m := by
  have pd := fun w => digitAt_any s hl 1 (by omega) w
  generalize dg s 1 = X at *
  go_enter Tryd.func26, Tryd.ntmps26
  go_wp2_with fail
  refine (pd _).mono ?_
  rintro e x ⟨rfl, m, hx⟩
  rw [hx]
  clear hx x
  go_wp2_with fail
  go_ret
  exact ⟨rfl, m, rfl⟩
set_option maxRecDepth 100000 in
set_option maxHeartbeats 800000 in
theorem function_any (s : ByteArray) (hl : s.size ≤ maxLen) (w : World) : Calls Tryd.prog 27 #[.string s] w fun e w' => e = .returned (.int .i64 (dg s 2)) ∧ ∃ m, w' = w.drewN m := by
  have pd := fun w => digitAt_any s hl 2 (by omega) w
  generalize dg s 2 = X at *
  go_enter Tryd.func27, Tryd.ntmps27
  go_wp2_with fail
  refine (pd _).mono ?_
  rintro e x ⟨rfl, m, hx⟩
  rw [hx]
  clear hx x
  go_wp2_with fail
  go_ret
  exact ⟨rfl, m, rfl⟩
set_option maxRecDepth 100000 in
set_option maxHeartbeats 800000 in
theorem asks_any (s : ByteArray) (hl : s.size ≤ maxLen) (w : World) : Calls Tryd.prog 29 #[.string s] w fun e w' => e = .returned (.bool (askT s)) ∧ ∃ m, w' = w.drewN m := by
  have pr := fun w => right_any s hl w
  cases hr : rt s with
  | false =>
    have e : askT s = false := by rw [askT, hr]; rfl
    rw [e]
    rw [hr] at pr
    go_enter Tryd.func29, Tryd.ntmps29
    go_wp2_with fail
    refine (pr _).mono ?_
    rintro e x ⟨rfl, m, hx2⟩
    rw [hx2]
    clear hx2 x
    go_wp2_with fail
    go_ret
    exact ⟨rfl, m, rfl⟩
  | true =>
    obtain ⟨hs, h4⟩ := rt_facts s hr
    have e : askT s = askN (byt s 2) := by rw [askT, hr]; rfl
    rw [e]
    rw [hr] at pr
    have hx := byt_at s 2 (by omega)
    have pa := fun w => isAsking_any (byt s 2) w
    generalize byt s 2 = X at *
    generalize askN X = Y at *
    clear h4 e hl
    go_enter Tryd.func29, Tryd.ntmps29
    go_wp2_with fail
    refine (pr _).mono ?_
    rintro e x ⟨rfl, m, hx2⟩
    rw [hx2]
    clear hx2 x
    go_wp2_with fail
    refine (pa _).mono ?_
    rintro e x ⟨rfl, hx3⟩
    rw [hx3]
    clear hx3 x
    go_wp2_with fail
    go_ret
    exact ⟨rfl, m, rfl⟩
end Go.Proofs.YteaanenhefbkjaaDoor.Hu
