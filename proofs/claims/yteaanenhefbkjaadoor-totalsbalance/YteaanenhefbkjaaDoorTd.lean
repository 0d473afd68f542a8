/- totals: isOver, counts. -/
import Derived.Test.YteaanenhefbkjaaDoorTc
namespace Go.Proofs.YteaanenhefbkjaaDoor.Td
set_option linter.unusedVariables false
set_option linter.unusedSimpArgs false
open Go.RowKit Lib0 Kb Xp Ic Ta Tb Tc
attribute [local go_sem] Oper.semAt_some
theorem ix_run (f : Nat → Int) (k : Nat) (hk : k < 12) (w : World) : (Instr.index tTa (.agg (ta f)) (.int .i64 (k : Int))).run Tryd.prog w = .ok (.int .i64 (f k)) w := by
  rcases twelve hk with rfl | rfl | rfl | rfl | rfl | rfl | rfl | rfl | rfl | rfl | rfl | rfl <;> kernel_rfl
set_option maxRecDepth 100000 in
set_option maxHeartbeats 3200000 in
theorem isOver_no (f : Nat → Int) (hb : ∀ k, k < 12 → f k ≤ mostK k) (w : World) : Calls Tryd.prog 23 #[.agg (ta f)] w fun e w' => e = .returned (.bool false) ∧ Below w.heap.size w w' := by
  have HM : Hid (∀ (k : Nat) y, Calls Tryd.prog 31 #[.int .i64 (k : Int)] y fun e w' => e = .returned (.int .i64 (mostK k)) ∧ w' = y) := fun k y => mostOf_any k y
  have HB : Hid (∀ k, k < 12 → f k ≤ mostK k) := hb
  have HB0 : Hid (Below w.heap.size w (w.alloc (.cells (ta f) tTa))) := below_one _ _
  have h0 : (w.alloc (.cells (ta f) tTa)).heap[w.heap.size]? = some (.cells (ta f) tTa (0, 0)) := h1_0 _ _
  have hsz : (ta f).size = 12 := rfl
  have HAT : Hid (∀ (k : Nat) y, k < 12 → (Instr.index tTa (.agg (ta f)) (.int .i64 (k : Int))).run Tryd.prog y = .ok (.int .i64 (f k)) y) := fun k y hk => ix_run f k hk y
  clear hb
  generalize ta f = T at *
  go_enter Tryd.func23, Tryd.ntmps23
  go_wp2_with (first
    | (refine wpList_load_row rfl tTa _ rfl w.heap.size rfl _ _ _ _ h0 Tryd.underlying53 rfl (by rw [infoTa, hsz]) ?_)
    | fail)
  go_loopw [3, 4, 6] (fun _ _ kv wr => ∃ k : Nat, kv = .int .i64 (k : Int) ∧ Hid (k ≤ 12) ∧ Hid (Below w.heap.size w wr)) (fun _ _ kv _ => 13 - (intOf kv).toNat)
  case atStart => exact ⟨0, rfl, Nat.zero_le _, HB0.out⟩
  case round =>
    obtain ⟨k, rfl, HK, HBW⟩ := hrel
    by_cases hk : k < 12
    · have ht := fun y => HAT.out k y hk
      have hle := HB.out k hk
      have hcm : Hid (∀ y, Calls Tryd.prog 31 #[.int .i64 (k : Int)] y fun e w' => e = .returned (.int .i64 (mostK k)) ∧ w' = y) := fun y => HM.out k y
      generalize mostK k = M at *
      generalize f k = F at *
      have q0 : (k : Int) < 12 := by omega
      have q1 : (0 : Int) ≤ (k : Int) := by omega
      have q2 : (k : Int) + 1 ≤ 9223372036854775807 := by omega
      have q3 : decide (M < F) = false := decide_eq_false (by omega)
      have HK2 : Hid (k < 12) := hk
      clear hk hle
      go_wp2_with fail
      refine (hcm.out _).mono ?_
      rintro e y ⟨rfl, rfl⟩
      go_wp2_with fail
      refine ⟨⟨k + 1, by simp, (by have := HK2.out; show k + 1 ≤ 12; omega), HBW.out⟩, ?_⟩
      have := HK2.out
      simp only [intOf]; omega
    · obtain rfl : k = 12 := by have := HK.out; omega
      clear hk
      go_wp2_with fail
      go_ret
      exact ⟨rfl, HBW.out⟩
theorem infoCo : (Tryd.prog.info? 28).map (·.size) = some 12 := by kernel_rfl
set_option maxRecDepth 100000 in
set_option maxHeartbeats 3200000 in
theorem counts_any (f : Nat → Int) (w : World) : Calls Tryd.prog 13 #[.agg (ta f)] w fun e w' => e = .returned (.agg (ta f)) ∧ Below w.heap.size w w' := by
  unfold ta
  go_enter Tryd.func13, Tryd.ntmps13
  go_wp2_with fail
  exact bodyPost_ret (v := .agg (ta f)) (results_cell_row (fn := Tryd.f13) (p := 2) rfl _ _ (w.heap.size + 1) 28 _ _ _ rfl (h2_1 _ _ _) Tryd.underlying28 rfl infoCo) rfl ⟨rfl, below_two _ _ _⟩
end Go.Proofs.YteaanenhefbkjaaDoor.Td
