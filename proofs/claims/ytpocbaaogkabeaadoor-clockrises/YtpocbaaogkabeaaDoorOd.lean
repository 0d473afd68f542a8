/- The laws' order of dates. -/
import Derived.Test.YtpocbaaogkabeaaDoorLw
namespace Go.Proofs.YtpocbaaogkabeaaDoor.Od
set_option linter.unusedVariables false
set_option linter.unusedSimpArgs false
open Go.RowKit Kb Ca Ld De Oe Hx
/-- the order of pairs -/
def ordL : List (Int × Int) → Int
  | [] => 0
  | p :: r => if p.1 < p.2 then -1 else if p.2 < p.1 then 1 else ordL r
/-- twelve numbers lie in a block -/
def Tw (x : World) (b : Nat) (Y M D h mi s Y' M' D' h' mi' s' : Int) : Prop := x.heap[b]? = some (Obj.cells #[.int .i64 Y, .int .i64 Y', .int .i64 M, .int .i64 M', .int .i64 D, .int .i64 D', .int .i64 h, .int .i64 h', .int .i64 mi, .int .i64 mi', .int .i64 s, .int .i64 s'] 56)
theorem Tw.at {x : World} {b : Nat} {Y M D h mi s Y' M' D' h' mi' s' : Int} (hx : Tw x b Y M D h mi s Y' M' D' h' mi' s') :
    x.cell? ⟨b, 0, none⟩ = some (.int .i64 Y) ∧ x.cell? ⟨b, 1, none⟩ = some (.int .i64 Y') ∧ x.cell? ⟨b, 2, none⟩ = some (.int .i64 M) ∧ x.cell? ⟨b, 3, none⟩ = some (.int .i64 M') ∧ x.cell? ⟨b, 4, none⟩ = some (.int .i64 D) ∧ x.cell? ⟨b, 5, none⟩ = some (.int .i64 D') ∧ x.cell? ⟨b, 6, none⟩ = some (.int .i64 h) ∧ x.cell? ⟨b, 7, none⟩ = some (.int .i64 h') ∧ x.cell? ⟨b, 8, none⟩ = some (.int .i64 mi) ∧ x.cell? ⟨b, 9, none⟩ = some (.int .i64 mi') ∧ x.cell? ⟨b, 10, none⟩ = some (.int .i64 s) ∧ x.cell? ⟨b, 11, none⟩ = some (.int .i64 s') := by
  unfold Tw at hx
  refine ⟨?_, ?_, ?_, ?_, ?_, ?_, ?_, ?_, ?_, ?_, ?_, ?_⟩ <;> simp [World.cell?, hx]
set_option maxRecDepth 100000 in
set_option maxHeartbeats 6400000 in
theorem order_any (Y M D h mi s Y' M' D' h' mi' s' : Int) (w : World) : Calls Tryd.prog 29 #[dt Y M D h mi s, dt Y' M' D' h' mi' s'] w fun e w' => e = .returned (.int .i64 (ordL [(Y, Y'), (M, M'), (D, D'), (h, h'), (mi, mi'), (s, s')])) ∧ Below w.heap.size w w' := by
  unfold dt
  go_enter Tryd.func29, Tryd.ntmps29
  go_wp2_with fail
  obtain ⟨O, HO⟩ : ∃ O, Hid (ordL [(Y, Y'), (M, M'), (D, D'), (h, h'), (mi, mi'), (s, s')] = O) := ⟨_, rfl⟩
  have f1 : ∀ a b c, (((w.alloc a).alloc b).alloc c).heap[w.heap.size + 1 + 1]? = some c := fun a b c => h3_2 w a b c
  have f2 : ∀ a b c, Below w.heap.size w (((w.alloc a).alloc b).alloc c) := fun a b c => below_three w a b c
  go_loopw [6] (fun i wr => ∃ k : Nat, k ≤ 6 ∧ i = .int .i64 k ∧ Hid (ordL ([(Y, Y'), (M, M'), (D, D'), (h, h'), (mi, mi'), (s, s')].drop k) = O) ∧ Tw wr (w.heap.size + 1 + 1) Y M D h mi s Y' M' D' h' mi' s' ∧ Below w.heap.size w wr) (fun i _ => 6 - (intOf i).toNat)
  case atStart => exact ⟨0, Nat.zero_le _, rfl, HO, f1 _ _ _, f2 _ _ _⟩
  case round =>
    obtain ⟨k, hk, rfl, HR, T, B⟩ := hrel
    obtain ⟨c0, c1, c2, c3, c4, c5, c6, c7, c8, c9, c10, c11⟩ := T.at
    have BN : ∀ n, Below w.heap.size w (wr.drewN n) := fun n => below_drewN B n
    have BN2 : ∀ n m, Below w.heap.size w ((wr.drewN n).drewN m) := fun n m => below_drewN (BN n) m
    clear f1 f2
    rcases (by omega : k = 0 ∨ k = 1 ∨ k = 2 ∨ k = 3 ∨ k = 4 ∨ k = 5 ∨ k = 6) with rfl | rfl | rfl | rfl | rfl | rfl | rfl
    · by_cases h1 : Y < Y'
      · have e1 : O = -1 := by have := HR.out; simp [ordL, h1] at this; omega
        go_wp2_with fail
        go_quiet (fail)
        go_wp2
        go_ret
        exact ⟨Ld.ret_int (by rw [HO.out, e1]), BN _⟩
      · have h1' : decide (Y < Y') = false := decide_eq_false h1
        by_cases h2 : Y' < Y
        · have e1 : O = 1 := by have := HR.out; simp [ordL, h1, h2] at this; omega
          go_wp2_with fail
          go_quiet (fail)
          go_wp2_with fail
          go_quiet (fail)
          go_wp2
          go_ret
          exact ⟨Ld.ret_int (by rw [HO.out, e1]), by first | exact BN _ | exact BN2 _ _⟩
        · have h2' : decide (Y' < Y) = false := decide_eq_false h2
          have HR2 : Hid (ordL ([(Y, Y'), (M, M'), (D, D'), (h, h'), (mi, mi'), (s, s')].drop 1) = O) := by have := HR.out; show _ = O; simpa [ordL, h1, h2] using this
          go_wp2_with fail
          go_quiet (fail)
          go_wp2_with fail
          go_quiet (fail)
          go_wp2
          go_round
          case rel => exact ⟨1, by omega, by go_num, HR2, T, by first | exact BN _ | exact BN2 _ _⟩
          case measure => simp [intOf]
    · by_cases h1 : M < M'
      · have e1 : O = -1 := by have := HR.out; simp [ordL, h1] at this; omega
        go_wp2_with fail
        go_quiet (fail)
        go_wp2
        go_ret
        exact ⟨Ld.ret_int (by rw [HO.out, e1]), BN _⟩
      · have h1' : decide (M < M') = false := decide_eq_false h1
        by_cases h2 : M' < M
        · have e1 : O = 1 := by have := HR.out; simp [ordL, h1, h2] at this; omega
          go_wp2_with fail
          go_quiet (fail)
          go_wp2_with fail
          go_quiet (fail)
          go_wp2
          go_ret
          exact ⟨Ld.ret_int (by rw [HO.out, e1]), by first | exact BN _ | exact BN2 _ _⟩
        · have h2' : decide (M' < M) = false := decide_eq_false h2
          have HR2 : Hid (ordL ([(Y, Y'), (M, M'), (D, D'), (h, h'), (mi, mi'), (s, s')].drop 2) = O) := by have := HR.out; show _ = O; simpa [ordL, h1, h2] using this
          go_wp2_with fail
          go_quiet (fail)
          go_wp2_with fail
          go_quiet (fail)
          go_wp2
          go_round
          case rel => exact ⟨2, by omega, by go_num, HR2, T, by first | exact BN _ | exact BN2 _ _⟩
          case measure => simp [intOf]
    · by_cases h1 : D < D'
      · have e1 : O = -1 := by have := HR.out; simp [ordL, h1] at this; omega
        go_wp2_with fail
        go_quiet (fail)
        go_wp2
        go_ret
        exact ⟨Ld.ret_int (by rw [HO.out, e1]), BN _⟩
      · have h1' : decide (D < D') = false := decide_eq_false h1
        by_cases h2 : D' < D
        · have e1 : O = 1 := by have := HR.out; simp [ordL, h1, h2] at this; omega
          go_wp2_with fail
          go_quiet (fail)
          go_wp2_with fail
          go_quiet (fail)
          go_wp2
          go_ret
          exact ⟨Ld.ret_int (by rw [HO.out, e1]), by first | exact BN _ | exact BN2 _ _⟩
        · have h2' : decide (D' < D) = false := decide_eq_false h2
          have HR2 : Hid (ordL ([(Y, Y'), (M, M'), (D, D'), (h, h'), (mi, mi'), (s, s')].drop 3) = O) := by have := HR.out; show _ = O; simpa [ordL, h1, h2] using this
          go_wp2_with fail
          go_quiet (fail)
          go_wp2_with fail
          go_quiet (fail)
          go_wp2
          go_round
          case rel => exact ⟨3, by omega, by go_num, HR2, T, by first | exact BN _ | exact BN2 _ _⟩
          case measure => simp [intOf]
    · by_cases h1 : h < h'
      · have e1 : O = -1 := by have := HR.out; simp [ordL, h1] at this; omega
        go_wp2_with fail
        go_quiet (fail)
        go_wp2
        go_ret
        exact ⟨Ld.ret_int (by rw [HO.out, e1]), BN _⟩
      · have h1' : decide (h < h') = false := decide_eq_false h1
        by_cases h2 : h' < h
        · have e1 : O = 1 := by have := HR.out; simp [ordL, h1, h2] at this; omega
          go_wp2_with fail
          go_quiet (fail)
          go_wp2_with fail
          go_quiet (fail)
          go_wp2
          go_ret
          exact ⟨Ld.ret_int (by rw [HO.out, e1]), by first | exact BN _ | exact BN2 _ _⟩
        · have h2' : decide (h' < h) = false := decide_eq_false h2
          have HR2 : Hid (ordL ([(Y, Y'), (M, M'), (D, D'), (h, h'), (mi, mi'), (s, s')].drop 4) = O) := by have := HR.out; show _ = O; simpa [ordL, h1, h2] using this
          go_wp2_with fail
          go_quiet (fail)
          go_wp2_with fail
          go_quiet (fail)
          go_wp2
          go_round
          case rel => exact ⟨4, by omega, by go_num, HR2, T, by first | exact BN _ | exact BN2 _ _⟩
          case measure => simp [intOf]
    · by_cases h1 : mi < mi'
      · have e1 : O = -1 := by have := HR.out; simp [ordL, h1] at this; omega
        go_wp2_with fail
        go_quiet (fail)
        go_wp2
        go_ret
        exact ⟨Ld.ret_int (by rw [HO.out, e1]), BN _⟩
      · have h1' : decide (mi < mi') = false := decide_eq_false h1
        by_cases h2 : mi' < mi
        · have e1 : O = 1 := by have := HR.out; simp [ordL, h1, h2] at this; omega
          go_wp2_with fail
          go_quiet (fail)
          go_wp2_with fail
          go_quiet (fail)
          go_wp2
          go_ret
          exact ⟨Ld.ret_int (by rw [HO.out, e1]), by first | exact BN _ | exact BN2 _ _⟩
        · have h2' : decide (mi' < mi) = false := decide_eq_false h2
          have HR2 : Hid (ordL ([(Y, Y'), (M, M'), (D, D'), (h, h'), (mi, mi'), (s, s')].drop 5) = O) := by have := HR.out; show _ = O; simpa [ordL, h1, h2] using this
          go_wp2_with fail
          go_quiet (fail)
          go_wp2_with fail
          go_quiet (fail)
          go_wp2
          go_round
          case rel => exact ⟨5, by omega, by go_num, HR2, T, by first | exact BN _ | exact BN2 _ _⟩
          case measure => simp [intOf]
    · by_cases h1 : s < s'
      · have e1 : O = -1 := by have := HR.out; simp [ordL, h1] at this; omega
        go_wp2_with fail
        go_quiet (fail)
        go_wp2
        go_ret
        exact ⟨Ld.ret_int (by rw [HO.out, e1]), BN _⟩
      · have h1' : decide (s < s') = false := decide_eq_false h1
        by_cases h2 : s' < s
        · have e1 : O = 1 := by have := HR.out; simp [ordL, h1, h2] at this; omega
          go_wp2_with fail
          go_quiet (fail)
          go_wp2_with fail
          go_quiet (fail)
          go_wp2
          go_ret
          exact ⟨Ld.ret_int (by rw [HO.out, e1]), by first | exact BN _ | exact BN2 _ _⟩
        · have h2' : decide (s' < s) = false := decide_eq_false h2
          have HR2 : Hid (ordL ([(Y, Y'), (M, M'), (D, D'), (h, h'), (mi, mi'), (s, s')].drop 6) = O) := by have := HR.out; show _ = O; simpa [ordL, h1, h2] using this
          go_wp2_with fail
          go_quiet (fail)
          go_wp2_with fail
          go_quiet (fail)
          go_wp2
          go_round
          case rel => exact ⟨6, by omega, by go_num, HR2, T, by first | exact BN _ | exact BN2 _ _⟩
          case measure => simp [intOf]
    · have e1 : O = 0 := by have := HR.out; simp [ordL] at this; omega
      go_wp2
      go_ret
      exact ⟨Ld.ret_int (by rw [HO.out, e1]), B⟩
end Go.Proofs.YtpocbaaogkabeaaDoor.Od
