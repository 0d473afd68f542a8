/- The boxes. -/
import Derived.Test.YtciblmdpngnakabSm
import Derived.Laws.Tables
import Derived.Great.BuildSlice
namespace Go.Proofs.Ytciblmdpngnakab.Ab
set_option linter.unusedVariables false
open Go.RowKit Pla Cb
theorem z80 : (Try.prog.info? 103).map (fun i => (i.zero, i.size)) = some (some (.agg (byC 512 fun _ => 0)), 512) := by kernel_rfl
theorem h80 : (Try.prog.info? 103).map (·.size) = some (tabC boxL).size := by kernel_rfl
set_option maxRecDepth 1000000 in
theorem tab_one (l : List Nat) : (tabC l).all (·.oneCell') = true := by
  simp only [tabC, List.all_toArray, List.all_eq_true, List.mem_map]
  rintro x ⟨i, _, rfl⟩; rfl
def r0 : List Nat := [14, 4, 13, 1, 2, 15, 11, 8, 3, 10, 6, 12, 5, 9, 0, 7]
def r1 : List Nat := [0, 15, 7, 4, 14, 2, 13, 1, 10, 6, 12, 11, 9, 5, 3, 8]
def r2 : List Nat := [4, 1, 14, 8, 13, 6, 2, 11, 15, 12, 9, 7, 3, 10, 5, 0]
def r3 : List Nat := [15, 12, 8, 2, 4, 9, 1, 7, 5, 11, 3, 14, 10, 0, 6, 13]
def r4 : List Nat := [15, 1, 8, 14, 6, 11, 3, 4, 9, 7, 2, 13, 12, 0, 5, 10]
def r5 : List Nat := [3, 13, 4, 7, 15, 2, 8, 14, 12, 0, 1, 10, 6, 9, 11, 5]
def r6 : List Nat := [0, 14, 7, 11, 10, 4, 13, 1, 5, 8, 12, 6, 9, 3, 2, 15]
def r7 : List Nat := [13, 8, 10, 1, 3, 15, 4, 2, 11, 6, 7, 12, 0, 5, 14, 9]
def r8 : List Nat := [10, 0, 9, 14, 6, 3, 15, 5, 1, 13, 12, 7, 11, 4, 2, 8]
def r9 : List Nat := [13, 7, 0, 9, 3, 4, 6, 10, 2, 8, 5, 14, 12, 11, 15, 1]
def r10 : List Nat := [13, 6, 4, 9, 8, 15, 3, 0, 11, 1, 2, 12, 5, 10, 14, 7]
def r11 : List Nat := [1, 10, 13, 0, 6, 9, 8, 7, 4, 15, 14, 3, 11, 5, 2, 12]
def r12 : List Nat := [7, 13, 14, 3, 0, 6, 9, 10, 1, 2, 8, 5, 11, 12, 4, 15]
def r13 : List Nat := [13, 8, 11, 5, 6, 15, 0, 3, 4, 7, 2, 12, 1, 10, 14, 9]
def r14 : List Nat := [10, 6, 9, 0, 12, 11, 7, 13, 15, 1, 3, 14, 5, 2, 8, 4]
def r15 : List Nat := [3, 15, 0, 6, 10, 1, 13, 8, 9, 4, 5, 11, 12, 7, 2, 14]
def r16 : List Nat := [2, 12, 4, 1, 7, 10, 11, 6, 8, 5, 3, 15, 13, 0, 14, 9]
def r17 : List Nat := [14, 11, 2, 12, 4, 7, 13, 1, 5, 0, 15, 10, 3, 9, 8, 6]
def r18 : List Nat := [4, 2, 1, 11, 10, 13, 7, 8, 15, 9, 12, 5, 6, 3, 0, 14]
def r19 : List Nat := [11, 8, 12, 7, 1, 14, 2, 13, 6, 15, 0, 9, 10, 4, 5, 3]
def r20 : List Nat := [12, 1, 10, 15, 9, 2, 6, 8, 0, 13, 3, 4, 14, 7, 5, 11]
def r21 : List Nat := [10, 15, 4, 2, 7, 12, 9, 5, 6, 1, 13, 14, 0, 11, 3, 8]
def r22 : List Nat := [9, 14, 15, 5, 2, 8, 12, 3, 7, 0, 4, 10, 1, 13, 11, 6]
def r23 : List Nat := [4, 3, 2, 12, 9, 5, 15, 10, 11, 14, 1, 7, 6, 0, 8, 13]
def r24 : List Nat := [4, 11, 2, 14, 15, 0, 8, 13, 3, 12, 9, 7, 5, 10, 6, 1]
def r25 : List Nat := [13, 0, 11, 7, 4, 9, 1, 10, 14, 3, 5, 12, 2, 15, 8, 6]
def r26 : List Nat := [1, 4, 11, 13, 12, 3, 7, 14, 10, 15, 6, 8, 0, 5, 9, 2]
def r27 : List Nat := [6, 11, 13, 8, 1, 4, 10, 7, 9, 5, 0, 15, 14, 2, 3, 12]
def r28 : List Nat := [13, 2, 8, 4, 6, 15, 11, 1, 10, 9, 3, 14, 5, 0, 12, 7]
def r29 : List Nat := [1, 15, 13, 8, 10, 3, 7, 4, 12, 5, 6, 11, 0, 14, 9, 2]
def r30 : List Nat := [7, 11, 4, 1, 9, 12, 14, 2, 0, 6, 10, 13, 15, 3, 5, 8]
def r31 : List Nat := [2, 1, 14, 7, 4, 10, 8, 13, 15, 12, 9, 0, 3, 5, 6, 11]
def q0 : List Nat := [14, 4, 13, 1, 2, 15, 11, 8, 3, 10, 6, 12, 5, 9, 0, 7, 0, 15, 7, 4, 14, 2, 13, 1, 10, 6, 12, 11, 9, 5, 3, 8, 4, 1, 14, 8, 13, 6, 2, 11, 15, 12, 9, 7, 3, 10, 5, 0, 15, 12, 8, 2, 4, 9, 1, 7, 5, 11, 3, 14, 10, 0, 6, 13]
def q1 : List Nat := [15, 1, 8, 14, 6, 11, 3, 4, 9, 7, 2, 13, 12, 0, 5, 10, 3, 13, 4, 7, 15, 2, 8, 14, 12, 0, 1, 10, 6, 9, 11, 5, 0, 14, 7, 11, 10, 4, 13, 1, 5, 8, 12, 6, 9, 3, 2, 15, 13, 8, 10, 1, 3, 15, 4, 2, 11, 6, 7, 12, 0, 5, 14, 9]
def q2 : List Nat := [10, 0, 9, 14, 6, 3, 15, 5, 1, 13, 12, 7, 11, 4, 2, 8, 13, 7, 0, 9, 3, 4, 6, 10, 2, 8, 5, 14, 12, 11, 15, 1, 13, 6, 4, 9, 8, 15, 3, 0, 11, 1, 2, 12, 5, 10, 14, 7, 1, 10, 13, 0, 6, 9, 8, 7, 4, 15, 14, 3, 11, 5, 2, 12]
def q3 : List Nat := [7, 13, 14, 3, 0, 6, 9, 10, 1, 2, 8, 5, 11, 12, 4, 15, 13, 8, 11, 5, 6, 15, 0, 3, 4, 7, 2, 12, 1, 10, 14, 9, 10, 6, 9, 0, 12, 11, 7, 13, 15, 1, 3, 14, 5, 2, 8, 4, 3, 15, 0, 6, 10, 1, 13, 8, 9, 4, 5, 11, 12, 7, 2, 14]
def q4 : List Nat := [2, 12, 4, 1, 7, 10, 11, 6, 8, 5, 3, 15, 13, 0, 14, 9, 14, 11, 2, 12, 4, 7, 13, 1, 5, 0, 15, 10, 3, 9, 8, 6, 4, 2, 1, 11, 10, 13, 7, 8, 15, 9, 12, 5, 6, 3, 0, 14, 11, 8, 12, 7, 1, 14, 2, 13, 6, 15, 0, 9, 10, 4, 5, 3]
def q5 : List Nat := [12, 1, 10, 15, 9, 2, 6, 8, 0, 13, 3, 4, 14, 7, 5, 11, 10, 15, 4, 2, 7, 12, 9, 5, 6, 1, 13, 14, 0, 11, 3, 8, 9, 14, 15, 5, 2, 8, 12, 3, 7, 0, 4, 10, 1, 13, 11, 6, 4, 3, 2, 12, 9, 5, 15, 10, 11, 14, 1, 7, 6, 0, 8, 13]
def q6 : List Nat := [4, 11, 2, 14, 15, 0, 8, 13, 3, 12, 9, 7, 5, 10, 6, 1, 13, 0, 11, 7, 4, 9, 1, 10, 14, 3, 5, 12, 2, 15, 8, 6, 1, 4, 11, 13, 12, 3, 7, 14, 10, 15, 6, 8, 0, 5, 9, 2, 6, 11, 13, 8, 1, 4, 10, 7, 9, 5, 0, 15, 14, 2, 3, 12]
def q7 : List Nat := [13, 2, 8, 4, 6, 15, 11, 1, 10, 9, 3, 14, 5, 0, 12, 7, 1, 15, 13, 8, 10, 3, 7, 4, 12, 5, 6, 11, 0, 14, 9, 2, 7, 11, 4, 1, 9, 12, 14, 2, 0, 6, 10, 13, 15, 3, 5, 8, 2, 1, 14, 7, 4, 10, 8, 13, 15, 12, 9, 0, 3, 5, 6, 11]
set_option maxRecDepth 1000000 in
set_option maxHeartbeats 1600000 in
theorem boxes_any (w : World) : Calls Try.prog 69 #[] w fun e w' => e = .returned (.agg (tabC boxL)) ∧ Below w.heap.size w w' := by
  have hz := (zero_of_info z80).1
  go_enter Try.func69, Try.ntmps69
  refine wp_seq_k (fun K hK => ?_)
  have HK : Hid (∀ a w, _ → K a w) := hK
  clear hK
  go_wp2_with fail
  refine HK.out _ _ ?_
  clear HK K
  refine wp_seq_k (fun K hK => ?_)
  have HK : Hid (∀ a w, _ → K a w) := hK
  clear hK
  apply wp_region_lit
  refine wpList_buildTo rfl 100 _ rfl _ rfl (tabC r0) (by kernel_rfl) ?_
  refine wpList_buildTo rfl 100 _ rfl _ rfl (tabC r1) (by kernel_rfl) ?_
  refine wpList_buildTo rfl 100 _ rfl _ rfl (tabC r2) (by kernel_rfl) ?_
  refine wpList_buildTo rfl 100 _ rfl _ rfl (tabC r3) (by kernel_rfl) ?_
  refine wpList_buildTo rfl 101 _ rfl _ rfl (tabC q0) (by kernel_rfl) ?_
  refine wpList_buildTo rfl 100 _ rfl _ rfl (tabC r4) (by kernel_rfl) ?_
  refine wpList_buildTo rfl 100 _ rfl _ rfl (tabC r5) (by kernel_rfl) ?_
  refine wpList_buildTo rfl 100 _ rfl _ rfl (tabC r6) (by kernel_rfl) ?_
  refine wpList_buildTo rfl 100 _ rfl _ rfl (tabC r7) (by kernel_rfl) ?_
  refine wpList_buildTo rfl 101 _ rfl _ rfl (tabC q1) (by kernel_rfl) ?_
  refine wpList_buildTo rfl 100 _ rfl _ rfl (tabC r8) (by kernel_rfl) ?_
  refine wpList_buildTo rfl 100 _ rfl _ rfl (tabC r9) (by kernel_rfl) ?_
  refine wpList_buildTo rfl 100 _ rfl _ rfl (tabC r10) (by kernel_rfl) ?_
  refine wpList_buildTo rfl 100 _ rfl _ rfl (tabC r11) (by kernel_rfl) ?_
  refine wpList_buildTo rfl 101 _ rfl _ rfl (tabC q2) (by kernel_rfl) ?_
  refine wpList_buildTo rfl 100 _ rfl _ rfl (tabC r12) (by kernel_rfl) ?_
  refine wpList_buildTo rfl 100 _ rfl _ rfl (tabC r13) (by kernel_rfl) ?_
  refine wpList_buildTo rfl 100 _ rfl _ rfl (tabC r14) (by kernel_rfl) ?_
  refine wpList_buildTo rfl 100 _ rfl _ rfl (tabC r15) (by kernel_rfl) ?_
  refine wpList_buildTo rfl 101 _ rfl _ rfl (tabC q3) (by kernel_rfl) ?_
  refine wpList_buildTo rfl 100 _ rfl _ rfl (tabC r16) (by kernel_rfl) ?_
  refine wpList_buildTo rfl 100 _ rfl _ rfl (tabC r17) (by kernel_rfl) ?_
  refine wpList_buildTo rfl 100 _ rfl _ rfl (tabC r18) (by kernel_rfl) ?_
  refine wpList_buildTo rfl 100 _ rfl _ rfl (tabC r19) (by kernel_rfl) ?_
  refine wpList_buildTo rfl 101 _ rfl _ rfl (tabC q4) (by kernel_rfl) ?_
  refine wpList_buildTo rfl 100 _ rfl _ rfl (tabC r20) (by kernel_rfl) ?_
  refine wpList_buildTo rfl 100 _ rfl _ rfl (tabC r21) (by kernel_rfl) ?_
  refine wpList_buildTo rfl 100 _ rfl _ rfl (tabC r22) (by kernel_rfl) ?_
  refine wpList_buildTo rfl 100 _ rfl _ rfl (tabC r23) (by kernel_rfl) ?_
  refine wpList_buildTo rfl 101 _ rfl _ rfl (tabC q5) (by kernel_rfl) ?_
  refine wpList_buildTo rfl 100 _ rfl _ rfl (tabC r24) (by kernel_rfl) ?_
  refine wpList_buildTo rfl 100 _ rfl _ rfl (tabC r25) (by kernel_rfl) ?_
  refine wpList_buildTo rfl 100 _ rfl _ rfl (tabC r26) (by kernel_rfl) ?_
  refine wpList_buildTo rfl 100 _ rfl _ rfl (tabC r27) (by kernel_rfl) ?_
  refine wpList_buildTo rfl 101 _ rfl _ rfl (tabC q6) (by kernel_rfl) ?_
  refine wpList_buildTo rfl 100 _ rfl _ rfl (tabC r28) (by kernel_rfl) ?_
  refine wpList_buildTo rfl 100 _ rfl _ rfl (tabC r29) (by kernel_rfl) ?_
  refine wpList_buildTo rfl 100 _ rfl _ rfl (tabC r30) (by kernel_rfl) ?_
  refine wpList_buildTo rfl 100 _ rfl _ rfl (tabC r31) (by kernel_rfl) ?_
  refine wpList_buildTo rfl 101 _ rfl _ rfl (tabC q7) (by kernel_rfl) ?_
  refine wpList_buildTo rfl 103 _ rfl _ rfl (tabC boxL) (by kernel_rfl) ?_
  refine wpList_store_row rfl 103 _ _ rfl w.heap.size (tabC boxL) (by kernel_rfl) (by kernel_rfl) _ (byC 512 fun _ => 0) (h1_0 w _) h80 (by kernel_rfl) (tab_one _) ?_
  refine HK.out _ _ ?_
  refine wp_ret ?_
  exact bodyPost_ret (v := .agg (tabC boxL)) (results_cell_row rfl _ _ w.heap.size _ _ _ _ (by kernel_rfl) (setRow_at (h1_0 w _) _) Try.underlying103 rfl h80) rfl ⟨rfl, below_setRow (below_one w _) (Nat.le_refl _) _⟩
end Go.Proofs.Ytciblmdpngnakab.Ab
