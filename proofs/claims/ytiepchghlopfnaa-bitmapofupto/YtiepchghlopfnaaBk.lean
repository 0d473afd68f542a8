/- back. -/
import Derived.Test.YtiepchghlopfnaaRq
import Derived.Deep.QuietTactic
namespace Go.Proofs.Ytiepchghlopfnaa.Bk
set_option linter.unusedVariables false
open Go.RowKit Pla Bm Bn Br Bv Bw Bx Of Ro Sl Rq
def bkU (L : Nat → Int) (j : Nat) : Nat → Int := fun i => if i < j then 3 else L i
theorem bkU_step (l : Nat → Int) (n j : Nat) (h : j < n) : (inC n (bkU l j)).setIfInBounds j (.int .i64 3) = inC n (bkU l (j + 1)) := by
  rw [inC_set _ _ _ _ h]
  refine inC_ext fun i _ => ?_
  simp only [updI, bkU]
  by_cases e : i = j
  · subst e; rw [if_pos rfl, if_pos (by omega)]
  · rw [if_neg e]
    by_cases c : i < j
    · rw [if_pos c, if_pos (by omega)]
    · rw [if_neg c, if_neg (by omega)]
theorem bkU_at (l : Nat → Int) (j : Nat) : bkU l j j = l j := by simp [bkU]
set_option maxRecDepth 100000 in
set_option maxHeartbeats 400000 in
theorem back_at (L : Nat → Int) (N M : Nat) (a : Addr) (cap g : Nat) (w : World) (hM : Hid (M = N + 8)) (hl : N ≤ 1048576) (hc : ∀ i, i < N → w.cell? (a.add i) = some (.int .i64 (L i))) (h77 : ∀ i, N ≤ i → L i = -77) (hne : ∀ i, i < N → (a.add i).block ≠ g)
    (hg : w.heap[g]? = some (.cells (inC M L) 3 (0, 0))) :
    Calls Try.prog 12 #[.slice (some ⟨g, 0, none⟩) M M, .slice (some a) N cap] w fun e w' => e = .returned (.bool true) ∧ Below g w w' ∧ w'.heap[g]? = some (.cells (inC M (fun _ => 3)) 3 (0, 0)) ∧ (∀ k, k ≠ g → w'.heap[k]? = w.heap[k]?) := by
  have HC : Hid (∀ i, i < N → w.cell? (a.add i) = some (.int .i64 (L i))) := hc
  have HE : Hid (∀ i, i < N → (a.add i).block ≠ g) := hne
  have H7 : Hid (∀ i, N ≤ i → L i = -77) := h77
  have m1 : (M : Int) ≤ 1048584 := by have := hM.out; omega
  have i1 : (N : Int) ≤ 1048576 := by omega
  clear hc hne h77
  go_enter Try.func12, Try.ntmps12
  go_wp2_with fail
  go_loopw [5, 6] (fun ok ii wr => ∃ j : Nat, j ≤ M ∧ ii = .int .i64 (j : Int) ∧ ok = .bool true ∧ Hid (wr.heap[g]? = some (.cells (inC M (bkU L j)) 3 (0, 0))) ∧ Hid (∀ k, k ≠ g → wr.heap[k]? = w.heap[k]?) ∧ Below g w wr) (fun _ ii _ => M + 1 - (intOf ii).toNat)
  case atStart =>
    refine ⟨0, by omega, rfl, rfl, ?_, fun _ _ => rfl, Below.refl _ _⟩
    rw [show inC M (bkU L 0) = inC M L from inC_ext fun i _ => by rw [bkU, if_neg (by omega)]]
    exact hg
  case round =>
    obtain ⟨j, hj, rfl, rfl, G, HO, hb⟩ := hrel
    by_cases hj2 : j < M
    · have q : (j : Int) < (M : Int) := by omega
      have q0 : (0 : Int) ≤ (j : Int) := by omega
      have k1 : wr.cell? ⟨g, j, none⟩ = some (.int .i64 (L j)) := by rw [cell_of_row wr g j _ _ _ G.out, inC_get _ _ _ hj2, bkU_at]
      have k2 : wr.frozen? ⟨g, j, none⟩ = false := frozen_of_row _ _ _ _ _ G.out
      have HN : Hid ((wr.setCell ⟨g, j, none⟩ (.int .i64 3)).heap[g]? = some (.cells (inC M (bkU L (j + 1))) 3 (0, 0))) := by
        show _ = _
        rw [heap_setCell_same _ _ _ _ _ _ G.out, bkU_step L _ j hj2]
      have HO2 : Hid (∀ k, k ≠ g → (wr.setCell ⟨g, j, none⟩ (.int .i64 3)).heap[k]? = w.heap[k]?) := fun k hk => (setCell_n _ hk).trans (HO.out k hk)
      by_cases hjl : j < N
      · have q3 : (j : Int) < (N : Int) := by omega
        have hjn : ¬ N ≤ j := by omega
        have hjm : ¬ (N : Int) ≤ (j : Int) := by omega
        have cz : wr.cell? (a.add j) = some (.int .i64 (L j)) := by
          rw [World.cell?_of_block (w := w) (HO.out _ (HE.out j hjl)), HC.out j hjl]
        generalize L j = n at *
        clear hj hg hl i1
        go_wp2_with fail
        go_region
        go_wp2_with fail
        exact ⟨⟨j + 1, by omega, by simp, by simp, HN.out, HO2.out, (below_drewN hb 1).setCell (Nat.le_refl _) _⟩, by simp only [intOf]; omega⟩
      · have q3 : (N : Int) ≤ (j : Int) := by omega
        have hjn : N ≤ j := by omega
        have hjm : ¬ (j : Int) < (N : Int) := by omega
        rw [H7.out j hjn] at k1
        clear hj hg hl i1
        go_wp2_with fail
        go_region
        go_wp2_with fail
        exact ⟨⟨j + 1, by omega, by simp, by simp, HN.out, HO2.out, (below_drewN hb 1).setCell (Nat.le_refl _) _⟩, by simp only [intOf]; omega⟩
    · obtain rfl : j = M := by omega
      have e3 := G.out
      rw [show inC j (bkU L j) = inC j (fun _ => 3) from inC_ext fun i hi => by rw [bkU, if_pos hi]] at e3
      have E3 : Hid _ := e3
      clear e3 G
      go_wp2_with fail
      go_ret
      exact ⟨rfl, hb, E3.out, HO.out⟩
set_option maxRecDepth 100000 in
set_option maxHeartbeats 400000 in
theorem back_nil (L : Nat → Int) (N M : Nat) (g : Nat) (w : World) (hN : Hid (∀ j : Nat, N ≤ j)) (h77 : ∀ i, L i = -77) (hM : M ≤ 8)
    (hg : w.heap[g]? = some (.cells (inC M L) 3 (0, 0))) :
    Calls Try.prog 12 #[.slice (some ⟨g, 0, none⟩) M M, .slice none N N] w fun e w' => e = .returned (.bool true) ∧ Below g w w' ∧ w'.heap[g]? = some (.cells (inC M (fun _ => 3)) 3 (0, 0)) ∧ (∀ k, k ≠ g → w'.heap[k]? = w.heap[k]?) := by
  have H7 : Hid (∀ i, L i = -77) := h77
  have m1 : (M : Int) ≤ 1048584 := by omega
  clear h77
  go_enter Try.func12, Try.ntmps12
  go_wp2_with fail
  go_loopw [5, 6] (fun ok ii wr => ∃ j : Nat, j ≤ M ∧ ii = .int .i64 (j : Int) ∧ ok = .bool true ∧ Hid (wr.heap[g]? = some (.cells (inC M (bkU L j)) 3 (0, 0))) ∧ Hid (∀ k, k ≠ g → wr.heap[k]? = w.heap[k]?) ∧ Below g w wr) (fun _ ii _ => M + 1 - (intOf ii).toNat)
  case atStart =>
    refine ⟨0, by omega, rfl, rfl, ?_, fun _ _ => rfl, Below.refl _ _⟩
    rw [show inC M (bkU L 0) = inC M L from inC_ext fun i _ => by rw [bkU, if_neg (by omega)]]
    exact hg
  case round =>
    obtain ⟨j, hj, rfl, rfl, G, HO, hb⟩ := hrel
    by_cases hj2 : j < M
    · have q : (j : Int) < (M : Int) := by omega
      have q0 : (0 : Int) ≤ (j : Int) := by omega
      have k1 : wr.cell? ⟨g, j, none⟩ = some (.int .i64 (L j)) := by rw [cell_of_row wr g j _ _ _ G.out, inC_get _ _ _ hj2, bkU_at]
      have k2 : wr.frozen? ⟨g, j, none⟩ = false := frozen_of_row _ _ _ _ _ G.out
      have HN : Hid ((wr.setCell ⟨g, j, none⟩ (.int .i64 3)).heap[g]? = some (.cells (inC M (bkU L (j + 1))) 3 (0, 0))) := by
        show _ = _
        rw [heap_setCell_same _ _ _ _ _ _ G.out, bkU_step L _ j hj2]
      have HO2 : Hid (∀ k, k ≠ g → (wr.setCell ⟨g, j, none⟩ (.int .i64 3)).heap[k]? = w.heap[k]?) := fun k hk => (setCell_n _ hk).trans (HO.out k hk)
      have hjl : ¬ j < N := Nat.not_lt.mpr (hN.out j)
      have hjn : N ≤ j := hN.out j
      have q3 : (N : Int) ≤ (j : Int) := by omega
      have hjm : ¬ (j : Int) < (N : Int) := by omega
      rw [H7.out j] at k1
      clear hj hg hM
      go_wp2_with fail
      go_region
      go_wp2_with fail
      exact ⟨⟨j + 1, by omega, by simp, by simp, HN.out, HO2.out, (below_drewN hb 1).setCell (Nat.le_refl _) _⟩, by simp only [intOf]; omega⟩
    · obtain rfl : j = M := by omega
      have e3 := G.out
      rw [show inC j (bkU L j) = inC j (fun _ => 3) from inC_ext fun i hi => by rw [bkU, if_pos hi]] at e3
      have E3 : Hid _ := e3
      clear e3 G
      go_wp2_with fail
      go_ret
      exact ⟨rfl, hb, E3.out, HO.out⟩
theorem back_lies (l : List Int) (v : Value) (g : Nat) (w0 w : World) (h : Lies w0 v l) (hl : l.length ≤ 1048576) (hgw : w0.heap.size ≤ g) (hb : Below w0.heap.size w0 w)
    (hg : w.heap[g]? = some (.cells (inC (l.length + 8) (lentF l)) 3 (0, 0))) :
    Calls Try.prog 12 #[.slice (some ⟨g, 0, none⟩) (l.length + 8) (l.length + 8), v] w fun e w' => e = .returned (.bool true) ∧ Below g w w' ∧ w'.heap[g]? = some (.cells (inC (l.length + 8) (fun _ => 3)) 3 (0, 0)) ∧ (∀ k, k ≠ g → w'.heap[k]? = w.heap[k]?) := by
  rcases h with ⟨rfl, rfl⟩ | ⟨a, cap, rfl, _, _, hc, _⟩
  · exact back_nil (lentF []) 0 8 g w (fun j => Nat.zero_le j) (fun i => dif_neg (Nat.not_lt_zero i)) (Nat.le_refl _) hg
  · refine back_at (lentF l) l.length _ a cap g w (rfl : _ = _) hl (fun i hi => ?_) (fun i hi => ?_) (fun i hi => ?_) hg
    · rw [hb.cell (World.block_lt_of_cell? w0 _ (hc i hi)), hc i hi, show lentF l i = l[i] from dif_pos hi]
    · rw [lentF, dif_neg (by omega)]
    · have := World.block_lt_of_cell? w0 _ (hc i hi); omega
end Go.Proofs.Ytiepchghlopfnaa.Bk
