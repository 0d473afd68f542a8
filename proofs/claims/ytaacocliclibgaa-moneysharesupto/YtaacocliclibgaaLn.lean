/- lent and still: a list in its owner's memory, with marks behind it. -/
import Derived.Test.YtaacocliclibgaaSl
import Derived.Test.YtaacocliclibgaaKb
import Derived.Deep.OwnRows
import Derived.Deep.QuietTactic
namespace Go.Proofs.Ytaacocliclibgaa.Ln
set_option linter.unusedVariables false
open Go.RowKit Sl Kb
theorem cell_row {w : World} {g i : Nat} {c : Array Value} {t : TypeId} {v : Value} (h : w.heap[g]? = some (.cells c t (0, 0))) (hi : c[i]? = some v) : w.cell? ⟨g, i, none⟩ = some v := by
  simp [World.cell?, h, hi]
theorem frozen_row {w : World} {g i : Nat} {c : Array Value} {t : TypeId} (h : w.heap[g]? = some (.cells c t (0, 0))) : w.frozen? ⟨g, i, none⟩ = false := by
  simp [World.frozen?, h]
/-! lent -/
theorem info3 : (Try.prog.info? 3).map (fun i => (i.zero, i.size, i.bytes)) = some (some (.int .i64 0), 1, 8) := by kernel_rfl
def lentF (l : List Int) : Nat → Int := fun i => if h : i < l.length then l[i] else -77
def lentU (l : List Int) (j : Nat) : Nat → Int := fun i => if i < j then lentF l i else 0
theorem lentU_step (l : List Int) (n j : Nat) (h : j < n) : (inC n (lentU l j)).setIfInBounds j (.int .i64 (lentF l j)) = inC n (lentU l (j + 1)) := by
  rw [inC_set _ _ _ _ h]
  refine inC_ext fun i _ => ?_
  simp only [updI, lentU]
  by_cases e : i = j
  · subst e; rw [if_pos rfl, if_pos (by omega)]
  · rw [if_neg e]
    by_cases c : i < j
    · rw [if_pos c, if_pos (by omega)]
    · rw [if_neg c, if_neg (by omega)]
set_option maxRecDepth 100000 in
set_option maxHeartbeats 1600000 in
theorem lent_at (l : List Int) (a : Addr) (cap : Nat) (w : World) (hl : l.length ≤ 1048576) (hc : ∀ i (h : i < l.length), w.cell? (a.add i) = some (.int .i64 l[i])) :
    Calls Try.prog 10 #[.slice (some a) l.length cap] w fun e w' => e = .returned (.slice (some ⟨w.heap.size, 0, none⟩) l.length (l.length + 8)) ∧ w' = w.alloc (Obj.cells (inC (l.length + 8) (lentF l)) 3) := by
  have HC : Hid (∀ i (h : i < l.length), w.cell? (a.add i) = some (.int .i64 l[i])) := hc
  clear hc
  have mk := run_make_row' (P := Try.prog) 32 3 (.int .i64 0) 8 Try.underlying32 info3 rfl .i64 .i64 (l.length + 8) (by omega) (by omega) w
  rw [made_inC] at mk
  have m8 : ((l.length + 8 : Nat) : Int) = (l.length : Int) + 8 := by omega
  rw [m8] at mk
  have i1 : (l.length : Int) ≤ 1048576 := by omega
  rw [show inC (l.length + 8) (fun _ => 0) = inC (l.length + 8) (lentU l 0) from inC_ext fun i _ => by rw [lentU, if_neg (by omega)]] at mk
  go_enter Try.func10, Try.ntmps10
  go_wp2_with fail
  clear mk
  go_loopw [4] (fun ii wr => ∃ j : Nat, j ≤ l.length + 8 ∧ ii = .int .i64 (j : Int) ∧ wr = w.alloc (Obj.cells (inC (l.length + 8) (lentU l j)) 3)) (fun ii _ => l.length + 9 - (intOf ii).toNat)
  case atStart => exact ⟨0, by omega, rfl, rfl⟩
  case round =>
    obtain ⟨j, hj, rfl, rfl⟩ := hrel
    by_cases hj2 : j < l.length + 8
    · have q : (j : Int) < (l.length : Int) + 8 := by omega
      have q2 : (j : Int) < ((l.length + 8 : Nat) : Int) := by omega
      have q0 : (0 : Int) ≤ (j : Int) := by omega
      have k1 := inC_get (l.length + 8) (lentU l j) j hj2
      have k2 : ∀ v, ((inC (l.length + 8) (lentU l j)).setIfInBounds j v)[j]? = some v := fun v => by
        rw [Array.getElem?_setIfInBounds_self_of_lt (by rw [inC_size]; exact hj2)]
      have HN : Hid ((inC (l.length + 8) (lentU l j)).setIfInBounds j (.int .i64 (lentF l j)) = inC (l.length + 8) (lentU l (j + 1))) := lentU_step l _ j hj2
      by_cases hjl : j < l.length
      · have q3 : (j : Int) < (l.length : Int) := by omega
        obtain ⟨n, hn⟩ : ∃ n, n = l[j] := ⟨_, rfl⟩
        have HF : Hid (lentF l j = n) := by show _ = _; rw [lentF, dif_pos hjl, hn]
        have lt := World.block_lt_of_cell? w _ (HC.out j hjl)
        have cz : ∀ o, (w.alloc o).cell? (a.add j) = some (.int .i64 n) := fun o => by
          rw [World.cell?_of_block (w := w) (Below.heap_alloc w o _ lt), HC.out j hjl, hn]
        clear hn hj
        go_wp2_with fail
        rw [HF.out] at HN
        refine ⟨⟨j + 1, by omega, by simp, by rw [HN.out]⟩, by simp only [intOf]; omega⟩
      · have q3 : ¬ (j : Int) < (l.length : Int) := by omega
        have HF : Hid (lentF l j = -77) := by show _ = _; rw [lentF, dif_neg hjl]
        clear hj
        go_wp2_with fail
        rw [HF.out] at HN
        refine ⟨⟨j + 1, by omega, by simp, by rw [HN.out]⟩, by simp only [intOf]; omega⟩
    · obtain rfl : j = l.length + 8 := by omega
      rw [show inC (l.length + 8) (lentU l (l.length + 8)) = inC (l.length + 8) (lentF l) from inC_ext fun i hi => by rw [lentU, if_pos hi]]
      go_wp2_with fail
      go_ret
      exact ⟨rfl, rfl⟩
set_option maxRecDepth 100000 in
set_option maxHeartbeats 1600000 in
theorem lent_nil (w : World) :
    Calls Try.prog 10 #[.slice none 0 0] w fun e w' => e = .returned (.slice (some ⟨w.heap.size, 0, none⟩) 0 8) ∧ w' = w.alloc (Obj.cells (inC 8 (lentF [])) 3) := by
  have mk : (Instr.makeSlice 32 (.int .i64 8) (.int .i64 8)).run Try.prog w = .ok (.slice (some ⟨w.heap.size, 0, none⟩) 8 8) (w.alloc (.cells (madeCells #[.int .i64 0] 8) 3)) := run_make_row' (P := Try.prog) 32 3 (.int .i64 0) 8 Try.underlying32 info3 rfl .i64 .i64 8 (by omega) (by omega) w
  rw [made_inC, show inC 8 (fun _ => 0) = inC 8 (lentU [] 0) from inC_ext fun i _ => by rw [lentU, if_neg (by omega)]] at mk
  go_enter Try.func10, Try.ntmps10
  go_wp2_with fail
  clear mk
  go_loopw [4] (fun ii wr => ∃ j : Nat, j ≤ 8 ∧ ii = .int .i64 (j : Int) ∧ wr = w.alloc (Obj.cells (inC 8 (lentU [] j)) 3)) (fun ii _ => 9 - (intOf ii).toNat)
  case atStart => exact ⟨0, by omega, rfl, rfl⟩
  case round =>
    obtain ⟨j, hj, rfl, rfl⟩ := hrel
    by_cases hj2 : j < 8
    · have q : (j : Int) < 8 := by omega
      have q0 : (0 : Int) ≤ (j : Int) := by omega
      have k1 := inC_get 8 (lentU [] j) j hj2
      have HN : Hid ((inC 8 (lentU [] j)).setIfInBounds j (.int .i64 (-77)) = inC 8 (lentU [] (j + 1))) := lentU_step [] 8 j hj2
      clear hj
      go_wp2_with fail
      refine ⟨⟨j + 1, by omega, by simp, by rw [HN.out]⟩, by simp only [intOf]; omega⟩
    · obtain rfl : j = 8 := by omega
      rw [show inC 8 (lentU [] 8) = inC 8 (lentF []) from inC_ext fun i hi => by rw [lentU, if_pos hi]]
      go_wp2_with fail
      go_ret
      exact ⟨rfl, rfl⟩
theorem lent_lies (l : List Int) (v : Value) (w : World) (h : Lies w v l) (hl : l.length ≤ 1048576) :
    Calls Try.prog 10 #[v] w fun e w' => e = .returned (.slice (some ⟨w.heap.size, 0, none⟩) l.length (l.length + 8)) ∧ w' = w.alloc (Obj.cells (inC (l.length + 8) (lentF l)) 3) := by
  rcases h with ⟨rfl, rfl⟩ | ⟨a, cap, rfl, _, _, hc, _⟩
  · exact lent_nil w
  · exact lent_at l a cap w hl hc
/-! still -/
theorem below_dr {B : Nat} {a w : World} (h : Below B a w) : ∀ n, Below B a (w.drewN n)
  | 0 => h
  | n + 1 => (below_dr h n).drew
set_option maxRecDepth 100000 in
set_option maxHeartbeats 400000 in
theorem still_at (L : Nat → Int) (N M : Nat) (a : Addr) (cap g : Nat) (w : World) (hM : Hid (M = N + 8)) (hl : N ≤ 1048576) (hc : ∀ i, i < N → w.cell? (a.add i) = some (.int .i64 (L i))) (h77 : ∀ i, N ≤ i → L i = -77)
    (hg : w.heap[g]? = some (.cells (inC M L) 3 (0, 0))) :
    Calls Try.prog 15 #[.slice (some ⟨g, 0, none⟩) N M, .slice (some a) N cap] w fun e w' => e = .returned (.bool true) ∧ Below w.heap.size w w' := by
  have HC : Hid (∀ i, i < N → w.cell? (a.add i) = some (.int .i64 (L i))) := hc
  have H7 : Hid (∀ i, N ≤ i → L i = -77) := h77
  have HG : Hid (w.heap[g]? = some (.cells (inC M L) 3 (0, 0))) := hg
  have m1 : (M : Int) ≤ 1048584 := by have := hM.out; omega
  have i1 : (N : Int) ≤ 1048576 := by omega
  have m2 : (N : Int) + 8 = (M : Int) := by have := hM.out; omega
  clear hc h77 hg
  go_enter Try.func15, Try.ntmps15
  go_wp2_with fail
  go_loopw [6] (fun ii wr => ∃ j : Nat, j ≤ M ∧ ii = .int .i64 (j : Int) ∧ Below w.heap.size w wr) (fun ii _ => M + 1 - (intOf ii).toNat)
  case atStart => exact ⟨0, by omega, rfl, Below.refl _ _⟩
  case round =>
    obtain ⟨j, hj, rfl, hb⟩ := hrel
    by_cases hj2 : j < M
    · have q : (j : Int) < (M : Int) := by omega
      have q0 : (0 : Int) ≤ (j : Int) := by omega
      have k1 : wr.cell? ⟨g, j, none⟩ = some (.int .i64 (L j)) := cell_row (kept hb HG.out) (inC_get _ _ _ hj2)
      by_cases hjl : j < N
      · have q3 : (j : Int) < (N : Int) := by omega
        have hjn : ¬ N ≤ j := by omega
        have hjm : ¬ (N : Int) ≤ (j : Int) := by omega
        have cz : wr.cell? (a.add j) = some (.int .i64 (L j)) := (hb.cell (World.block_lt_of_cell? w _ (HC.out j hjl))).trans (HC.out j hjl)
        generalize L j = n at *
        clear hj hl i1
        go_wp2_with fail
        go_region
        go_wp2_with fail
        exact ⟨⟨j + 1, by omega, by simp, below_dr hb 1⟩, by simp only [intOf]; omega⟩
      · have q3 : (N : Int) ≤ (j : Int) := by omega
        have hjn : N ≤ j := by omega
        have hjm : ¬ (j : Int) < (N : Int) := by omega
        rw [H7.out j hjn] at k1
        clear hj hl i1
        go_wp2_with fail
        go_region
        go_wp2_with fail
        exact ⟨⟨j + 1, by omega, by simp, below_dr hb 1⟩, by simp only [intOf]; omega⟩
    · obtain rfl : j = M := by omega
      go_wp2_with fail
      go_ret
      exact ⟨rfl, hb⟩
set_option maxRecDepth 100000 in
set_option maxHeartbeats 400000 in
theorem still_nil (L : Nat → Int) (N M : Nat) (g : Nat) (w : World) (hN : Hid (∀ j : Nat, N ≤ j)) (h77 : ∀ i, L i = -77) (hN0 : (N : Int) + 8 = (M : Int)) (hM : M ≤ 8)
    (hg : w.heap[g]? = some (.cells (inC M L) 3 (0, 0))) :
    Calls Try.prog 15 #[.slice (some ⟨g, 0, none⟩) N M, .slice none N N] w fun e w' => e = .returned (.bool true) ∧ Below w.heap.size w w' := by
  have H7 : Hid (∀ i, L i = -77) := h77
  have HG : Hid (w.heap[g]? = some (.cells (inC M L) 3 (0, 0))) := hg
  have m1 : (M : Int) ≤ 1048584 := by omega
  have i1 : (N : Int) ≤ 1048576 := by have := hN.out 0; omega
  clear h77 hg
  go_enter Try.func15, Try.ntmps15
  go_wp2_with fail
  go_loopw [6] (fun ii wr => ∃ j : Nat, j ≤ M ∧ ii = .int .i64 (j : Int) ∧ Below w.heap.size w wr) (fun ii _ => M + 1 - (intOf ii).toNat)
  case atStart => exact ⟨0, by omega, rfl, Below.refl _ _⟩
  case round =>
    obtain ⟨j, hj, rfl, hb⟩ := hrel
    by_cases hj2 : j < M
    · have q : (j : Int) < (M : Int) := by omega
      have q0 : (0 : Int) ≤ (j : Int) := by omega
      have k1 : wr.cell? ⟨g, j, none⟩ = some (.int .i64 (L j)) := cell_row (kept hb HG.out) (inC_get _ _ _ hj2)
      have hjl : ¬ j < N := Nat.not_lt.mpr (hN.out j)
      have hjn : N ≤ j := hN.out j
      have q3 : (N : Int) ≤ (j : Int) := by omega
      have hjm : ¬ (j : Int) < (N : Int) := by omega
      rw [H7.out j] at k1
      clear hj hM
      go_wp2_with fail
      go_region
      go_wp2_with fail
      exact ⟨⟨j + 1, by omega, by simp, below_dr hb 1⟩, by simp only [intOf]; omega⟩
    · obtain rfl : j = M := by omega
      go_wp2_with fail
      go_ret
      exact ⟨rfl, hb⟩
theorem still_lies (l : List Int) (v : Value) (g : Nat) (w : World) (h : Lies w v l) (hl : l.length ≤ 1048576)
    (hg : w.heap[g]? = some (.cells (inC (l.length + 8) (lentF l)) 3 (0, 0))) :
    Calls Try.prog 15 #[.slice (some ⟨g, 0, none⟩) l.length (l.length + 8), v] w fun e w' => e = .returned (.bool true) ∧ Below w.heap.size w w' := by
  rcases h with ⟨rfl, rfl⟩ | ⟨a, cap, rfl, _, _, hc, _⟩
  · exact still_nil (lentF []) 0 8 g w (fun j => Nat.zero_le j) (fun i => dif_neg (Nat.not_lt_zero i)) (by decide) (Nat.le_refl _) hg
  · refine still_at (lentF l) l.length _ a cap g w (rfl : _ = _) hl (fun i hi => ?_) (fun i hi => ?_) hg
    · rw [hc i hi, show lentF l i = l[i] from dif_pos hi]
    · rw [lentF, dif_neg (by omega)]
theorem add0 (g i : Nat) : (⟨g, 0, none⟩ : Addr).add i = ⟨g, i, none⟩ := by unfold Addr.add; simp; omega
/-- the lent list itself -/
theorem lent_is {w : World} {g : Nat} {l : List Int} (hl : l.length ≤ 1048576) (hz : ∀ x ∈ l, (Lit.int .i64 x).wf = true) (hg : w.heap[g]? = some (.cells (inC (l.length + 8) (lentF l)) 3 (0, 0))) : Lies w (.slice (some ⟨g, 0, none⟩) l.length (l.length + 8)) l :=
  Or.inr ⟨_, _, rfl, by omega, by unfold maxLen; omega, fun i hi => by
    rw [add0]
    refine cell_row hg ?_
    rw [inC_get _ _ _ (by omega), lentF, dif_pos hi], hz⟩
/-- one place of the lent list is written -/
theorem lent_set (l : List Int) (k : Nat) (n : Int) (h : k < l.length) : (inC (l.length + 8) (lentF l)).setIfInBounds k (.int .i64 n) = inC ((l.set k n).length + 8) (lentF (l.set k n)) := by
  rw [inC_set _ _ _ _ (by omega), List.length_set]
  refine inC_ext fun i _ => ?_
  simp only [updI, lentF, List.length_set]
  by_cases e : i = k
  · subst e; simp [h]
  · rw [if_neg e]
    by_cases hi : i < l.length
    · rw [dif_pos hi, dif_pos hi, List.getElem_set_ne (fun x => e x.symm)]
    · rw [dif_neg hi, dif_neg hi]
end Go.Proofs.Ytaacocliclibgaa.Ln
