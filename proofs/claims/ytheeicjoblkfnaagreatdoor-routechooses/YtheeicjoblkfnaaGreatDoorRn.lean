/- RouteChooses: numbers and truths lent with marks behind. -/
import Derived.Test.YtheeicjoblkfnaaGreatDoorRc
import Derived.Deep.OwnRows
import Derived.BigQuiet
namespace Go.Proofs.YtheeicjoblkfnaaGreatDoor.Rn
set_option linter.unusedVariables false
set_option linter.unusedSimpArgs false
open Go.RowKit Lib0 Kb Rp Rw Rs Rc
/-- n cells -/
def vC (n : Nat) (f : Nat → Value) : Array Value := ((List.range n).map f).toArray
theorem vC_size (n : Nat) (f : Nat → Value) : (vC n f).size = n := by simp [vC]
theorem vC_get (n : Nat) (f : Nat → Value) (i : Nat) (h : i < n) : (vC n f)[i]? = some (f i) := by simp [vC, h]
theorem vC_ext {n : Nat} {f g : Nat → Value} (h : ∀ i, i < n → f i = g i) : vC n f = vC n g := by
  simp only [vC]; congr 1
  apply List.map_congr_left
  intro i hi
  rw [h i (List.mem_range.1 hi)]
def updV (f : Nat → Value) (k : Nat) (b : Value) : Nat → Value := fun i => if i = k then b else f i
theorem vC_set (n : Nat) (f : Nat → Value) (k : Nat) (b : Value) (h : k < n) : (vC n f).setIfInBounds k b = vC n (updV f k b) := by
  apply Array.ext_getElem?
  intro i
  by_cases hi : i < n
  · rw [vC_get _ _ _ hi, Array.getElem?_setIfInBounds]
    by_cases e : k = i
    · subst e; simp [updV, vC_size, h]
    · rw [if_neg e, vC_get _ _ _ hi, updV, if_neg (fun x => e x.symm)]
  · rw [Array.getElem?_eq_none (by simp [vC_size]; omega), Array.getElem?_eq_none (by simp [vC_size]; omega)]
theorem made_vC (z : Value) (n : Nat) : madeCells #[z] n = vC n (fun _ => z) := by
  apply Array.ext_getElem?
  intro i
  by_cases hi : i < n
  · rw [vC_get _ _ _ hi]
    simp [madeCells, hi, Nat.mod_one]
  · rw [Array.getElem?_eq_none (by rw [size_madeCells]; omega), Array.getElem?_eq_none (by rw [vC_size]; omega)]
/-- the first j written -/
def upTo (f g : Nat → Value) (j : Nat) : Nat → Value := fun i => if i < j then f i else g i
theorem upTo_step (f g : Nat → Value) (n j : Nat) (h : j < n) : (vC n (upTo f g j)).setIfInBounds j (f j) = vC n (upTo f g (j + 1)) := by
  rw [vC_set _ _ _ _ h]
  refine vC_ext fun i _ => ?_
  simp only [updV, upTo]
  by_cases e : i = j
  · subst e; rw [if_pos rfl, if_pos (by omega)]
  · rw [if_neg e]
    by_cases c : i < j
    · rw [if_pos c, if_pos (by omega)]
    · rw [if_neg c, if_neg (by omega)]
theorem upTo_zero (f g : Nat → Value) (n : Nat) : vC n (upTo f g 0) = vC n g := vC_ext fun i _ => by rw [upTo, if_neg (by omega)]
theorem upTo_all (f g : Nat → Value) (n : Nat) : vC n (upTo f g n) = vC n f := vC_ext fun i hi => by rw [upTo, if_pos hi]
theorem set_twice (a : Array Value) (j : Nat) (u v : Value) : (a.setIfInBounds j u).setIfInBounds j v = a.setIfInBounds j v := by simp
def tw (l : List Int) : Nat → Value := fun i => .int .i64 (if h : i < l.length then l[i] else -77)
def bw (l : List Bool) : Nat → Value := fun i => .bool (if h : i < l.length then l[i] else true)
theorem infoI : (Tryz.prog.info? 3).map (fun i => (i.zero, i.size, i.bytes)) = some (some (.int .i64 0), 1, 8) := by kernel_rfl
theorem infoB : (Tryz.prog.info? 4).map (fun i => (i.zero, i.size, i.bytes)) = some (some (.bool false), 1, 1) := by kernel_rfl
theorem cell_vC {w : World} {g n : Nat} {f : Nat → Value} {t : TypeId} (h : w.heap[g]? = some (.cells (vC n f) t)) (i : Nat) (hi : i < n) : w.cell? ⟨g, i, none⟩ = some (f i) := by
  simp only [World.cell?, h]; exact vC_get n f i hi
theorem froz {y : World} {g : Nat} {c : Array Value} {t : TypeId} (h : y.heap[g]? = some (.cells c t)) (o : Nat) : y.frozen? ⟨g, o, none⟩ = false := by
  unfold World.frozen?; rw [h]; simp
set_option maxRecDepth 100000 in
set_option maxHeartbeats 1600000 in
theorem twin_any (l : List Int) (v : Value) (w : World) (hv : RI w v l) (hl : l.length ≤ 3000) : Calls Tryz.prog 44 #[v] w fun e w' => e = .returned (.slice (some ⟨w.heap.size, 0, none⟩) l.length (l.length + 8)) ∧ w'.heap[w.heap.size]? = some (.cells (vC (l.length + 8) (tw l)) 3) ∧ Below w.heap.size w w' := by
  obtain ⟨o, cap, rfl, -, hc⟩ := hv
  have HC : Hid (∀ i (h : i < l.length), ∃ a : Addr, o = some a ∧ w.cell? (a.add i) = some (.int .i64 l[i])) := hc
  obtain ⟨N, HN⟩ : ∃ N, Hid (l.length = N) := ⟨_, rfl⟩
  obtain ⟨M, HM⟩ : ∃ M, Hid (l.length + 8 = M) := ⟨_, rfl⟩
  have mk := run_make_row' (P := Tryz.prog) 43 3 (.int .i64 0) 8 Tryz.underlying43 infoI rfl .i64 .i64 (l.length + 8) (by omega) (by omega) w
  rw [made_vC, ← upTo_zero (tw l) (fun _ => .int .i64 0), HM.out] at mk
  rw [HM.out, HN.out]
  have HMN : Hid (M = N + 8) := by show _ = _; rw [← HM.out, HN.out]
  have hN3 : Hid (N ≤ 3000) := by show _ ≤ _; rw [← HN.out]; exact hl
  have e8 : (N : Int) + 8 = (M : Int) := by have := HMN.out; omega
  have i1 : (N : Int) ≤ 3000 := by have := hN3.out; omega
  have i2 : (N : Int) ≤ (M : Int) := by have := HMN.out; omega
  have i3 : (0 : Int) < (M : Int) := by have := HMN.out; omega
  have i4 : ¬ M = 0 := by have := HMN.out; omega
  clear hc hl
  go_enter Tryz.func44, Tryz.ntmps44
  go_wp2_with fail
  have H0 : (w.alloc (.cells (vC M (upTo (tw l) (fun _ => .int .i64 0) 0)) 3)).heap[w.heap.size]? = some (.cells (vC M (upTo (tw l) (fun _ => .int .i64 0) 0)) 3) := h1_0 w _
  have B0 : Below w.heap.size w (w.alloc (.cells (vC M (upTo (tw l) (fun _ => .int .i64 0) 0)) 3)) := below_one w _
  generalize w.alloc (.cells (vC M (upTo (tw l) (fun _ => .int .i64 0) 0)) 3) = y0 at *
  clear mk
  go_loopw [4] (fun ii wr => ∃ j : Nat, j ≤ M ∧ ii = .int .i64 (j : Int) ∧ wr.heap[w.heap.size]? = some (.cells (vC M (upTo (tw l) (fun _ => .int .i64 0) j)) 3) ∧ Below w.heap.size w wr) (fun ii _ => M + 1 - (intOf ii).toNat)
  case atStart => exact ⟨0, by omega, rfl, H0, B0⟩
  case round =>
    obtain ⟨j, hj, rfl, hG, hb⟩ := hrel
    by_cases hj2 : j < M
    · have q : (j : Int) < (M : Int) := by omega
      have q0 : (0 : Int) ≤ (j : Int) := by omega
      have q5 : (j : Int) + 1 ≤ 9223372036854775807 := by have := HMN.out; have := hN3.out; omega
      have k1 := cell_vC hG j hj2
      have k2 := froz hG j
      have HG := setCell_heap hG j (.int .i64 (-77))
      have k3 : (wr.setCell ⟨w.heap.size, j, none⟩ (.int .i64 (-77))).frozen? ⟨w.heap.size, j, none⟩ = false := froz HG j
      have k4 : ∃ u, (wr.setCell ⟨w.heap.size, j, none⟩ (.int .i64 (-77))).cell? ⟨w.heap.size, j, none⟩ = some u := by
        refine ⟨.int .i64 (-77), ?_⟩
        simp only [World.cell?, HG]
        rw [Array.getElem?_setIfInBounds_self_of_lt (by rw [vC_size]; exact hj2)]; rfl
      obtain ⟨u4, k4⟩ := k4
      have HCJ : Hid (j < M) := hj2
      by_cases hjl : j < N
      · have q3 : (j : Int) < (N : Int) := by omega
        obtain ⟨a, rfl, cz⟩ := HC.out j (by rw [HN.out]; exact hjl)
        obtain ⟨n, hn⟩ : ∃ n, n = l[j]'(by rw [HN.out]; exact hjl) := ⟨_, rfl⟩
        rw [← hn] at cz
        have HF : Hid (tw l j = .int .i64 n) := by show _ = _; rw [tw, dif_pos (by rw [HN.out]; exact hjl), hn]
        have lt := World.block_lt_of_cell? w _ cz
        have hb2 : Below w.heap.size w (wr.setCell ⟨w.heap.size, j, none⟩ (.int .i64 (-77))) := hb.setCell (p := ⟨w.heap.size, j, none⟩) (Nat.le_refl _) _
        have cz2 : (wr.setCell ⟨w.heap.size, j, none⟩ (.int .i64 (-77))).cell? (a.add j) = some (.int .i64 n) := (hb2.cell lt).trans cz
        have HB : Hid (Below w.heap.size w ((wr.setCell ⟨w.heap.size, j, none⟩ (.int .i64 (-77))).setCell ⟨w.heap.size, j, none⟩ (.int .i64 n))) := hb2.setCell (p := ⟨w.heap.size, j, none⟩) (Nat.le_refl _) _
        have HG2 : Hid (((wr.setCell ⟨w.heap.size, j, none⟩ (.int .i64 (-77))).setCell ⟨w.heap.size, j, none⟩ (.int .i64 n)).heap[w.heap.size]? = some (.cells (vC M (upTo (tw l) (fun _ => .int .i64 0) (j + 1))) 3)) := by
          show _ = _
          rw [setCell_heap HG, set_twice, ← HF.out, upTo_step _ _ _ _ hj2]
        clear hn hj HG hj2 hjl hb2 cz lt hG
        go_wp2_with fail
        exact ⟨⟨j + 1, HCJ.out, by simp, HG2.out, HB.out⟩, by simp only [intOf]; have := HCJ.out; omega⟩
      · have q3 : ¬ (j : Int) < (N : Int) := by omega
        have HF : Hid (tw l j = .int .i64 (-77)) := by show _ = _; rw [tw, dif_neg (by rw [HN.out]; exact hjl)]
        have HB : Hid (Below w.heap.size w (wr.setCell ⟨w.heap.size, j, none⟩ (.int .i64 (-77)))) := hb.setCell (p := ⟨w.heap.size, j, none⟩) (Nat.le_refl _) _
        have HG2 : Hid ((wr.setCell ⟨w.heap.size, j, none⟩ (.int .i64 (-77))).heap[w.heap.size]? = some (.cells (vC M (upTo (tw l) (fun _ => .int .i64 0) (j + 1))) 3)) := by
          show _ = _
          rw [HG, ← HF.out, upTo_step _ _ _ _ hj2]
        clear hj HG hj2 hjl hG
        go_wp2_with fail
        exact ⟨⟨j + 1, HCJ.out, by simp, HG2.out, HB.out⟩, by simp only [intOf]; have := HCJ.out; omega⟩
    · obtain rfl : j = M := by omega
      rw [upTo_all] at hG
      have q : ¬ (j : Int) < (j : Int) := by omega
      go_wp2_with fail
      go_ret
      exact ⟨rfl, hG, hb⟩
theorem twins_any (l : List Int) (v : Value) (w : World) (hv : RI w v l) (hl : l.length ≤ 3000) : Calls Tryz.prog 13 #[v] w fun e w' => e = .returned (.slice (some ⟨w.heap.size, 0, none⟩) l.length (l.length + 8)) ∧ w'.heap[w.heap.size]? = some (.cells (vC (l.length + 8) (tw l)) 3) ∧ Below w.heap.size w w' := by
  have pt := twin_any l v w hv hl
  obtain ⟨o, cap, rfl, -, -⟩ := hv
  go_enter Tryz.func13, Tryz.ntmps13
  go_wp2_with fail
  refine pt.mono ?_
  rintro e y ⟨rfl, h1, h2⟩
  clear pt
  go_wp2_with fail
  go_ret
  exact ⟨rfl, h1, h2⟩
set_option maxRecDepth 100000 in
set_option maxHeartbeats 1600000 in
theorem still_any (l : List Int) (v : Value) (g : Nat) (w : World) (hv : RI w v l) (hl : l.length ≤ 3000) (hg : w.heap[g]? = some (.cells (vC (l.length + 8) (tw l)) 3)) : Calls Tryz.prog 46 #[.slice (some ⟨g, 0, none⟩) l.length (l.length + 8), v] w fun e w' => e = .returned (.bool true) ∧ Below w.heap.size w w' := by
  obtain ⟨o, cap, rfl, -, hc⟩ := hv
  have HC : Hid (∀ i (h : i < l.length), ∃ a : Addr, o = some a ∧ w.cell? (a.add i) = some (.int .i64 l[i])) := hc
  obtain ⟨N, HN⟩ : ∃ N, Hid (l.length = N) := ⟨_, rfl⟩
  obtain ⟨M, HM⟩ : ∃ M, Hid (l.length + 8 = M) := ⟨_, rfl⟩
  have HG : Hid (w.heap[g]? = some (.cells (vC M (tw l)) 3)) := by show _ = _; rw [← HM.out]; exact hg
  rw [HM.out, HN.out]
  have HMN : Hid (M = N + 8) := by show _ = _; rw [← HM.out, HN.out]
  have hN3 : Hid (N ≤ 3000) := by show _ ≤ _; rw [← HN.out]; exact hl
  have e8 : (N : Int) + 8 = (M : Int) := by have := HMN.out; omega
  have i1 : (N : Int) ≤ 3000 := by have := hN3.out; omega
  have i2 : (M : Int) ≤ (M : Int) := by omega
  have i3 : (0 : Int) < (M : Int) := by have := HMN.out; omega
  have i4 : ¬ M = 0 := by have := HMN.out; omega
  clear hc hl hg
  go_enter Tryz.func46, Tryz.ntmps46
  go_wp2_with fail
  go_loopw [6] (fun ii wr => ∃ j : Nat, j ≤ M ∧ ii = .int .i64 (j : Int) ∧ Hid (Below w.heap.size w wr)) (fun ii _ => M + 1 - (intOf ii).toNat)
  case atStart => exact ⟨0, by omega, rfl, Below.refl _ _⟩
  case round =>
    obtain ⟨j, hj, rfl, HB⟩ := hrel
    by_cases hj2 : j < M
    · have q : (j : Int) < (M : Int) := by omega
      have q0 : (0 : Int) ≤ (j : Int) := by omega
      have q5 : (j : Int) + 1 ≤ 9223372036854775807 := by have := HMN.out; have := hN3.out; omega
      have k1 := cell_vC (kept HB.out HG.out) j hj2
      have HCJ : Hid (j < M) := hj2
      by_cases hjl : j < N
      · have q3 : (j : Int) < (N : Int) := by omega
        have q4 : decide (N ≤ j) = false := by simp; omega
        have q6 : ¬ (N : Int) ≤ (j : Int) := by omega
        obtain ⟨a, rfl, cz⟩ := HC.out j (by rw [HN.out]; exact hjl)
        obtain ⟨n, hn⟩ : ∃ n, n = l[j]'(by rw [HN.out]; exact hjl) := ⟨_, rfl⟩
        rw [← hn] at cz
        rw [tw, dif_pos (by rw [HN.out]; exact hjl), ← hn] at k1
        have lt := World.block_lt_of_cell? w _ cz
        have cz2 : wr.cell? (a.add j) = some (.int .i64 n) := (HB.out.cell lt).trans cz
        clear hn hj hj2 hjl cz lt
        go_wp2_with fail
        go_quiet (fail)
        go_wp2_with fail
        exact ⟨⟨j + 1, HCJ.out, by simp, below_drewN HB.out _⟩, by simp only [intOf]; have := HCJ.out; omega⟩
      · have q3 : decide (j < N) = false := by simp; omega
        have q7 : decide (N ≤ j) = true := by simp; omega
        have q4 : (N : Int) ≤ (j : Int) := by omega
        rw [tw, dif_neg (by rw [HN.out]; exact hjl)] at k1
        clear hj hj2 hjl
        go_wp2_with fail
        go_quiet (fail)
        go_wp2_with fail
        exact ⟨⟨j + 1, HCJ.out, by simp, below_drewN HB.out _⟩, by simp only [intOf]; have := HCJ.out; omega⟩
    · obtain rfl : j = M := by omega
      go_wp2_with fail
      go_ret
      exact ⟨rfl, HB.out⟩
theorem stills_any (l : List Int) (v : Value) (g : Nat) (w : World) (hv : RI w v l) (hl : l.length ≤ 3000) (hg : w.heap[g]? = some (.cells (vC (l.length + 8) (tw l)) 3)) : Calls Tryz.prog 17 #[.slice (some ⟨g, 0, none⟩) l.length (l.length + 8), v] w fun e w' => e = .returned (.bool true) ∧ Below w.heap.size w w' := by
  have pt := still_any l v g w hv hl hg
  obtain ⟨o, cap, rfl, -, -⟩ := hv
  clear hg
  go_enter Tryz.func17, Tryz.ntmps17
  go_wp2_with fail
  refine pt.mono ?_
  rintro e y ⟨rfl, h2⟩
  clear pt
  go_wp2_with fail
  go_ret
  exact ⟨rfl, h2⟩
set_option maxRecDepth 100000 in
set_option maxHeartbeats 1600000 in
theorem bools_any (l : List Bool) (v : Value) (w : World) (hv : RB w v l) (hl : l.length ≤ 3000) : Calls Tryz.prog 14 #[v] w fun e w' => e = .returned (.slice (some ⟨w.heap.size, 0, none⟩) l.length (l.length + 8)) ∧ w'.heap[w.heap.size]? = some (.cells (vC (l.length + 8) (bw l)) 4) ∧ Below w.heap.size w w' := by
  obtain ⟨o, cap, rfl, -, hc⟩ := hv
  have HC : Hid (∀ i (h : i < l.length), ∃ a : Addr, o = some a ∧ w.cell? (a.add i) = some (.bool l[i])) := hc
  obtain ⟨N, HN⟩ : ∃ N, Hid (l.length = N) := ⟨_, rfl⟩
  obtain ⟨M, HM⟩ : ∃ M, Hid (l.length + 8 = M) := ⟨_, rfl⟩
  have mk := run_make_row' (P := Tryz.prog) 48 4 (.bool false) 1 Tryz.underlying48 infoB rfl .i64 .i64 (l.length + 8) (by omega) (by omega) w
  rw [made_vC, ← upTo_zero (bw l) (fun _ => .bool false), HM.out] at mk
  rw [HM.out, HN.out]
  have HMN : Hid (M = N + 8) := by show _ = _; rw [← HM.out, HN.out]
  have hN3 : Hid (N ≤ 3000) := by show _ ≤ _; rw [← HN.out]; exact hl
  have e8 : (N : Int) + 8 = (M : Int) := by have := HMN.out; omega
  have i1 : (N : Int) ≤ 3000 := by have := hN3.out; omega
  have i2 : (N : Int) ≤ (M : Int) := by have := HMN.out; omega
  have i3 : (0 : Int) < (M : Int) := by have := HMN.out; omega
  have i4 : ¬ M = 0 := by have := HMN.out; omega
  clear hc hl
  go_enter Tryz.func14, Tryz.ntmps14
  go_wp2_with fail
  have H0 : (w.alloc (.cells (vC M (upTo (bw l) (fun _ => .bool false) 0)) 4)).heap[w.heap.size]? = some (.cells (vC M (upTo (bw l) (fun _ => .bool false) 0)) 4) := h1_0 w _
  have B0 : Below w.heap.size w (w.alloc (.cells (vC M (upTo (bw l) (fun _ => .bool false) 0)) 4)) := below_one w _
  generalize w.alloc (.cells (vC M (upTo (bw l) (fun _ => .bool false) 0)) 4) = y0 at *
  clear mk
  go_loopw [4] (fun ii wr => ∃ j : Nat, j ≤ M ∧ ii = .int .i64 (j : Int) ∧ wr.heap[w.heap.size]? = some (.cells (vC M (upTo (bw l) (fun _ => .bool false) j)) 4) ∧ Below w.heap.size w wr) (fun ii _ => M + 1 - (intOf ii).toNat)
  case atStart => exact ⟨0, by omega, rfl, H0, B0⟩
  case round =>
    obtain ⟨j, hj, rfl, hG, hb⟩ := hrel
    by_cases hj2 : j < M
    · have q : (j : Int) < (M : Int) := by omega
      have q0 : (0 : Int) ≤ (j : Int) := by omega
      have q5 : (j : Int) + 1 ≤ 9223372036854775807 := by have := HMN.out; have := hN3.out; omega
      have k1 := cell_vC hG j hj2
      have k2 := froz hG j
      have HCJ : Hid (j < M) := hj2
      by_cases hjl : j < N
      · have q3 : (j : Int) < (N : Int) := by omega
        have q4 : ¬ (N : Int) ≤ (j : Int) := by omega
        obtain ⟨a, rfl, cz⟩ := HC.out j (by rw [HN.out]; exact hjl)
        obtain ⟨n, hn⟩ : ∃ n, n = l[j]'(by rw [HN.out]; exact hjl) := ⟨_, rfl⟩
        rw [← hn] at cz
        have HF : Hid (bw l j = .bool n) := by show _ = _; rw [bw, dif_pos (by rw [HN.out]; exact hjl), hn]
        have lt := World.block_lt_of_cell? w _ cz
        have cz2 : wr.cell? (a.add j) = some (.bool n) := (hb.cell lt).trans cz
        have HB : Hid (Below w.heap.size w (wr.setCell ⟨w.heap.size, j, none⟩ (.bool n))) := hb.setCell (p := ⟨w.heap.size, j, none⟩) (Nat.le_refl _) _
        have HG2 : Hid ((wr.setCell ⟨w.heap.size, j, none⟩ (.bool n)).heap[w.heap.size]? = some (.cells (vC M (upTo (bw l) (fun _ => .bool false) (j + 1))) 4)) := by
          show _ = _
          rw [setCell_heap hG, ← HF.out, upTo_step _ _ _ _ hj2]
        clear hn hj hj2 hjl cz lt hG
        go_wp2_with fail
        exact ⟨⟨j + 1, HCJ.out, by simp, HG2.out, HB.out⟩, by simp only [intOf]; have := HCJ.out; omega⟩
      · have q3 : (N : Int) ≤ (j : Int) := by omega
        have HF : Hid (bw l j = .bool true) := by show _ = _; rw [bw, dif_neg (by rw [HN.out]; exact hjl)]
        have HB : Hid (Below w.heap.size w (wr.setCell ⟨w.heap.size, j, none⟩ (.bool true))) := hb.setCell (p := ⟨w.heap.size, j, none⟩) (Nat.le_refl _) _
        have HG2 : Hid ((wr.setCell ⟨w.heap.size, j, none⟩ (.bool true)).heap[w.heap.size]? = some (.cells (vC M (upTo (bw l) (fun _ => .bool false) (j + 1))) 4)) := by
          show _ = _
          rw [setCell_heap hG, ← HF.out, upTo_step _ _ _ _ hj2]
        clear hj hj2 hjl hG
        go_wp2_with fail
        exact ⟨⟨j + 1, HCJ.out, by simp, HG2.out, HB.out⟩, by simp only [intOf]; have := HCJ.out; omega⟩
    · obtain rfl : j = M := by omega
      rw [upTo_all] at hG
      have q : ¬ (j : Int) < (j : Int) := by omega
      go_wp2_with fail
      go_ret
      exact ⟨rfl, hG, hb⟩
end Go.Proofs.YtheeicjoblkfnaaGreatDoor.Rn
