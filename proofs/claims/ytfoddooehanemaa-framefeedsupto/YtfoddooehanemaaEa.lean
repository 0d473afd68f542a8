/- Frames: bytes that are lent. -/
import Derived.Test.YtfoddooehanemaaFv
import Derived.Lib.BufferWrite
namespace Go.Proofs.Ytfoddooehanemaa.Ea
set_option linter.unusedVariables false
set_option linter.unusedSimpArgs false
open Go.RowKit Lib0 Kb Fa Fb Fc Fm Fe Ff Fg
theorem bs_set (l r : List UInt8) (x y : UInt8) : (bs (l ++ x :: r)).toArray.setIfInBounds l.length (.int .u8 (y.toNat : Int)) = (bs (l ++ y :: r)).toArray := by
  simp [bs]
theorem bs_cell {w : World} {g : Nat} {l r : List UInt8} {x : UInt8} (h : w.heap[g]? = some (.cells (bs (l ++ x :: r)).toArray 5)) (k : Nat) (hk : k = l.length) : w.cell? ⟨g, k, none⟩ = some (.int .u8 (x.toNat : Int)) ∧ w.frozen? ⟨g, k, none⟩ = false := by
  subst hk
  refine ⟨?_, ?_⟩
  · unfold World.cell?; rw [h]; simp [bs]
  · unfold World.frozen?; rw [h]; simp
def mk9 (s : ByteArray) : List UInt8 := s.data.toList ++ List.replicate 9 201
theorem mk9_len (s : ByteArray) : (mk9 s).length = s.size + 9 := by simp [mk9]
set_option maxRecDepth 100000 in
set_option maxHeartbeats 1600000 in
theorem lent_any (s : ByteArray) (hs : s.size ≤ 1048576) (w : World) : Calls Try.prog 11 #[.string s] w fun e w' => e = .returned (.slice (some ⟨w.heap.size, 0, none⟩) (s.size + 9) (s.size + 9)) ∧ w'.heap[w.heap.size]? = some (.cells (bs (mk9 s)).toArray 5) ∧ Below w.heap.size w w' := by
  obtain ⟨i0, hi, hz0, hz1, hz2⟩ := info_parts info
  have q0 : (s.size : Int) + 9 = ((s.size + 9 : Nat) : Int) := by omega
  have HQ : Hid ((s.size : Int) + 9 = ((s.size + 9 : Nat) : Int)) := q0
  have hsI : (s.size : Int) ≤ 1048576 := by omega
  clear q0
  obtain ⟨W1, HW1⟩ : ∃ W1, Hid (w.alloc (.cells (bs (List.replicate (s.size + 9) 0)).toArray 5) = W1) := ⟨_, rfl⟩
  have h1 : W1.heap[w.heap.size]? = some (.cells (bs (List.replicate (s.size + 9) 0)).toArray 5) := HW1.out ▸ h1_0 w _
  have b1 : Below w.heap.size w W1 := HW1.out ▸ below_one w _
  have hr := fun ty => Lib.run_copy_row_string (P := Try.prog) W1 37 9 ty 5 w.heap.size 0 (s.size + 9) (s.size + 9) s _ 5 Try.underlying37 info1 h1 (by omega) (by simp [bs])
  rw [show (((bs (List.replicate (s.size + 9) 0)).toArray.toList.take 0 ++ Lib.byteCells s.data.toList ++ (bs (List.replicate (s.size + 9) 0)).toArray.toList.drop (0 + s.size)).toArray : Array Value) = (bs (s.data.toList ++ List.replicate 9 0)).toArray by simp [bs, Lib.byteCells]] at hr
  have h2 := setRow_at h1 (bs (s.data.toList ++ List.replicate 9 0)).toArray
  have b2 := Kb.below_setRow b1 (Nat.le_refl _) (bs (s.data.toList ++ List.replicate 9 0)).toArray
  generalize W1.setRow w.heap.size (bs (s.data.toList ++ List.replicate 9 0)).toArray = W2 at *
  have H2 : Hid (W2.heap[w.heap.size]? = some (.cells (bs (s.data.toList ++ List.replicate 9 0)).toArray 5)) := h2
  have HB2 : Hid (Below w.heap.size w W2) := b2
  clear h1 b1 h2 b2
  go_enter Try.func11, Try.ntmps11
  go_wp2_with (at_make; refine wpList_make_row _ rfl _ _ 37 rfl 5 i0 _ Try.underlying37 hi hz0 hz1 rfl _ _ (s.size + 9) (congrArg (Value.int .i64) HQ.out) (congrArg (Value.int .i64) HQ.out) (by rw [hz2]; omega) (by omega) ?_; rw [bs_made, HW1.out])
  go_loopw [4] (fun iv wr => ∃ j : Nat, iv = .int .i64 ((s.size + j : Nat) : Int) ∧ j ≤ 9 ∧ wr.heap[w.heap.size]? = some (.cells (bs ((s.data.toList ++ List.replicate j 201) ++ List.replicate (9 - j) 0)).toArray 5) ∧ Below w.heap.size w wr) (fun iv _ => s.size + 10 - (intOf iv).toNat)
  case atStart => exact ⟨0, rfl, by omega, by simpa using H2.out, HB2.out⟩
  case round =>
    obtain ⟨j, rfl, hj, hh, hb⟩ := hrel
    by_cases hj9 : j < 9
    · obtain ⟨k, hk⟩ : ∃ k, 9 - j = k + 1 := ⟨9 - j - 1, by omega⟩
      rw [hk, List.replicate_succ] at hh
      have hl : s.size + j = (s.data.toList ++ List.replicate j (201 : UInt8)).length := by simp
      obtain ⟨c1, f1⟩ := bs_cell hh (s.size + j) hl
      have hset := bs_set (s.data.toList ++ List.replicate j 201) (List.replicate k 0) 0 201
      rw [← hl] at hset
      have H3 : Hid ((wr.setCell ⟨w.heap.size, s.size + j, none⟩ (.int .u8 201)).heap[w.heap.size]? = some (.cells (bs ((s.data.toList ++ List.replicate (j + 1) 201) ++ List.replicate (9 - (j + 1)) 0)).toArray 5)) := by
        show _ = _
        rw [setCell_heap hh, show (Value.int .u8 201) = Value.int .u8 (((201 : UInt8).toNat : Nat) : Int) from rfl, hset, show 9 - (j + 1) = k by omega, List.replicate_succ' , ← List.append_assoc]
        simp
      have HB3 : Hid (Below w.heap.size w (wr.setCell ⟨w.heap.size, s.size + j, none⟩ (.int .u8 201))) := hb.setCell (p := ⟨w.heap.size, s.size + j, none⟩) (Nat.le_refl _) _
      have q1 : (s.size : Int) + (j : Int) < (s.size : Int) + 9 := by omega
      have q2 : (0 : Int) ≤ (s.size : Int) + (j : Int) := by omega
      have q3 : (s.size : Int) + (j : Int) ≤ 1048585 := by omega
      have HJ : Hid (j < 9) := hj9
      clear hh hset hl hk hb hj hj9
      go_wp2
      refine ⟨⟨j + 1, by simp; omega, HJ.out, H3.out, HB3.out⟩, ?_⟩
      simp only [intOf]
      have := HJ.out
      omega
    · obtain rfl : j = 9 := by omega
      have q1 : ¬ (s.size : Int) + (9 : Int) < (s.size : Int) + 9 := by omega
      have H3 : Hid (wr.heap[w.heap.size]? = some (.cells (bs (mk9 s)).toArray 5)) := by
        rw [show (s.data.toList ++ List.replicate 9 (201 : UInt8)) ++ List.replicate (9 - 9) 0 = mk9 s by simp [mk9]] at hh
        exact hh
      have HB3 : Hid (Below w.heap.size w wr) := hb
      clear hh hb
      go_wp2
      go_ret
      exact ⟨rfl, H3.out, HB3.out⟩
theorem drop_at {α : Type} (L : List α) (i : Nat) (h : i < L.length) : L.drop i = L[i] :: L.drop (i + 1) := List.drop_eq_getElem_cons h
set_option maxRecDepth 100000 in
set_option maxHeartbeats 1600000 in
theorem back_any (s : ByteArray) (hs : s.size ≤ 1048576) (g C : Nat) (w : World) (hg : w.heap[g]? = some (.cells (bs (mk9 s)).toArray 5)) :
    Calls Try.prog 14 #[.slice (some ⟨g, 0, none⟩) (s.size + 9) C, .string s] w fun e w' => e = .returned (.bool true) ∧ Fr [g] w w' := by
  have HG : Hid (w.heap[g]? = some (.cells (bs (mk9 s)).toArray 5)) := hg
  clear hg
  have HL : Hid ((mk9 s).length = s.size + 9) := mk9_len s
  go_enter Try.func14, Try.ntmps14
  go_wp2
  go_loopw [5, 6] (fun ov iv wr => ∃ j : Nat, ov = .bool true ∧ iv = .int .i64 (j : Int) ∧ j ≤ s.size + 9 ∧ wr.heap[g]? = some (.cells (bs (List.replicate j 49 ++ (mk9 s).drop j)).toArray 5) ∧ Fr [g] w wr) (fun _ iv _ => s.size + 10 - (intOf iv).toNat)
  case atStart => exact ⟨0, rfl, rfl, Nat.zero_le _, by simpa using HG.out, Fr.refl _ _⟩
  case round =>
    obtain ⟨j, rfl, rfl, hj, hh, hf⟩ := hrel
    by_cases hj9 : j < s.size + 9
    · have hjl : j < (mk9 s).length := by rw [HL.out]; exact hj9
      rw [drop_at _ j hjl] at hh
      have hl : j = (List.replicate j (49 : UInt8)).length := by simp
      have hdr : Hid (∀ m, Below wr.heap.size wr (wr.drewN m)) := fun m => below_drewN (Below.refl _ _) m
      have hlt := (Array.getElem?_eq_some_iff.1 hh).1
      obtain ⟨c1, f1⟩ := bs_cell hh j hl
      have HST : Hid (∀ m, ((wr.drewN m).setCell ⟨g, j, none⟩ (.int .u8 49)).heap[g]? = some (.cells (bs (List.replicate (j + 1) 49 ++ (mk9 s).drop (j + 1))).toArray 5)) := by
        intro m
        have h2 := ((hdr.out m).block g hlt).trans hh
        rw [setCell_heap h2, show (Value.int .u8 49) = Value.int .u8 (((49 : UInt8).toNat : Nat) : Int) from rfl]
        have hset := bs_set (List.replicate j 49) ((mk9 s).drop (j + 1)) ((mk9 s)[j]) 49
        rw [← hl] at hset
        rw [hset, List.replicate_succ', List.append_assoc]
        rfl
      have HFR : Hid (∀ m, Fr [g] w ((wr.drewN m).setCell ⟨g, j, none⟩ (.int .u8 49))) := fun m => (hf.trans (Fr.of (hdr.out m))).set (.inl (by simp)) _ _
      have HC : Hid (∀ m, (wr.drewN m).cell? ⟨g, j, none⟩ = some (.int .u8 ((mk9 s)[j].toNat : Int)) ∧ (wr.drewN m).frozen? ⟨g, j, none⟩ = false) := fun m => by
        have h2 := ((hdr.out m).block g hlt).trans hh
        exact bs_cell h2 j hl
      have q1 : (j : Int) < (s.size : Int) + 9 := by omega
      have q2 : (0 : Int) ≤ (j : Int) := by omega
      have q3 : (j : Int) ≤ 1048585 := by omega
      have HJ : Hid (j < s.size + 9) := hj9
      by_cases hjs : j < s.size
      · have e1 : (mk9 s)[j].toNat = (s[j]'hjs).toNat := by
          simp [mk9, List.getElem_append, hjs]
          rfl
        rw [e1] at c1 HC
        have q4 : (j : Int) < (s.size : Int) := by omega
        clear hh hl hdr hlt hf hj hjl e1 hj9
        go_wp2
        go_quiet (fail)
        obtain ⟨d1, g1⟩ := HC.out nq
        have HS := HST.out nq
        have HF := HFR.out nq
        generalize wr.drewN nq = y at *
        have HS2 : Hid ((y.setCell ⟨g, j, none⟩ (.int .u8 49)).heap[g]? = some (.cells (bs (List.replicate (j + 1) 49 ++ (mk9 s).drop (j + 1))).toArray 5)) := HS
        have HF2 : Hid (Fr [g] w (y.setCell ⟨g, j, none⟩ (.int .u8 49))) := HF
        clear HS HF HC HST HFR
        go_wp2
        refine ⟨⟨j + 1, rfl, by simp, HJ.out, HS2.out, HF2.out⟩, ?_⟩
        simp only [intOf]
        have := HJ.out
        omega
      · have e1 : (mk9 s)[j].toNat = 201 := by
          have h3 : ¬ j < s.data.toList.length := by simpa using hjs
          simp only [mk9, List.getElem_append, h3, dite_false, List.getElem_replicate]
          rfl
        rw [e1] at c1 HC
        have q4 : ¬ (j : Int) < (s.size : Int) := by omega
        have q5 : (s.size : Int) ≤ (j : Int) := by omega
        clear hh hl hdr hlt hf hj hjl e1 hj9
        go_wp2
        go_quiet (fail)
        obtain ⟨d1, g1⟩ := HC.out nq
        have HS := HST.out nq
        have HF := HFR.out nq
        generalize wr.drewN nq = y at *
        have HS2 : Hid ((y.setCell ⟨g, j, none⟩ (.int .u8 49)).heap[g]? = some (.cells (bs (List.replicate (j + 1) 49 ++ (mk9 s).drop (j + 1))).toArray 5)) := HS
        have HF2 : Hid (Fr [g] w (y.setCell ⟨g, j, none⟩ (.int .u8 49))) := HF
        clear HS HF HC HST HFR
        go_wp2
        refine ⟨⟨j + 1, rfl, by simp, HJ.out, HS2.out, HF2.out⟩, ?_⟩
        simp only [intOf]
        have := HJ.out
        omega
    · have q1 : ¬ (j : Int) < (s.size : Int) + 9 := by omega
      go_wp2
      go_ret
      exact ⟨rfl, hf⟩
end Go.Proofs.Ytfoddooehanemaa.Ea
