/- A half as eight bytes: halfOf, bits, widthOf, sixteenthsOf. -/
import Derived.Test.YtkleoklcaalogaaBx
namespace Go.Proofs.Ytkleoklcaalogaa.Hf
set_option linter.unusedVariables false
open Go.RowKit Pla Bm Br Bv Bw Bx
/-- n bytes as cells -/
def byC (n : Nat) (v : Nat → Nat) : Array Value := ((List.range n).map fun i => Value.int .u8 ((v i : Nat) : Int)).toArray
theorem byC_size (n : Nat) (v : Nat → Nat) : (byC n v).size = n := by simp [byC]
theorem byC_get (n : Nat) (v : Nat → Nat) (i : Nat) (h : i < n) : (byC n v)[i]? = some (.int .u8 ((v i : Nat) : Int)) := by simp [byC, h]
def updN (v : Nat → Nat) (k b : Nat) : Nat → Nat := fun i => if i = k then b else v i
theorem byC_set (n : Nat) (v : Nat → Nat) (k b : Nat) (h : k < n) : (byC n v).setIfInBounds k (.int .u8 (b : Int)) = byC n (updN v k b) := by
  apply Array.ext_getElem?
  intro i
  by_cases hi : i < n
  · rw [byC_get _ _ _ hi, Array.getElem?_setIfInBounds]
    by_cases e : k = i
    · subst e; simp [updN, byC_size, h]
    · rw [if_neg e, byC_get _ _ _ hi, updN, if_neg (fun x => e x.symm)]
  · rw [Array.getElem?_eq_none (by simp [byC_size]; omega), Array.getElem?_eq_none (by simp [byC_size]; omega)]
theorem byC_ext {n : Nat} {v u : Nat → Nat} (h : ∀ i, i < n → v i = u i) : byC n v = byC n u := by
  simp only [byC]; congr 1
  apply List.map_congr_left
  intro i hi
  rw [h i (List.mem_range.1 hi)]
theorem byC_one (n : Nat) (v : Nat → Nat) : (byC n v).all (·.oneCell') = true := by
  simp only [byC, List.all_toArray, List.all_eq_true, List.mem_map, List.mem_range]
  rintro x ⟨i, _, rfl⟩; rfl
theorem h8 (v : Nat → Nat) : (Try.prog.info? 59).map (·.size) = some (byC 8 v).size := by rw [byC_size]; kernel_rfl
theorem h16 (v : Nat → Nat) : (Try.prog.info? 67).map (·.size) = some (byC 16 v).size := by rw [byC_size]; kernel_rfl
theorem z8 : (Try.prog.info? 59).map (fun i => (i.zero, i.size)) = some (some (.agg (byC 8 fun _ => 0)), 8) := by kernel_rfl
theorem z16 : (Try.prog.info? 67).map (fun i => (i.zero, i.size)) = some (some (.agg (byC 16 fun _ => 0)), 16) := by kernel_rfl
def widthN (enc : Int) : Nat := if enc = 5 then 8 else if enc = 1 ∨ enc = 4 then 16 else 0
theorem width_any (enc : Int) (w : World) : Calls Try.prog 33 #[.int .i64 enc] w fun e w' => e = .returned (.int .i64 (widthN enc : Int)) ∧ w' = w := by
  by_cases h5 : enc = 5
  · subst h5
    go_enter Try.func33, Try.ntmps33
    go_wp2
    go_ret
    exact ⟨rfl, rfl⟩
  · have q5 : (enc == 5) = false := beq_eq_false_iff_ne.mpr h5
    by_cases h1 : enc = 1
    · subst h1
      go_enter Try.func33, Try.ntmps33
      go_wp2
      go_ret
      exact ⟨rfl, rfl⟩
    · have q1 : (enc == 1) = false := beq_eq_false_iff_ne.mpr h1
      by_cases h4 : enc = 4
      · subst h4
        go_enter Try.func33, Try.ntmps33
        go_wp2
        go_ret
        exact ⟨rfl, rfl⟩
      · have q4 : (enc == 4) = false := beq_eq_false_iff_ne.mpr h4
        have e : widthN enc = 0 := by simp [widthN, h5, h1, h4]
        rw [e]
        clear e h5 h1 h4
        go_enter Try.func33, Try.ntmps33
        go_wp2
        go_ret
        exact ⟨rfl, rfl⟩
/-- the byte at a place of a half -/
def hb (F i : Nat) : Nat := F / 2 ^ (56 - 8 * i) % 256
def hbU (F j : Nat) : Nat → Nat := fun i => if i < j then hb F i else 0
theorem hb_is (F j : Nat) : IntKind.u8.wrap ((F : Int) / 2 ^ (56 - 8 * j)) = ((hb F j : Nat) : Int) := by
  rw [hb, show IntKind.u8.wrap ((F : Int) / 2 ^ (56 - 8 * j)) = ((F : Int) / 2 ^ (56 - 8 * j)) % 256 by simp [IntKind.wrap, IntKind.bits, IntKind.signed]]
  simp
set_option maxRecDepth 100000 in
set_option maxHeartbeats 1600000 in
theorem halfOf_any (F : Nat) (w : World) :
    Calls Try.prog 34 #[.int .u64 (F : Int)] w fun e w' => e = .returned (.agg (byC 8 (hb F))) ∧ Below w.heap.size w w' := by
  have hz := (zero_of_info z8).1
  rw [show byC 8 (hb F) = byC 8 (hbU F 8) from byC_ext fun i hi => by simp [hbU, hi]]
  have e0 : byC 8 (fun _ => 0) = byC 8 (hbU F 0) := byC_ext fun i hi => by simp [hbU]
  go_enter Try.func34, Try.ntmps34
  go_wp2_with fail
  go_loopw [5] (fun i wr => ∃ j : Nat, j ≤ 8 ∧ i = .int .i64 (j : Int) ∧ wr = (w.alloc (Obj.cells (byC 8 (hbU F 0)) 59)).alloc (Obj.cells (byC 8 (hbU F j)) 59)) (fun i _ => 9 - (intOf i).toNat)
  case atStart => exact ⟨0, by omega, rfl, rfl⟩
  case round =>
    obtain ⟨j, hj, rfl, rfl⟩ := hrel
    by_cases hj2 : j < 8
    · have q : (j : Int) < 8 := by omega
      have q0 : (0 : Int) ≤ (j : Int) := by omega
      have u1 := hb_is F j
      have k1 := byC_get 8 (hbU F j) j hj2
      have HN : Hid ((byC 8 (hbU F j)).setIfInBounds j (.int .u8 ((hb F j : Nat) : Int)) = byC 8 (hbU F (j + 1))) := by
        show _ = _
        rw [byC_set _ _ _ _ hj2]
        refine byC_ext fun i hi => ?_
        simp only [updN, hbU]
        by_cases e : i = j
        · subst e; simp
        · by_cases e2 : i < j
          · simp [e, e2, show i < j + 1 by omega]
          · simp [e, e2, show ¬ i < j + 1 by omega]
      clear e0
      go_wp2
      refine ⟨⟨j + 1, by omega, by simp, by rw [HN.out]⟩, ?_⟩
      simp only [intOf]; omega
    · obtain rfl : j = 8 := by omega
      have g1 := h2_1 w (Obj.cells (byC 8 (hbU F 0)) 59) (Obj.cells (byC 8 (hbU F 8)) 59)
      have g0 := h2_0 w (Obj.cells (byC 8 (hbU F 0)) 59) (Obj.cells (byC 8 (hbU F 8)) 59)
      have b0 := below_two w (Obj.cells (byC 8 (hbU F 0)) 59) (Obj.cells (byC 8 (hbU F 8)) 59)
      go_wp2_with (first
        | (refine wpList_load_row rfl 59 _ rfl (w.heap.size + 1) rfl _ _ _ _ g1 Try.underlying59 rfl (h8 _) ?_)
        | (refine wpList_store_row rfl 59 _ _ rfl w.heap.size _ rfl rfl _ _ g0 (h8 _) (by rw [byC_size, byC_size]) (byC_one _ _) ?_))
      exact bodyPost_ret (v := .agg (byC 8 (hbU F 8))) (results_cell_row rfl _ _ w.heap.size _ _ _ _ rfl (setRow_at g0 _) Try.underlying59 rfl (h8 _)) rfl ⟨rfl, below_setRow b0 (Nat.le_refl _) _⟩
end Go.Proofs.Ytkleoklcaalogaa.Hf
