/- The document's Encode. -/
import Derived.Test.YtiepchghlopfnaaRh
namespace Go.Proofs.Ytiepchghlopfnaa.Re
set_option linter.unusedVariables false
open Go.RowKit Pla Bm Br Bv Bw Bx Hf Wr Wt Rh
def knownB (enc : Int) : Bool := enc == 5 || enc == 1 || enc == 4
theorem known_any (enc : Int) (w : World) : Calls Try.prog 52 #[.int .i64 enc] w fun e w' => e = .returned (.bool (knownB enc)) ∧ w' = w := by
  unfold knownB
  cases h5 : enc == 5 <;> cases h1 : enc == 1 <;> cases h4 : enc == 4
  all_goals
    go_enter Try.func52, Try.ntmps52
    go_wp2
    go_ret
    exact ⟨rfl, rfl⟩
/-- is a field above 64 set, among so many? -/
def mr (f : Nat → Bool) : Nat → Bool
  | 0 => false
  | j + 1 => mr f j || f (66 + j)
/-- a half of a row, as it is written -/
def refL (enc : Int) (f : Nat → Bool) (b : Nat) : List UInt8 := if enc = 5 then pcs 5 f b 8 8 else pcs enc f b 4 16
theorem refL_len (enc : Int) (f : Nat → Bool) (b : Nat) : (ByteArray.mk (refL enc f b).toArray).size ≤ 16 := by
  show (refL enc f b).toArray.size ≤ 16
  rw [List.size_toArray]; unfold refL; split <;> rw [pcs_length] <;> omega
theorem known_cases {enc : Int} (h : knownB enc = true) : enc = 5 ∨ (enc ≠ 5 ∧ (enc = 1 ∨ enc = 4)) := by
  unfold knownB at h; simp only [Bool.or_eq_true, beq_iff_eq] at h; omega
theorem half_one (enc : Int) (h : knownB enc = true) (f : Nat → Bool) (w : World) :
    Calls Try.prog 53 #[.agg (rowC f), .int .i64 enc, .int .i64 1] w fun e w' => e = .returned (.string ⟨(refL enc f 0).toArray⟩) ∧ Below w.heap.size w w' := by
  rcases known_cases h with rfl | ⟨h5, he⟩
  · exact half_8_1 f w
  · rw [refL, if_neg h5]; exact half_4_1 enc he f w
theorem half_two (enc : Int) (h : knownB enc = true) (f : Nat → Bool) (w : World) :
    Calls Try.prog 53 #[.agg (rowC f), .int .i64 enc, .int .i64 65] w fun e w' => e = .returned (.string ⟨(refL enc f 64).toArray⟩) ∧ Below w.heap.size w w' := by
  rcases known_cases h with rfl | ⟨h5, he⟩
  · exact half_8_65 f w
  · rw [refL, if_neg h5]; exact half_4_65 enc he f w
/-- Encode's answer -/
def encD (enc : Int) (f : Nat → Bool) : List UInt8 × Int :=
  if knownB enc && (!f 1 && !f 65) then (if mr f 63 then (refL enc (upd f 1 true) 0 ++ refL enc (upd f 1 true) 64, 0) else (refL enc (upd f 1 false) 0, 0)) else ([], 1)
set_option maxRecDepth 100000 in
set_option maxHeartbeats 1600000 in
theorem ren_bad (enc : Int) (f : Nat → Bool) (h : (knownB enc && (!f 1 && !f 65)) = false) (w : World) :
    Calls Try.prog 33 #[.int .i64 enc, .agg (rowC f)] w fun e w' => e = .returned (.tuple #[.string ByteArray.empty, .int .i64 1]) ∧ Below w.heap.size w w' := by
  have p1 := fun w => known_any enc w
  have p2 := fun w => refRight_any f w
  cases hk : knownB enc <;> cases hr : (!f 1 && !f 65)
  case true.true => rw [hk, hr] at h; cases h
  all_goals
    rw [hk] at p1
    rw [hr] at p2
    go_enter Try.func33, Try.ntmps33
    go_wp2_with (first
      | (go_at_call 52; refine (p1 _).mono ?_; rintro e x ⟨rfl, rfl⟩)
      | (refine wpList_load_row rfl 33 _ rfl _ rfl _ _ _ _ (h1_0 _ _) Try.underlying33 rfl (hsz _) ?_)
      | (go_at_call 21; refine (p2 _).mono ?_; rintro e x ⟨rfl, hb⟩))
    go_ret2
    exact ⟨rfl, keepB (below_one w _) hb⟩
set_option maxRecDepth 100000 in
set_option maxHeartbeats 1600000 in
theorem ren_ok1 (enc : Int) (f : Nat → Bool) (hm : mr f 63 = false) (hk : knownB enc = true) (hr : (!f 1 && !f 65) = true) (w : World) :
    Calls Try.prog 33 #[.int .i64 enc, .agg (rowC f)] w fun e w' => e = .returned (.tuple #[.string ⟨(refL enc (upd f 1 false) 0).toArray⟩, .int .i64 0]) ∧ Below w.heap.size w w' := by
  have p1 := fun w => known_any enc w
  have p2 := fun w => refRight_any f w
  rw [hk] at p1
  rw [hr] at p2
  go_enter Try.func33, Try.ntmps33
  go_wp2_with (first
    | (go_at_call 52; refine (p1 _).mono ?_; rintro e x ⟨rfl, rfl⟩)
    | (refine wpList_load_row rfl 33 _ rfl _ rfl _ _ _ _ (h1_0 _ _) Try.underlying33 rfl (hsz _) ?_)
    | (go_at_call 21; refine (p2 _).mono ?_; rintro e x ⟨rfl, hb⟩; have g0 := kept hb (h1_0 w _)))
  have hbw : Below w.heap.size w x := keepB (below_one w _) hb
  clear p1 p2 hb
  go_loopw [8, 9] (fun m i wr => ∃ j : Nat, j ≤ 63 ∧ i = .int .i64 ((66 + j : Nat) : Int) ∧ m = .bool (mr f j) ∧ wr = x) (fun _ i _ => 130 - (intOf i).toNat)
  case atStart => exact ⟨0, by omega, rfl, rfl, rfl⟩
  case round =>
    obtain ⟨j, hj, rfl, rfl, rfl⟩ := hrel
    by_cases hj2 : j < 63
    · have k1 := row_cell g0 (66 + j) (by omega)
      have HM : Hid (mr f (j + 1) = (mr f j || f (66 + j))) := rfl
      have q : ((66 + j : Nat) : Int) ≤ 128 := by omega
      have q0 : (0 : Int) ≤ ((66 + j : Nat) : Int) := by omega
      generalize mr f j = m at *
      generalize f (66 + j) = b at *
      generalize h66 : 66 + j = n at *
      cases m <;> cases b
      all_goals
        go_wp2_with fail
        refine ⟨⟨j + 1, by omega, by congr 1; omega, by rw [HM.out]; rfl, trivial⟩, by simp only [intOf]; omega⟩
    · obtain rfl : j = 63 := by omega
      rw [hm]
      have k1 := row_cell g0 1 (by omega)
      have k2 : wr.frozen? ⟨w.heap.size, 1, none⟩ = false := frozen_of_row _ _ _ _ _ g0
      have s0 := fun m => setCell_row (n := 1) m g0 (by omega)
      have hp := fun m w => half_one enc hk (upd f 1 m) w
      have hq := fun w => half_two enc hk (upd f 1 true) w
      have zA := refL_len enc (upd f 1 true) 0
      have zB := refL_len enc (upd f 1 true) 64
      have p3 := hp false
      have s1 := s0 false
      have b1 : Below w.heap.size w (wr.setCell ⟨w.heap.size, 1, none⟩ (.bool false)) := hbw.setCell (Nat.le_refl _) _
      have z1 := hsz (upd f 1 false)
      clear hp hq zA zB s0
      generalize rowC (upd f 1 false) = C1 at *
      obtain ⟨A, hA⟩ : ∃ A, ByteArray.mk (refL enc (upd f 1 false) 0).toArray = A := ⟨_, rfl⟩
      have HA : Hid (ByteArray.mk (refL enc (upd f 1 false) 0).toArray = A) := hA
      rw [hA] at p3
      clear hA hm
      go_wp2_with (first
        | (refine wpList_load_row rfl 33 _ rfl w.heap.size rfl _ _ _ _ s1 Try.underlying33 rfl z1 ?_)
        | (go_at_call 53; refine (p3 _).mono ?_; rintro e y ⟨rfl, hc⟩))
      go_ret2
      exact ⟨by rw [HA.out]; rfl, keepB b1 hc⟩
set_option maxRecDepth 100000 in
set_option maxHeartbeats 1600000 in
theorem ren_ok2 (enc : Int) (f : Nat → Bool) (hm : mr f 63 = true) (hk : knownB enc = true) (hr : (!f 1 && !f 65) = true) (w : World) :
    Calls Try.prog 33 #[.int .i64 enc, .agg (rowC f)] w fun e w' => e = .returned (.tuple #[.string ⟨(refL enc (upd f 1 true) 0 ++ refL enc (upd f 1 true) 64).toArray⟩, .int .i64 0]) ∧ Below w.heap.size w w' := by
  have p1 := fun w => known_any enc w
  have p2 := fun w => refRight_any f w
  rw [hk] at p1
  rw [hr] at p2
  go_enter Try.func33, Try.ntmps33
  go_wp2_with (first
    | (go_at_call 52; refine (p1 _).mono ?_; rintro e x ⟨rfl, rfl⟩)
    | (refine wpList_load_row rfl 33 _ rfl _ rfl _ _ _ _ (h1_0 _ _) Try.underlying33 rfl (hsz _) ?_)
    | (go_at_call 21; refine (p2 _).mono ?_; rintro e x ⟨rfl, hb⟩; have g0 := kept hb (h1_0 w _)))
  have hbw : Below w.heap.size w x := keepB (below_one w _) hb
  clear p1 p2 hb
  go_loopw [8, 9] (fun m i wr => ∃ j : Nat, j ≤ 63 ∧ i = .int .i64 ((66 + j : Nat) : Int) ∧ m = .bool (mr f j) ∧ wr = x) (fun _ i _ => 130 - (intOf i).toNat)
  case atStart => exact ⟨0, by omega, rfl, rfl, rfl⟩
  case round =>
    obtain ⟨j, hj, rfl, rfl, rfl⟩ := hrel
    by_cases hj2 : j < 63
    · have k1 := row_cell g0 (66 + j) (by omega)
      have HM : Hid (mr f (j + 1) = (mr f j || f (66 + j))) := rfl
      have q : ((66 + j : Nat) : Int) ≤ 128 := by omega
      have q0 : (0 : Int) ≤ ((66 + j : Nat) : Int) := by omega
      generalize mr f j = m at *
      generalize f (66 + j) = b at *
      generalize h66 : 66 + j = n at *
      cases m <;> cases b
      all_goals
        go_wp2_with fail
        refine ⟨⟨j + 1, by omega, by congr 1; omega, by rw [HM.out]; rfl, trivial⟩, by simp only [intOf]; omega⟩
    · obtain rfl : j = 63 := by omega
      rw [hm]
      have k1 := row_cell g0 1 (by omega)
      have k2 : wr.frozen? ⟨w.heap.size, 1, none⟩ = false := frozen_of_row _ _ _ _ _ g0
      have s0 := fun m => setCell_row (n := 1) m g0 (by omega)
      have hp := fun m w => half_one enc hk (upd f 1 m) w
      have hq := fun w => half_two enc hk (upd f 1 true) w
      have zA := refL_len enc (upd f 1 true) 0
      have zB := refL_len enc (upd f 1 true) 64
      have p3 := hp true
      have s1 := s0 true
      have b1 : Below w.heap.size w (wr.setCell ⟨w.heap.size, 1, none⟩ (.bool true)) := hbw.setCell (Nat.le_refl _) _
      have z1 := hsz (upd f 1 true)
      clear hp s0
      generalize rowC (upd f 1 true) = C1 at *
      have HAB : Hid (ByteArray.mk (refL enc (upd f 1 true) 0 ++ refL enc (upd f 1 true) 64).toArray = ByteArray.mk (refL enc (upd f 1 true) 0).toArray ++ ByteArray.mk (refL enc (upd f 1 true) 64).toArray) := (ByteArray.mk_append_mk _ _).symm
      obtain ⟨A, hA⟩ : ∃ A, ByteArray.mk (refL enc (upd f 1 true) 0).toArray = A := ⟨_, rfl⟩
      obtain ⟨B, hB⟩ : ∃ B, ByteArray.mk (refL enc (upd f 1 true) 64).toArray = B := ⟨_, rfl⟩
      rw [hA] at p3 zA HAB
      rw [hB] at hq zB HAB
      clear hA hB hm
      have nl : ¬ (9223372036854775807 < A.size + B.size) := by omega
      clear zA zB
      go_wp2_with (first
        | (refine wpList_load_row rfl 33 _ rfl w.heap.size rfl _ _ _ _ s1 Try.underlying33 rfl z1 ?_)
        | (go_at_call_of 53 (Value.int IntKind.i64 1); refine (p3 _).mono ?_; rintro e y ⟨rfl, hc⟩; have s2 := kept hc s1; clear p3)
        | (refine wpList_load_row rfl 33 _ rfl w.heap.size rfl _ _ _ _ s2 Try.underlying33 rfl z1 ?_)
        | (go_at_call_of 53 (Value.int IntKind.i64 65); refine (hq _).mono ?_; rintro e z ⟨rfl, hd⟩; clear hq))
      go_ret2
      exact ⟨by rw [HAB.out]; rfl, keepB (keepB b1 hc) hd⟩
theorem refEncode_any (enc : Int) (f : Nat → Bool) (w : World) :
    Calls Try.prog 33 #[.int .i64 enc, .agg (rowC f)] w fun e w' => e = .returned (.tuple #[.string ⟨(encD enc f).1.toArray⟩, .int .i64 (encD enc f).2]) ∧ Below w.heap.size w w' := by
  cases h : knownB enc && (!f 1 && !f 65)
  · rw [encD, h]; exact ren_bad enc f h w
  · have h2 := h
    rw [Bool.and_eq_true] at h2
    rw [encD, h]
    cases hm : mr f 63
    · exact ren_ok1 enc f hm h2.1 h2.2 w
    · exact ren_ok2 enc f hm h2.1 h2.2 w
end Go.Proofs.Ytiepchghlopfnaa.Re
