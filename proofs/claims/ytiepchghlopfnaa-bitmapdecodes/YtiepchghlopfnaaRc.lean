/- The document's Decode. -/
import Derived.Test.YtiepchghlopfnaaDq
namespace Go.Proofs.Ytiepchghlopfnaa.Rc
set_option linter.unusedVariables false
open Go.RowKit Pla Bm Bn Br Bv Bw Bx Hf Wr Wt Rh Re Rd Rs Rb De Dv Sx Rr Dq
theorem read_one (enc : Int) (h : knownB enc = true) (s : ByteArray) (hs : s.size ≤ maxLen) (f : Nat → Bool) (g : Nat) (w : World) (hg : w.heap[g]? = some (.cells (rowC f) 33 (0, 0))) :
    Calls Try.prog 56 #[.pointer (some ⟨g, 0, none⟩), .int .i64 enc, .string s, .int .i64 0, .int .i64 1] w fun e w' => e = .returned (.tuple #[.int .i64 (rdE (scanD enc s (widthN enc) 0)), .int .i64 (rdP (scanD enc s (widthN enc) 0) (widthN enc) : Int)]) ∧ Below g w w' ∧ (scanD enc s (widthN enc) 0 = none → w'.heap[g]? = some (.cells (rowC (fRow enc s 0 0 (stp enc) f (widthN enc))) 33 (0, 0))) := by
  rcases known_cases h with rfl | ⟨h5, he⟩
  · have := read_8_1 s hs 0 (by decide) f g w hg
    exact this
  · have := read_4_1 enc he s hs 0 (by decide) f g w hg
    have e1 : widthN enc = 16 := by rcases he with rfl | rfl <;> rfl
    have e2 : stp enc = 4 := by rw [stp, if_neg h5]
    rw [e1, e2]
    simpa using this
theorem read_two (enc : Int) (h : knownB enc = true) (s : ByteArray) (hs : s.size ≤ maxLen) (f : Nat → Bool) (g : Nat) (w : World) (hg : w.heap[g]? = some (.cells (rowC f) 33 (0, 0))) :
    Calls Try.prog 56 #[.pointer (some ⟨g, 0, none⟩), .int .i64 enc, .string s, .int .i64 (widthN enc : Int), .int .i64 65] w fun e w' => e = .returned (.tuple #[.int .i64 (rdE (scanD enc s (widthN enc) (widthN enc))), .int .i64 (rdP (scanD enc s (widthN enc) (widthN enc)) (2 * widthN enc) : Int)]) ∧ Below g w w' ∧ (scanD enc s (widthN enc) (widthN enc) = none → w'.heap[g]? = some (.cells (rowC (fRow enc s (widthN enc) 64 (stp enc) f (widthN enc))) 33 (0, 0))) := by
  rcases known_cases h with rfl | ⟨h5, he⟩
  · exact read_8_65 s hs 8 (by decide) f g w hg
  · have e1 : widthN enc = 16 := by rcases he with rfl | rfl <;> rfl
    have e2 : stp enc = 4 := by rw [stp, if_neg h5]
    rw [e1, e2]
    exact read_4_65 enc he s hs 16 (by decide) f g w hg
/-- Decode's answer -/
def f1 (enc : Int) (s : ByteArray) : Nat → Bool := fRow enc s 0 0 (stp enc) (fun _ => false) (widthN enc)
def f2 (enc : Int) (s : ByteArray) : Nat → Bool := fRow enc s (widthN enc) 64 (stp enc) (f1 enc s) (widthN enc)
set_option maxRecDepth 100000 in
set_option maxHeartbeats 1600000 in
theorem rc_w (enc : Int) (s : ByteArray) (h : knownB enc = false) (w : World) :
    Calls Try.prog 35 #[.int .i64 enc, .string s] w fun e w' => e = .returned (.tuple #[.agg (rowC fun _ => false), .int .i64 1, .int .i64 0]) ∧ Below w.heap.size w w' := by
  have hz := (zero_of_info zrow).1
  have p1 := fun w => known_any enc w
  rw [h] at p1
  go_enter Try.func35, Try.ntmps35
  go_wp2_with (first
    | (go_at_call 52; refine (p1 _).mono ?_; rintro e x ⟨rfl, rfl⟩)
    | (refine wpList_zrow rfl rfl ?_)
    | (refine wpList_store_row rfl 33 _ _ rfl w.heap.size (rowC fun _ => false) rfl rfl _ _ (h1_0 w _) (hsz fun _ => false) rfl (rowC_one fun _ => false) ?_))
  exact bodyPost_ret (v := .tuple #[.agg (rowC fun _ => false), .int .i64 1, .int .i64 0]) (res_row_tmp2 (fn := Try.f35) (p := 4) (u := 5) (u2 := 6) rfl _ _ w.heap.size _ _ _ _ rfl (setRow_at (h1_0 w _) _) Try.underlying33 rfl (hsz _)) rfl ⟨rfl, below_setRow (below_one w _) (Nat.le_refl _) _⟩
theorem belowG {w x y : World} {a b : Obj} (h : Below (w.heap.size + 1) ((w.alloc a).alloc b) x) : Below w.heap.size w x := (below_two w a b).trans (h.mono (by omega))
theorem keptG {x y : World} {g k : Nat} {o : Obj} (h : Below g x y) (hk : k < g) (h0 : x.heap[k]? = some o) : y.heap[k]? = some o := (h.block k hk).trans h0
set_option maxRecDepth 100000 in
set_option maxHeartbeats 1600000 in
theorem rc_a (enc : Int) (s : ByteArray) (hs : s.size ≤ maxLen) (hk : knownB enc = true) (e1 : Int) (p : Nat) (h1 : scanD enc s (widthN enc) 0 = some (e1, p)) (he : e1 ≠ 0) (w : World) :
    Calls Try.prog 35 #[.int .i64 enc, .string s] w fun e w' => e = .returned (.tuple #[.agg (rowC fun _ => false), .int .i64 e1, .int .i64 (p : Int)]) ∧ Below w.heap.size w w' := by
  have hz := (zero_of_info zrow).1
  have p1 := fun w => known_any enc w
  rw [hk] at p1
  have q1 := fun (g : Nat) w hg => read_one enc hk s hs (fun _ => false) g w hg
  rw [h1] at q1
  simp only [rdE, rdP] at q1
  have qe : (e1 == 0) = false := beq_eq_false_iff_ne.mpr he
  go_enter Try.func35, Try.ntmps35
  go_wp2_with (first
    | (go_at_call 52; refine (p1 _).mono ?_; rintro e x0 ⟨rfl, rfl⟩)
    | (go_at_call_of 56 (Value.int IntKind.i64 1); refine (q1 _ _ (h2_1 w _ _)).mono ?_; rintro e x ⟨rfl, hb, hx⟩; have r1 := keptG hb (Nat.lt_succ_self _) (h2_0 w _ _))
    | (refine wpList_zrow rfl rfl ?_)
    | (refine wpList_store_row rfl 33 _ _ rfl w.heap.size (rowC fun _ => false) rfl rfl _ _ r1 (hsz fun _ => false) rfl (rowC_one fun _ => false) ?_))
  exact bodyPost_ret (v := .tuple #[.agg (rowC fun _ => false), .int .i64 e1, .int .i64 (p : Int)]) (res_row_tmp2 (fn := Try.f35) (p := 4) (u := 5) (u2 := 6) rfl _ _ w.heap.size _ _ _ _ rfl (setRow_at r1 _) Try.underlying33 rfl (hsz _)) rfl ⟨rfl, below_setRow (belowG (y := x) hb) (Nat.le_refl _) _⟩
set_option maxRecDepth 100000 in
set_option maxHeartbeats 1600000 in
theorem rc_b (enc : Int) (s : ByteArray) (hs : s.size ≤ maxLen) (hk : knownB enc = true) (h1 : scanD enc s (widthN enc) 0 = none) (hf1 : f1 enc s 1 = false) (w : World) :
    Calls Try.prog 35 #[.int .i64 enc, .string s] w fun e w' => e = .returned (.tuple #[.agg (rowC (f1 enc s)), .int .i64 0, .int .i64 (widthN enc : Int)]) ∧ Below w.heap.size w w' := by
  have hz := (zero_of_info zrow).1
  have p1 := fun w => known_any enc w
  rw [hk] at p1
  have q1 := fun (g : Nat) w hg => read_one enc hk s hs (fun _ => false) g w hg
  rw [h1] at q1
  simp only [rdE, rdP, true_implies] at q1
  rw [← f1] at q1
  generalize f1 enc s = F1 at *
  have lw : (widthN enc : Int) ≤ 16 := by unfold widthN; (repeat' split) <;> decide
  generalize widthN enc = Wd at *
  go_enter Try.func35, Try.ntmps35
  go_wp2_with (first
    | (go_at_call 52; refine (p1 _).mono ?_; rintro e x0 ⟨rfl, rfl⟩)
    | (go_at_call_of 56 (Value.int IntKind.i64 1); refine (q1 _ _ (h2_1 w _ _)).mono ?_; rintro e x ⟨rfl, hb, hx⟩; have r1 := keptG hb (Nat.lt_succ_self _) (h2_0 w _ _); have c1 := row_cell hx 1 (by omega); rw [hf1] at c1; clear q1)
    | (refine wpList_load_row rfl 33 _ rfl (w.heap.size + 1) rfl _ _ _ _ hx Try.underlying33 rfl (hsz _) ?_)
    | (refine wpList_store_row rfl 33 _ _ rfl w.heap.size (rowC F1) rfl rfl _ _ r1 (hsz _) (by rw [rowC_size, rowC_size]) (rowC_one _) ?_))
  exact bodyPost_ret (v := .tuple #[.agg (rowC F1), .int .i64 0, .int .i64 (Wd : Int)]) (res_row_tmp2 (fn := Try.f35) (p := 4) (u := 5) (u2 := 6) rfl _ _ w.heap.size _ _ _ _ rfl (setRow_at r1 _) Try.underlying33 rfl (hsz _)) rfl ⟨rfl, below_setRow (belowG (y := x) hb) (Nat.le_refl _) _⟩
set_option maxRecDepth 100000 in
set_option maxHeartbeats 1600000 in
theorem rc_c (enc : Int) (s : ByteArray) (hs : s.size ≤ maxLen) (hk : knownB enc = true) (h1 : scanD enc s (widthN enc) 0 = none) (hf1 : f1 enc s 1 = true) (e2 : Int) (p : Nat) (h2 : scanD enc s (widthN enc) (widthN enc) = some (e2, p)) (he : e2 ≠ 0) (w : World) :
    Calls Try.prog 35 #[.int .i64 enc, .string s] w fun e w' => e = .returned (.tuple #[.agg (rowC fun _ => false), .int .i64 e2, .int .i64 (p : Int)]) ∧ Below w.heap.size w w' := by
  have hz := (zero_of_info zrow).1
  have p1 := fun w => known_any enc w
  rw [hk] at p1
  have q1 := fun (g : Nat) w hg => read_one enc hk s hs (fun _ => false) g w hg
  have q2 := fun (g : Nat) w hg => read_two enc hk s hs (f1 enc s) g w hg
  rw [h1] at q1
  simp only [rdE, rdP, true_implies] at q1
  rw [← f1] at q1
  rw [h2] at q2
  simp only [rdE, rdP] at q2
  have qe : (e2 == 0) = false := beq_eq_false_iff_ne.mpr he
  clear h1 h2
  generalize f1 enc s = F1 at *
  have lw : (widthN enc : Int) ≤ 16 := by unfold widthN; (repeat' split) <;> decide
  generalize widthN enc = Wd at *
  go_enter Try.func35, Try.ntmps35
  go_wp2_with (first
    | (go_at_call 52; refine (p1 _).mono ?_; rintro e x0 ⟨rfl, rfl⟩)
    | (go_at_call_of 56 (Value.int IntKind.i64 1); refine (q1 _ _ (h2_1 w _ _)).mono ?_; rintro e x ⟨rfl, hb, hx⟩; have r1 := keptG hb (Nat.lt_succ_self _) (h2_0 w _ _); have c1 := row_cell hx 1 (by omega); rw [hf1] at c1; clear q1)
    | (go_at_call_of 56 (Value.int IntKind.i64 65); refine (q2 _ _ hx).mono ?_; rintro e y ⟨rfl, hb2, hx2⟩; have r2 := keptG hb2 (Nat.lt_succ_self _) r1; clear q2)
    | (refine wpList_zrow rfl rfl ?_)
    | (refine wpList_store_row rfl 33 _ _ rfl w.heap.size (rowC fun _ => false) rfl rfl _ _ r2 (hsz fun _ => false) rfl (rowC_one fun _ => false) ?_))
  exact bodyPost_ret (v := .tuple #[.agg (rowC fun _ => false), .int .i64 e2, .int .i64 (p : Int)]) (res_row_tmp2 (fn := Try.f35) (p := 4) (u := 5) (u2 := 6) rfl _ _ w.heap.size _ _ _ _ rfl (setRow_at r2 _) Try.underlying33 rfl (hsz _)) rfl ⟨rfl, below_setRow (belowG (y := y) (hb.trans hb2)) (Nat.le_refl _) _⟩
set_option maxRecDepth 100000 in
set_option maxHeartbeats 1600000 in
theorem rc_d1 (enc : Int) (s : ByteArray) (hs : s.size ≤ maxLen) (hk : knownB enc = true) (h1 : scanD enc s (widthN enc) 0 = none) (hf1 : f1 enc s 1 = true) (h2 : scanD enc s (widthN enc) (widthN enc) = none) (h65 : f2 enc s 65 = true) (w : World) :
    Calls Try.prog 35 #[.int .i64 enc, .string s] w fun e w' => e = .returned (.tuple #[.agg (rowC fun _ => false), .int .i64 20, .int .i64 (widthN enc : Int)]) ∧ Below w.heap.size w w' := by
  have hz := (zero_of_info zrow).1
  have p1 := fun w => known_any enc w
  rw [hk] at p1
  have q1 := fun (g : Nat) w hg => read_one enc hk s hs (fun _ => false) g w hg
  have q2 := fun (g : Nat) w hg => read_two enc hk s hs (f1 enc s) g w hg
  rw [h1] at q1
  simp only [rdE, rdP, true_implies] at q1
  rw [← f1] at q1
  rw [h2] at q2
  simp only [rdE, rdP, true_implies] at q2
  rw [← f2] at q2
  generalize f2 enc s = F2 at *
  generalize f1 enc s = F1 at *
  clear h1 h2
  have lw : (widthN enc : Int) ≤ 16 := by unfold widthN; (repeat' split) <;> decide
  generalize widthN enc = Wd at *
  go_enter Try.func35, Try.ntmps35
  go_wp2_with (first
    | (go_at_call 52; refine (p1 _).mono ?_; rintro e x0 ⟨rfl, rfl⟩)
    | (go_at_call_of 56 (Value.int IntKind.i64 1); refine (q1 _ _ (h2_1 w _ _)).mono ?_; rintro e x ⟨rfl, hb, hx⟩; have r1 := keptG hb (Nat.lt_succ_self _) (h2_0 w _ _); have c1 := row_cell hx 1 (by omega); rw [hf1] at c1; clear q1)
    | (go_at_call_of 56 (Value.int IntKind.i64 65); refine (q2 _ _ hx).mono ?_; rintro e y ⟨rfl, hb2, hx2⟩; have r2 := keptG hb2 (Nat.lt_succ_self _) r1; clear q2))
  have bY := belowG (y := y) (hb.trans hb2)
  clear hb hb2 r1 c1 p1
  go_loopw [13, 14] (fun m i wr => ∃ j : Nat, j ≤ 63 ∧ i = .int .i64 ((66 + j : Nat) : Int) ∧ m = .bool (mr F2 j) ∧ wr = y) (fun _ i _ => 130 - (intOf i).toNat)
  case atStart => exact ⟨0, by omega, rfl, rfl, rfl⟩
  case round =>
    obtain ⟨j, hj, rfl, rfl, rfl⟩ := hrel
    by_cases hj2 : j < 63
    · have k1 := row_cell hx2 (66 + j) (by omega)
      have HM : Hid (mr F2 (j + 1) = (mr F2 j || F2 (66 + j))) := rfl
      have q : ((66 + j : Nat) : Int) ≤ 128 := by omega
      have q0 : (0 : Int) ≤ ((66 + j : Nat) : Int) := by omega
      generalize mr F2 j = m at *
      generalize F2 (66 + j) = b at *
      generalize h66 : 66 + j = n at *
      cases m <;> cases b
      all_goals
        go_wp2_with fail
        refine ⟨⟨j + 1, by omega, by congr 1; omega, by rw [HM.out]; rfl, trivial⟩, by simp only [intOf]; omega⟩
    · obtain rfl : j = 63 := by omega
      have k65 := row_cell hx2 65 (by omega)
      rw [h65] at k65
      generalize mr F2 63 = mm at *
      go_wp2_with (first
        | (refine wpList_zrow rfl rfl ?_)
        | (refine wpList_store_row rfl 33 _ _ rfl w.heap.size (rowC fun _ => false) rfl rfl _ _ r2 (hsz fun _ => false) rfl (rowC_one fun _ => false) ?_))
      exact bodyPost_ret (v := .tuple #[.agg (rowC fun _ => false), .int .i64 20, .int .i64 (Wd : Int)]) (res_row_tmp2 (fn := Try.f35) (p := 4) (u := 5) (u2 := 6) rfl _ _ w.heap.size _ _ _ _ rfl (setRow_at r2 _) Try.underlying33 rfl (hsz _)) rfl ⟨rfl, below_setRow (bY) (Nat.le_refl _) _⟩
set_option maxRecDepth 100000 in
set_option maxHeartbeats 1600000 in
theorem rc_d2 (enc : Int) (s : ByteArray) (hs : s.size ≤ maxLen) (hk : knownB enc = true) (h1 : scanD enc s (widthN enc) 0 = none) (hf1 : f1 enc s 1 = true) (h2 : scanD enc s (widthN enc) (widthN enc) = none) (h65 : f2 enc s 65 = false) (hm : mr (f2 enc s) 63 = false) (w : World) :
    Calls Try.prog 35 #[.int .i64 enc, .string s] w fun e w' => e = .returned (.tuple #[.agg (rowC fun _ => false), .int .i64 20, .int .i64 (widthN enc : Int)]) ∧ Below w.heap.size w w' := by
  have hz := (zero_of_info zrow).1
  have p1 := fun w => known_any enc w
  rw [hk] at p1
  have q1 := fun (g : Nat) w hg => read_one enc hk s hs (fun _ => false) g w hg
  have q2 := fun (g : Nat) w hg => read_two enc hk s hs (f1 enc s) g w hg
  rw [h1] at q1
  simp only [rdE, rdP, true_implies] at q1
  rw [← f1] at q1
  rw [h2] at q2
  simp only [rdE, rdP, true_implies] at q2
  rw [← f2] at q2
  generalize f2 enc s = F2 at *
  generalize f1 enc s = F1 at *
  clear h1 h2
  have lw : (widthN enc : Int) ≤ 16 := by unfold widthN; (repeat' split) <;> decide
  generalize widthN enc = Wd at *
  go_enter Try.func35, Try.ntmps35
  go_wp2_with (first
    | (go_at_call 52; refine (p1 _).mono ?_; rintro e x0 ⟨rfl, rfl⟩)
    | (go_at_call_of 56 (Value.int IntKind.i64 1); refine (q1 _ _ (h2_1 w _ _)).mono ?_; rintro e x ⟨rfl, hb, hx⟩; have r1 := keptG hb (Nat.lt_succ_self _) (h2_0 w _ _); have c1 := row_cell hx 1 (by omega); rw [hf1] at c1; clear q1)
    | (go_at_call_of 56 (Value.int IntKind.i64 65); refine (q2 _ _ hx).mono ?_; rintro e y ⟨rfl, hb2, hx2⟩; have r2 := keptG hb2 (Nat.lt_succ_self _) r1; clear q2))
  have bY := belowG (y := y) (hb.trans hb2)
  clear hb hb2 r1 c1 p1
  go_loopw [13, 14] (fun m i wr => ∃ j : Nat, j ≤ 63 ∧ i = .int .i64 ((66 + j : Nat) : Int) ∧ m = .bool (mr F2 j) ∧ wr = y) (fun _ i _ => 130 - (intOf i).toNat)
  case atStart => exact ⟨0, by omega, rfl, rfl, rfl⟩
  case round =>
    obtain ⟨j, hj, rfl, rfl, rfl⟩ := hrel
    by_cases hj2 : j < 63
    · have k1 := row_cell hx2 (66 + j) (by omega)
      have HM : Hid (mr F2 (j + 1) = (mr F2 j || F2 (66 + j))) := rfl
      have q : ((66 + j : Nat) : Int) ≤ 128 := by omega
      have q0 : (0 : Int) ≤ ((66 + j : Nat) : Int) := by omega
      generalize mr F2 j = m at *
      generalize F2 (66 + j) = b at *
      generalize h66 : 66 + j = n at *
      cases m <;> cases b
      all_goals
        go_wp2_with fail
        refine ⟨⟨j + 1, by omega, by congr 1; omega, by rw [HM.out]; rfl, trivial⟩, by simp only [intOf]; omega⟩
    · obtain rfl : j = 63 := by omega
      have k65 := row_cell hx2 65 (by omega)
      rw [h65] at k65
      rw [hm]
      go_wp2_with (first
        | (refine wpList_zrow rfl rfl ?_)
        | (refine wpList_store_row rfl 33 _ _ rfl w.heap.size (rowC fun _ => false) rfl rfl _ _ r2 (hsz fun _ => false) rfl (rowC_one fun _ => false) ?_))
      exact bodyPost_ret (v := .tuple #[.agg (rowC fun _ => false), .int .i64 20, .int .i64 (Wd : Int)]) (res_row_tmp2 (fn := Try.f35) (p := 4) (u := 5) (u2 := 6) rfl _ _ w.heap.size _ _ _ _ rfl (setRow_at r2 _) Try.underlying33 rfl (hsz _)) rfl ⟨rfl, below_setRow (bY) (Nat.le_refl _) _⟩
set_option maxRecDepth 100000 in
set_option maxHeartbeats 1600000 in
theorem rc_e (enc : Int) (s : ByteArray) (hs : s.size ≤ maxLen) (hk : knownB enc = true) (h1 : scanD enc s (widthN enc) 0 = none) (hf1 : f1 enc s 1 = true) (h2 : scanD enc s (widthN enc) (widthN enc) = none) (h65 : f2 enc s 65 = false) (hm : mr (f2 enc s) 63 = true) (w : World) :
    Calls Try.prog 35 #[.int .i64 enc, .string s] w fun e w' => e = .returned (.tuple #[.agg (rowC (upd (f2 enc s) 1 false)), .int .i64 0, .int .i64 ((2 * widthN enc : Nat) : Int)]) ∧ Below w.heap.size w w' := by
  have hz := (zero_of_info zrow).1
  have p1 := fun w => known_any enc w
  rw [hk] at p1
  have q1 := fun (g : Nat) w hg => read_one enc hk s hs (fun _ => false) g w hg
  have q2 := fun (g : Nat) w hg => read_two enc hk s hs (f1 enc s) g w hg
  rw [h1] at q1
  simp only [rdE, rdP, true_implies] at q1
  rw [← f1] at q1
  rw [h2] at q2
  simp only [rdE, rdP, true_implies] at q2
  rw [← f2] at q2
  generalize f2 enc s = F2 at *
  generalize f1 enc s = F1 at *
  clear h1 h2
  have lw : (widthN enc : Int) ≤ 16 := by unfold widthN; (repeat' split) <;> decide
  generalize widthN enc = Wd at *
  go_enter Try.func35, Try.ntmps35
  go_wp2_with (first
    | (go_at_call 52; refine (p1 _).mono ?_; rintro e x0 ⟨rfl, rfl⟩)
    | (go_at_call_of 56 (Value.int IntKind.i64 1); refine (q1 _ _ (h2_1 w _ _)).mono ?_; rintro e x ⟨rfl, hb, hx⟩; have r1 := keptG hb (Nat.lt_succ_self _) (h2_0 w _ _); have c1 := row_cell hx 1 (by omega); rw [hf1] at c1; clear q1)
    | (go_at_call_of 56 (Value.int IntKind.i64 65); refine (q2 _ _ hx).mono ?_; rintro e y ⟨rfl, hb2, hx2⟩; have r2 := keptG hb2 (Nat.lt_succ_self _) r1; clear q2))
  have bY := belowG (y := y) (hb.trans hb2)
  clear hb hb2 r1 c1 p1
  go_loopw [13, 14] (fun m i wr => ∃ j : Nat, j ≤ 63 ∧ i = .int .i64 ((66 + j : Nat) : Int) ∧ m = .bool (mr F2 j) ∧ wr = y) (fun _ i _ => 130 - (intOf i).toNat)
  case atStart => exact ⟨0, by omega, rfl, rfl, rfl⟩
  case round =>
    obtain ⟨j, hj, rfl, rfl, rfl⟩ := hrel
    by_cases hj2 : j < 63
    · have k1 := row_cell hx2 (66 + j) (by omega)
      have HM : Hid (mr F2 (j + 1) = (mr F2 j || F2 (66 + j))) := rfl
      have q : ((66 + j : Nat) : Int) ≤ 128 := by omega
      have q0 : (0 : Int) ≤ ((66 + j : Nat) : Int) := by omega
      generalize mr F2 j = m at *
      generalize F2 (66 + j) = b at *
      generalize h66 : 66 + j = n at *
      cases m <;> cases b
      all_goals
        go_wp2_with fail
        refine ⟨⟨j + 1, by omega, by congr 1; omega, by rw [HM.out]; rfl, trivial⟩, by simp only [intOf]; omega⟩
    · obtain rfl : j = 63 := by omega
      have k65 := row_cell hx2 65 (by omega)
      rw [h65] at k65
      rw [hm]
      have k1 := row_cell hx2 1 (by omega)
      have kf : wr.frozen? ⟨w.heap.size + 1, 1, none⟩ = false := frozen_of_row _ _ _ _ _ hx2
      have s1 := setCell_row (n := 1) false hx2 (by omega)
      have s2 := (setCell_ne (n := 1) (.bool false) (show w.heap.size ≠ w.heap.size + 1 by omega)).trans r2
      go_wp2_with (first
        | (refine wpList_load_row rfl 33 _ rfl (w.heap.size + 1) rfl _ _ _ _ s1 Try.underlying33 rfl (hsz _) ?_)
        | (refine wpList_store_row rfl 33 _ _ rfl w.heap.size (rowC (upd F2 1 false)) rfl rfl _ _ s2 (hsz _) (by rw [rowC_size, rowC_size]) (rowC_one _) ?_))
      exact bodyPost_ret (v := .tuple #[.agg (rowC (upd F2 1 false)), .int .i64 0, .int .i64 ((2 * Wd : Nat) : Int)]) (res_row_tmp2 (fn := Try.f35) (p := 4) (u := 5) (u2 := 6) rfl _ _ w.heap.size _ _ _ _ rfl (setRow_at s2 _) Try.underlying33 rfl (hsz _)) rfl ⟨rfl, below_setRow (bY.setCell (by simp) _) (Nat.le_refl _) _⟩
end Go.Proofs.Ytiepchghlopfnaa.Rc
