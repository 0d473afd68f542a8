/- Decode. -/
import Derived.Test.YtkleoklcaalogaaRb
namespace Go.Proofs.Ytkleoklcaalogaa.De
set_option linter.unusedVariables false
open Go.RowKit Pla Bm Br Bv Bw Bx Hf Wr Wt Rd Rs Rb
/-- Decode's answer: the halves, the error, the place -/
def decV (enc : Int) (s : ByteArray) : Nat × Nat × Int × Nat :=
  if widthN enc = 0 then (0, 0, 1, 0)
  else if (rhV enc s).2.1 ≠ 0 then (0, 0, (rhV enc s).2.1, (rhV enc s).2.2)
  else if bitsN (rhV enc s).1 8 < 9223372036854775808 then (bitsN (rhV enc s).1 8, 0, 0, widthN enc)
  else if (rhV enc (s.extract (widthN enc) s.size)).2.1 ≠ 0 then (0, 0, (rhV enc (s.extract (widthN enc) s.size)).2.1, widthN enc + (rhV enc (s.extract (widthN enc) s.size)).2.2)
  else if bitsN (rhV enc (s.extract (widthN enc) s.size)).1 8 ≥ 9223372036854775808 ∨ bitsN (rhV enc (s.extract (widthN enc) s.size)).1 8 = 0 then (0, 0, 20, widthN enc)
  else (bitsN (rhV enc s).1 8 - 9223372036854775808, bitsN (rhV enc (s.extract (widthN enc) s.size)).1 8, 0, 2 * widthN enc)
theorem and4 {α : Sort _} {p q r t : α → Prop} (h : ∀ o, p o ∧ q o ∧ r o ∧ t o) : (∀ o, p o) ∧ (∀ o, q o) ∧ (∀ o, r o) ∧ (∀ o, t o) :=
  ⟨fun o => (h o).1, fun o => (h o).2.1, fun o => (h o).2.2.1, fun o => (h o).2.2.2⟩
theorem kept1 {x : World} {g : Nat} {o : Obj} (h : x.heap[g]? = some o) (a : Obj) : (x.alloc a).heap[g]? = some o := (Below.heap_alloc _ a _ (Array.getElem?_eq_some_iff.1 h).1).trans h
theorem and_hi (F : Nat) (hF : F < 18446744073709551616) : bits .and .u64 (F : Int) 9223372036854775808 = if F < 9223372036854775808 then 0 else 9223372036854775808 := by
  have h1 := u64_and_nat F 9223372036854775808 hF (by decide)
  have h2 := pow_and F 63
  have h3 : F.testBit 63 = decide (9223372036854775808 ≤ F) := by
    rw [Nat.testBit_eq_decide_div_mod_eq]
    by_cases h : 9223372036854775808 ≤ F
    · rw [decide_eq_true h]; exact decide_eq_true (by omega)
    · rw [decide_eq_false h]; exact decide_eq_false (by omega)
  rw [h3] at h2
  rw [show (9223372036854775808 : Int) = ((9223372036854775808 : Nat) : Int) from rfl, h1, show (9223372036854775808 : Nat) = 2 ^ 63 from rfl, h2]
  by_cases h : F < 9223372036854775808
  · rw [if_pos h, decide_eq_false (by omega)]; rfl
  · rw [if_neg h, decide_eq_true (by omega)]; rfl
set_option maxRecDepth 100000 in
set_option maxHeartbeats 800000 in
theorem dec_a (enc : Int) (s : ByteArray) (Wd : Nat) (C1 : Array Value) (e1 : Int) (a1 : Nat) (pw : ∀ w, Calls Try.prog 33 #[.int .i64 enc] w fun e w' => e = .returned (.int .i64 (Wd : Int)) ∧ w' = w) (qw : ((Wd : Int) == 0) = false) (p1 : ∀ w, Calls Try.prog 36 #[.int .i64 enc, .string s] w fun e w' => e = .returned (.tuple #[.agg C1, .int .i64 e1, .int .i64 (a1 : Int)]) ∧ Below w.heap.size w w') (z1 : (Try.prog.info? 59).map (·.size) = some C1.size) (s1 : C1.size = 8) (o1 : C1.all (·.oneCell') = true)
    (h1 : (e1 == 0) = false) (w : World) :
    Calls Try.prog 20 #[.int .i64 enc, .string s] w fun e w' => e = .returned (.tuple #[.agg #[.int .u64 0, .int .u64 0], .int .i64 e1, .int .i64 (a1 : Int)]) ∧ Below w.heap.size w w' := by
  have hz := (zero_of_info z8).1
  go_enter Try.func20, Try.ntmps20
  go_wp2_with (first
    | (go_at_call 33; refine (pw _).mono ?_; rintro e x ⟨rfl, rfl⟩)
    | (go_at_call_of 36 (Value.string s); refine (p1 _).mono ?_; rintro e x ⟨rfl, hb⟩; have m0 := kept hb (h1_0 w _); obtain ⟨c0, c1, f0, f1⟩ := and4 (held2a hb (h1_0 w _)); clear p1)
    | (refine wpList_store_row rfl 59 _ _ rfl x.heap.size C1 rfl rfl _ _ (h1_0 x _) z1 (by rw [byC_size, s1]) o1 ?_; rw [World.setRow_alloc_new])
    | (refine wpList_load_row rfl 59 _ rfl x.heap.size rfl _ _ _ _ (h1_0 x _) Try.underlying59 rfl z1 ?_)
    | (go_at_call_of 37 (Value.agg C1); refine (p2 _).mono ?_; rintro e y ⟨rfl, hc⟩; have k1 := kept hc (h1_0 x _); have m1 := kept hc (kept1 m0 _); obtain ⟨d0, d1, g0, g1⟩ := held2 hc (kept1 m0 _); clear p2))
  exact bodyPost_ret (v := .tuple #[.agg #[.int .u64 0, .int .u64 0], .int .i64 e1, .int .i64 (a1 : Int)]) (by simp [results, Try.results20, go_sem, c0, c1]) rfl ⟨rfl, ((keepB (keepB (below_one w _) hb) (below_one x _)).setCell (Nat.le_refl _) _).setCell (Nat.le_refl _) _⟩
set_option maxRecDepth 100000 in
set_option maxHeartbeats 800000 in
theorem dec_b (enc : Int) (s : ByteArray) (Wd : Nat) (C1 : Array Value) (a1 : Nat) (F1 : Nat) (pw : ∀ w, Calls Try.prog 33 #[.int .i64 enc] w fun e w' => e = .returned (.int .i64 (Wd : Int)) ∧ w' = w) (qw : ((Wd : Int) == 0) = false) (p1 : ∀ w, Calls Try.prog 36 #[.int .i64 enc, .string s] w fun e w' => e = .returned (.tuple #[.agg C1, .int .i64 0, .int .i64 (a1 : Int)]) ∧ Below w.heap.size w w') (p2 : ∀ w, Calls Try.prog 37 #[.agg C1] w fun e w' => e = .returned (.int .u64 (F1 : Int)) ∧ Below w.heap.size w w') (z1 : (Try.prog.info? 59).map (·.size) = some C1.size) (s1 : C1.size = 8) (o1 : C1.all (·.oneCell') = true)
    (h2 : bits .and .u64 (F1 : Int) 9223372036854775808 = 0) (w : World) :
    Calls Try.prog 20 #[.int .i64 enc, .string s] w fun e w' => e = .returned (.tuple #[.agg #[.int .u64 (F1 : Int), .int .u64 0], .int .i64 0, .int .i64 (Wd : Int)]) ∧ Below w.heap.size w w' := by
  have hz := (zero_of_info z8).1
  go_enter Try.func20, Try.ntmps20
  go_wp2_with (first
    | (go_at_call 33; refine (pw _).mono ?_; rintro e x ⟨rfl, rfl⟩)
    | (go_at_call_of 36 (Value.string s); refine (p1 _).mono ?_; rintro e x ⟨rfl, hb⟩; have m0 := kept hb (h1_0 w _); obtain ⟨c0, c1, f0, f1⟩ := and4 (held2a hb (h1_0 w _)); clear p1)
    | (refine wpList_store_row rfl 59 _ _ rfl x.heap.size C1 rfl rfl _ _ (h1_0 x _) z1 (by rw [byC_size, s1]) o1 ?_; rw [World.setRow_alloc_new])
    | (refine wpList_load_row rfl 59 _ rfl x.heap.size rfl _ _ _ _ (h1_0 x _) Try.underlying59 rfl z1 ?_)
    | (go_at_call_of 37 (Value.agg C1); refine (p2 _).mono ?_; rintro e y ⟨rfl, hc⟩; have k1 := kept hc (h1_0 x _); have m1 := kept hc (kept1 m0 _); obtain ⟨d0, d1, g0, g1⟩ := held2 hc (kept1 m0 _); clear p2))
  exact bodyPost_ret (v := .tuple #[.agg #[.int .u64 (F1 : Int), .int .u64 0], .int .i64 0, .int .i64 (Wd : Int)]) (by simp [results, Try.results20, go_sem, d0, d1]) rfl ⟨rfl, ((keepB (keepB (keepB (below_one w _) hb) (below_one x _)) hc).setCell (Nat.le_refl _) _).setCell (Nat.le_refl _) _⟩
set_option maxRecDepth 100000 in
set_option maxHeartbeats 800000 in
theorem dec_c (enc : Int) (s : ByteArray) (t : ByteArray) (Wd : Nat) (C1 : Array Value) (C2 : Array Value) (e2 : Int) (a1 : Nat) (a2 : Nat) (F1 : Nat) (pw : ∀ w, Calls Try.prog 33 #[.int .i64 enc] w fun e w' => e = .returned (.int .i64 (Wd : Int)) ∧ w' = w) (qw : ((Wd : Int) == 0) = false) (lw : (Wd : Int) ≤ 16) (p1 : ∀ w, Calls Try.prog 36 #[.int .i64 enc, .string s] w fun e w' => e = .returned (.tuple #[.agg C1, .int .i64 0, .int .i64 (a1 : Int)]) ∧ Below w.heap.size w w') (p2 : ∀ w, Calls Try.prog 37 #[.agg C1] w fun e w' => e = .returned (.int .u64 (F1 : Int)) ∧ Below w.heap.size w w') (p3 : ∀ w, Calls Try.prog 36 #[.int .i64 enc, .string t] w fun e w' => e = .returned (.tuple #[.agg C2, .int .i64 e2, .int .i64 (a2 : Int)]) ∧ Below w.heap.size w w') (z1 : (Try.prog.info? 59).map (·.size) = some C1.size) (s1 : C1.size = 8) (o1 : C1.all (·.oneCell') = true) (z2 : (Try.prog.info? 59).map (·.size) = some C2.size) (s2 : C2.size = 8) (o2 : C2.all (·.oneCell') = true)
    (h2 : bits .and .u64 (F1 : Int) 9223372036854775808 = 9223372036854775808) (h3 : (e2 == 0) = false) (ht : s.extract Wd s.size = t) (hs : (Wd : Int) ≤ (s.size : Int)) (ha : (a2 : Int) ≤ 1000) (w : World) :
    Calls Try.prog 20 #[.int .i64 enc, .string s] w fun e w' => e = .returned (.tuple #[.agg #[.int .u64 0, .int .u64 0], .int .i64 e2, .int .i64 ((Wd : Int) + (a2 : Int))]) ∧ Below w.heap.size w w' := by
  have hz := (zero_of_info z8).1
  go_enter Try.func20, Try.ntmps20
  go_wp2_with (first
    | (go_at_call 33; refine (pw _).mono ?_; rintro e x ⟨rfl, rfl⟩)
    | (go_at_call_of 36 (Value.string s); refine (p1 _).mono ?_; rintro e x ⟨rfl, hb⟩; have m0 := kept hb (h1_0 w _); obtain ⟨c0, c1, f0, f1⟩ := and4 (held2a hb (h1_0 w _)); clear p1)
    | (refine wpList_store_row rfl 59 _ _ rfl x.heap.size C1 rfl rfl _ _ (h1_0 x _) z1 (by rw [byC_size, s1]) o1 ?_; rw [World.setRow_alloc_new])
    | (refine wpList_load_row rfl 59 _ rfl x.heap.size rfl _ _ _ _ (h1_0 x _) Try.underlying59 rfl z1 ?_)
    | (go_at_call_of 37 (Value.agg C1); refine (p2 _).mono ?_; rintro e y ⟨rfl, hc⟩; have k1 := kept hc (h1_0 x _); have m1 := kept hc (kept1 m0 _); obtain ⟨d0, d1, g0, g1⟩ := held2 hc (kept1 m0 _); clear p2)
    | (go_at_call_of 36 (Value.string t); refine (p3 _).mono ?_; rintro e z ⟨rfl, hd⟩; have k2 := kept hd k1; have m2 := kept hd m1; have k3 := setRow_at k2 C2; have m3 := (setRow_ne (c' := C2) (show x.heap.size ≠ w.heap.size by have := (Array.getElem?_eq_some_iff.1 m0).1; omega)).trans m2; obtain ⟨i0, i1, j0, j1⟩ := held2 (Below.refl _ _) m3; clear p3)
    | (refine wpList_store_row rfl 59 _ _ rfl x.heap.size C2 rfl rfl _ _ k2 z2 (by rw [s1, s2]) o2 ?_)
    | (refine wpList_load_row rfl 59 _ rfl x.heap.size rfl _ _ _ _ k3 Try.underlying59 rfl z2 ?_)
    | (go_at_call_of 37 (Value.agg C2); refine (p4 _).mono ?_; rintro e u ⟨rfl, he⟩; obtain ⟨q0, q1, r0, r1⟩ := held2 he m3; clear p4))
  exact bodyPost_ret (v := .tuple #[.agg #[.int .u64 0, .int .u64 0], .int .i64 e2, .int .i64 ((Wd : Int) + (a2 : Int))]) (by simp [results, Try.results20, go_sem, i0, i1]) rfl ⟨rfl, ((below_setRow (keepB (keepB (keepB (keepB (below_one w _) hb) (below_one x _)) hc) hd) (show w.heap.size ≤ x.heap.size by have := (Array.getElem?_eq_some_iff.1 m0).1; omega) C2).setCell (Nat.le_refl _) _).setCell (Nat.le_refl _) _⟩
set_option maxRecDepth 100000 in
set_option maxHeartbeats 800000 in
theorem dec_d1 (enc : Int) (s : ByteArray) (t : ByteArray) (Wd : Nat) (C1 : Array Value) (C2 : Array Value) (a1 : Nat) (a2 : Nat) (F1 : Nat) (F2 : Nat) (pw : ∀ w, Calls Try.prog 33 #[.int .i64 enc] w fun e w' => e = .returned (.int .i64 (Wd : Int)) ∧ w' = w) (qw : ((Wd : Int) == 0) = false) (lw : (Wd : Int) ≤ 16) (p1 : ∀ w, Calls Try.prog 36 #[.int .i64 enc, .string s] w fun e w' => e = .returned (.tuple #[.agg C1, .int .i64 0, .int .i64 (a1 : Int)]) ∧ Below w.heap.size w w') (p2 : ∀ w, Calls Try.prog 37 #[.agg C1] w fun e w' => e = .returned (.int .u64 (F1 : Int)) ∧ Below w.heap.size w w') (p3 : ∀ w, Calls Try.prog 36 #[.int .i64 enc, .string t] w fun e w' => e = .returned (.tuple #[.agg C2, .int .i64 0, .int .i64 (a2 : Int)]) ∧ Below w.heap.size w w') (p4 : ∀ w, Calls Try.prog 37 #[.agg C2] w fun e w' => e = .returned (.int .u64 (F2 : Int)) ∧ Below w.heap.size w w') (z1 : (Try.prog.info? 59).map (·.size) = some C1.size) (s1 : C1.size = 8) (o1 : C1.all (·.oneCell') = true) (z2 : (Try.prog.info? 59).map (·.size) = some C2.size) (s2 : C2.size = 8) (o2 : C2.all (·.oneCell') = true)
    (h2 : bits .and .u64 (F1 : Int) 9223372036854775808 = 9223372036854775808) (h4 : bits .and .u64 (F2 : Int) 9223372036854775808 = 9223372036854775808) (ht : s.extract Wd s.size = t) (hs : (Wd : Int) ≤ (s.size : Int)) (w : World) :
    Calls Try.prog 20 #[.int .i64 enc, .string s] w fun e w' => e = .returned (.tuple #[.agg #[.int .u64 0, .int .u64 0], .int .i64 20, .int .i64 (Wd : Int)]) ∧ Below w.heap.size w w' := by
  have hz := (zero_of_info z8).1
  go_enter Try.func20, Try.ntmps20
  go_wp2_with (first
    | (go_at_call 33; refine (pw _).mono ?_; rintro e x ⟨rfl, rfl⟩)
    | (go_at_call_of 36 (Value.string s); refine (p1 _).mono ?_; rintro e x ⟨rfl, hb⟩; have m0 := kept hb (h1_0 w _); obtain ⟨c0, c1, f0, f1⟩ := and4 (held2a hb (h1_0 w _)); clear p1)
    | (refine wpList_store_row rfl 59 _ _ rfl x.heap.size C1 rfl rfl _ _ (h1_0 x _) z1 (by rw [byC_size, s1]) o1 ?_; rw [World.setRow_alloc_new])
    | (refine wpList_load_row rfl 59 _ rfl x.heap.size rfl _ _ _ _ (h1_0 x _) Try.underlying59 rfl z1 ?_)
    | (go_at_call_of 37 (Value.agg C1); refine (p2 _).mono ?_; rintro e y ⟨rfl, hc⟩; have k1 := kept hc (h1_0 x _); have m1 := kept hc (kept1 m0 _); obtain ⟨d0, d1, g0, g1⟩ := held2 hc (kept1 m0 _); clear p2)
    | (go_at_call_of 36 (Value.string t); refine (p3 _).mono ?_; rintro e z ⟨rfl, hd⟩; have k2 := kept hd k1; have m2 := kept hd m1; have k3 := setRow_at k2 C2; have m3 := (setRow_ne (c' := C2) (show x.heap.size ≠ w.heap.size by have := (Array.getElem?_eq_some_iff.1 m0).1; omega)).trans m2; obtain ⟨i0, i1, j0, j1⟩ := held2 (Below.refl _ _) m3; clear p3)
    | (refine wpList_store_row rfl 59 _ _ rfl x.heap.size C2 rfl rfl _ _ k2 z2 (by rw [s1, s2]) o2 ?_)
    | (refine wpList_load_row rfl 59 _ rfl x.heap.size rfl _ _ _ _ k3 Try.underlying59 rfl z2 ?_)
    | (go_at_call_of 37 (Value.agg C2); refine (p4 _).mono ?_; rintro e u ⟨rfl, he⟩; obtain ⟨q0, q1, r0, r1⟩ := held2 he m3; clear p4))
  exact bodyPost_ret (v := .tuple #[.agg #[.int .u64 0, .int .u64 0], .int .i64 20, .int .i64 (Wd : Int)]) (by simp [results, Try.results20, go_sem, q0, q1]) rfl ⟨rfl, ((keepB (below_setRow (keepB (keepB (keepB (keepB (below_one w _) hb) (below_one x _)) hc) hd) (show w.heap.size ≤ x.heap.size by have := (Array.getElem?_eq_some_iff.1 m0).1; omega) C2) he).setCell (Nat.le_refl _) _).setCell (Nat.le_refl _) _⟩
set_option maxRecDepth 100000 in
set_option maxHeartbeats 800000 in
theorem dec_d2 (enc : Int) (s : ByteArray) (t : ByteArray) (Wd : Nat) (C1 : Array Value) (C2 : Array Value) (a1 : Nat) (a2 : Nat) (F1 : Nat) (F2 : Nat) (pw : ∀ w, Calls Try.prog 33 #[.int .i64 enc] w fun e w' => e = .returned (.int .i64 (Wd : Int)) ∧ w' = w) (qw : ((Wd : Int) == 0) = false) (lw : (Wd : Int) ≤ 16) (p1 : ∀ w, Calls Try.prog 36 #[.int .i64 enc, .string s] w fun e w' => e = .returned (.tuple #[.agg C1, .int .i64 0, .int .i64 (a1 : Int)]) ∧ Below w.heap.size w w') (p2 : ∀ w, Calls Try.prog 37 #[.agg C1] w fun e w' => e = .returned (.int .u64 (F1 : Int)) ∧ Below w.heap.size w w') (p3 : ∀ w, Calls Try.prog 36 #[.int .i64 enc, .string t] w fun e w' => e = .returned (.tuple #[.agg C2, .int .i64 0, .int .i64 (a2 : Int)]) ∧ Below w.heap.size w w') (p4 : ∀ w, Calls Try.prog 37 #[.agg C2] w fun e w' => e = .returned (.int .u64 (F2 : Int)) ∧ Below w.heap.size w w') (z1 : (Try.prog.info? 59).map (·.size) = some C1.size) (s1 : C1.size = 8) (o1 : C1.all (·.oneCell') = true) (z2 : (Try.prog.info? 59).map (·.size) = some C2.size) (s2 : C2.size = 8) (o2 : C2.all (·.oneCell') = true)
    (h2 : bits .and .u64 (F1 : Int) 9223372036854775808 = 9223372036854775808) (h4 : bits .and .u64 (F2 : Int) 9223372036854775808 = 0) (h5 : ((F2 : Int) == 0) = true) (ht : s.extract Wd s.size = t) (hs : (Wd : Int) ≤ (s.size : Int)) (w : World) :
    Calls Try.prog 20 #[.int .i64 enc, .string s] w fun e w' => e = .returned (.tuple #[.agg #[.int .u64 0, .int .u64 0], .int .i64 20, .int .i64 (Wd : Int)]) ∧ Below w.heap.size w w' := by
  have hz := (zero_of_info z8).1
  go_enter Try.func20, Try.ntmps20
  go_wp2_with (first
    | (go_at_call 33; refine (pw _).mono ?_; rintro e x ⟨rfl, rfl⟩)
    | (go_at_call_of 36 (Value.string s); refine (p1 _).mono ?_; rintro e x ⟨rfl, hb⟩; have m0 := kept hb (h1_0 w _); obtain ⟨c0, c1, f0, f1⟩ := and4 (held2a hb (h1_0 w _)); clear p1)
    | (refine wpList_store_row rfl 59 _ _ rfl x.heap.size C1 rfl rfl _ _ (h1_0 x _) z1 (by rw [byC_size, s1]) o1 ?_; rw [World.setRow_alloc_new])
    | (refine wpList_load_row rfl 59 _ rfl x.heap.size rfl _ _ _ _ (h1_0 x _) Try.underlying59 rfl z1 ?_)
    | (go_at_call_of 37 (Value.agg C1); refine (p2 _).mono ?_; rintro e y ⟨rfl, hc⟩; have k1 := kept hc (h1_0 x _); have m1 := kept hc (kept1 m0 _); obtain ⟨d0, d1, g0, g1⟩ := held2 hc (kept1 m0 _); clear p2)
    | (go_at_call_of 36 (Value.string t); refine (p3 _).mono ?_; rintro e z ⟨rfl, hd⟩; have k2 := kept hd k1; have m2 := kept hd m1; have k3 := setRow_at k2 C2; have m3 := (setRow_ne (c' := C2) (show x.heap.size ≠ w.heap.size by have := (Array.getElem?_eq_some_iff.1 m0).1; omega)).trans m2; obtain ⟨i0, i1, j0, j1⟩ := held2 (Below.refl _ _) m3; clear p3)
    | (refine wpList_store_row rfl 59 _ _ rfl x.heap.size C2 rfl rfl _ _ k2 z2 (by rw [s1, s2]) o2 ?_)
    | (refine wpList_load_row rfl 59 _ rfl x.heap.size rfl _ _ _ _ k3 Try.underlying59 rfl z2 ?_)
    | (go_at_call_of 37 (Value.agg C2); refine (p4 _).mono ?_; rintro e u ⟨rfl, he⟩; obtain ⟨q0, q1, r0, r1⟩ := held2 he m3; clear p4))
  exact bodyPost_ret (v := .tuple #[.agg #[.int .u64 0, .int .u64 0], .int .i64 20, .int .i64 (Wd : Int)]) (by simp [results, Try.results20, go_sem, q0, q1]) rfl ⟨rfl, ((keepB (below_setRow (keepB (keepB (keepB (keepB (below_one w _) hb) (below_one x _)) hc) hd) (show w.heap.size ≤ x.heap.size by have := (Array.getElem?_eq_some_iff.1 m0).1; omega) C2) he).setCell (Nat.le_refl _) _).setCell (Nat.le_refl _) _⟩
set_option maxRecDepth 100000 in
set_option maxHeartbeats 800000 in
theorem dec_e (enc : Int) (s : ByteArray) (t : ByteArray) (Wd : Nat) (C1 : Array Value) (C2 : Array Value) (a1 : Nat) (a2 : Nat) (F1 : Nat) (F2 : Nat) (pw : ∀ w, Calls Try.prog 33 #[.int .i64 enc] w fun e w' => e = .returned (.int .i64 (Wd : Int)) ∧ w' = w) (qw : ((Wd : Int) == 0) = false) (lw : (Wd : Int) ≤ 16) (p1 : ∀ w, Calls Try.prog 36 #[.int .i64 enc, .string s] w fun e w' => e = .returned (.tuple #[.agg C1, .int .i64 0, .int .i64 (a1 : Int)]) ∧ Below w.heap.size w w') (p2 : ∀ w, Calls Try.prog 37 #[.agg C1] w fun e w' => e = .returned (.int .u64 (F1 : Int)) ∧ Below w.heap.size w w') (p3 : ∀ w, Calls Try.prog 36 #[.int .i64 enc, .string t] w fun e w' => e = .returned (.tuple #[.agg C2, .int .i64 0, .int .i64 (a2 : Int)]) ∧ Below w.heap.size w w') (p4 : ∀ w, Calls Try.prog 37 #[.agg C2] w fun e w' => e = .returned (.int .u64 (F2 : Int)) ∧ Below w.heap.size w w') (z1 : (Try.prog.info? 59).map (·.size) = some C1.size) (s1 : C1.size = 8) (o1 : C1.all (·.oneCell') = true) (z2 : (Try.prog.info? 59).map (·.size) = some C2.size) (s2 : C2.size = 8) (o2 : C2.all (·.oneCell') = true)
    (G1 : Nat) (h2 : bits .and .u64 (F1 : Int) 9223372036854775808 = 9223372036854775808) (h6 : bits .andNot .u64 (F1 : Int) 9223372036854775808 = (G1 : Int)) (h4 : bits .and .u64 (F2 : Int) 9223372036854775808 = 0) (h5 : ((F2 : Int) == 0) = false) (ht : s.extract Wd s.size = t) (hs : (Wd : Int) ≤ (s.size : Int)) (w : World) :
    Calls Try.prog 20 #[.int .i64 enc, .string s] w fun e w' => e = .returned (.tuple #[.agg #[.int .u64 (G1 : Int), .int .u64 (F2 : Int)], .int .i64 0, .int .i64 (2 * (Wd : Int))]) ∧ Below w.heap.size w w' := by
  have hz := (zero_of_info z8).1
  go_enter Try.func20, Try.ntmps20
  go_wp2_with (first
    | (go_at_call 33; refine (pw _).mono ?_; rintro e x ⟨rfl, rfl⟩)
    | (go_at_call_of 36 (Value.string s); refine (p1 _).mono ?_; rintro e x ⟨rfl, hb⟩; have m0 := kept hb (h1_0 w _); obtain ⟨c0, c1, f0, f1⟩ := and4 (held2a hb (h1_0 w _)); clear p1)
    | (refine wpList_store_row rfl 59 _ _ rfl x.heap.size C1 rfl rfl _ _ (h1_0 x _) z1 (by rw [byC_size, s1]) o1 ?_; rw [World.setRow_alloc_new])
    | (refine wpList_load_row rfl 59 _ rfl x.heap.size rfl _ _ _ _ (h1_0 x _) Try.underlying59 rfl z1 ?_)
    | (go_at_call_of 37 (Value.agg C1); refine (p2 _).mono ?_; rintro e y ⟨rfl, hc⟩; have k1 := kept hc (h1_0 x _); have m1 := kept hc (kept1 m0 _); obtain ⟨d0, d1, g0, g1⟩ := held2 hc (kept1 m0 _); clear p2)
    | (go_at_call_of 36 (Value.string t); refine (p3 _).mono ?_; rintro e z ⟨rfl, hd⟩; have k2 := kept hd k1; have m2 := kept hd m1; have k3 := setRow_at k2 C2; have m3 := (setRow_ne (c' := C2) (show x.heap.size ≠ w.heap.size by have := (Array.getElem?_eq_some_iff.1 m0).1; omega)).trans m2; obtain ⟨i0, i1, j0, j1⟩ := held2 (Below.refl _ _) m3; clear p3)
    | (refine wpList_store_row rfl 59 _ _ rfl x.heap.size C2 rfl rfl _ _ k2 z2 (by rw [s1, s2]) o2 ?_)
    | (refine wpList_load_row rfl 59 _ rfl x.heap.size rfl _ _ _ _ k3 Try.underlying59 rfl z2 ?_)
    | (go_at_call_of 37 (Value.agg C2); refine (p4 _).mono ?_; rintro e u ⟨rfl, he⟩; obtain ⟨q0, q1, r0, r1⟩ := held2 he m3; clear p4))
  exact bodyPost_ret (v := .tuple #[.agg #[.int .u64 (G1 : Int), .int .u64 (F2 : Int)], .int .i64 0, .int .i64 (2 * (Wd : Int))]) (by simp [results, Try.results20, go_sem, q0, q1]) rfl ⟨rfl, ((keepB (below_setRow (keepB (keepB (keepB (keepB (below_one w _) hb) (below_one x _)) hc) hd) (show w.heap.size ≤ x.heap.size by have := (Array.getElem?_eq_some_iff.1 m0).1; omega) C2) he).setCell (Nat.le_refl _) _).setCell (Nat.le_refl _) _⟩
end Go.Proofs.Ytkleoklcaalogaa.De
