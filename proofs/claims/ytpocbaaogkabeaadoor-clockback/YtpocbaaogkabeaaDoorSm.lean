/- Stamps and months out of texts: the program's. -/
import Derived.Test.YtpocbaaogkabeaaDoorSg
import Derived.Test.YtpocbaaogkabeaaDoorQl
import Derived.Deep.RegionHeld3
namespace Go.Proofs.YtpocbaaogkabeaaDoor.Sm
set_option linter.unusedVariables false
set_option linter.unusedSimpArgs false
open Go.RowKit Kb Ca Ld De Oe Hx Sg
/-- a zero date's block; a date's -/
abbrev z6 : Obj := Obj.cells #[.int .i64 0, .int .i64 0, .int .i64 0, .int .i64 0, .int .i64 0, .int .i64 0] 23
abbrev d6 (Y M D h mi s : Int) : Obj := Obj.cells #[.int .i64 Y, .int .i64 M, .int .i64 D, .int .i64 h, .int .i64 mi, .int .i64 s] 23
/-- a date is laid behind the result -/
def Rdy (w X : World) (Y M D h mi s : Int) : Prop := Six X (w.heap.size + 1) Y M D h mi s ∧ Six X w.heap.size 0 0 0 0 0 0 ∧ Below w.heap.size w X
theorem rdyA (w : World) (k : Nat) (Y M D h mi s : Int) : Rdy w (((w.alloc z6).drewN k).alloc (d6 Y M D h mi s)) Y M D h mi s := by
  have a := h1_0 ((w.alloc z6).drewN k) (d6 Y M D h mi s)
  have e : ((w.alloc z6).drewN k).heap.size = w.heap.size + 1 := World.size_alloc _ _
  rw [e] at a
  exact ⟨a, kept (below_one ((w.alloc z6).drewN k) (d6 Y M D h mi s)) (show ((w.alloc z6).drewN k).heap[w.heap.size]? = _ from h1_0 w z6), keepB (below_drewN (below_one w z6) k) (below_one _ _)⟩
theorem rdyB (w : World) (k m : Nat) (Y M D h mi s : Int) : Rdy w (set6 ((((w.alloc z6).drewN k).alloc z6).drewN m) (w.heap.size + 1) Y M D h mi s) Y M D h mi s := by
  have r := rdyA w k 0 0 0 0 0 0
  have a : Six ((((w.alloc z6).drewN k).alloc z6).drewN m) (w.heap.size + 1) 0 0 0 0 0 0 := r.1
  have b : Six ((((w.alloc z6).drewN k).alloc z6).drewN m) w.heap.size 0 0 0 0 0 0 := r.2.1
  refine ⟨a.put Y M D h mi s, ?_, below_set6 (below_drewN r.2.2 m) (by omega) _ _ _ _ _ _⟩
  exact (((((b.ne (by omega) _ _).ne (by omega) _ _).ne (by omega) _ _).ne (by omega) _ _).ne (by omega) _ _).ne (by omega) _ _
theorem rdyC (w : World) (k : Nat) (Y M D h mi s : Int) : Rdy w (set6 (((w.alloc z6).alloc z6).drewN k) (w.heap.size + 1) Y M D h mi s) Y M D h mi s := rdyB w 0 k Y M D h mi s
theorem cut_at {P : Program} {c : Code} {Q : Exit → Act → World → Prop} {a : Act} {w : World} (A : Act) (R : World → Prop) (h : c.wp P (fun e b x => e = .normal ∧ b = A ∧ R x) a w) (k : ∀ x, R x → Q .normal A x) : c.wp P Q a w :=
  Code.wp_mono (fun e b x ⟨h1, h2, h3⟩ => by subst h1; subst h2; exact k x h3) h
theorem at_world {G : World → Prop} {w X : World} {Y M D h mi s : Int} (hX : Rdy w X Y M D h mi s) (k : ∀ X, Rdy w X Y M D h mi s → G X) : G X := k X hX
/-- ten digits -/
def ten (s : ByteArray) : Bool := decide (s.size = 10) && ad s
set_option maxRecDepth 100000 in
set_option maxHeartbeats 1600000 in
theorem stamp_bad (s : ByteArray) (hs : s.size ≤ 140737488351232) (h : ten s = false) (w : World) : Calls Tryd.prog 41 #[.string s] w fun e w' => e = .returned (.tuple #[dt 0 0 0 0 0 0, .bool false]) ∧ Below w.heap.size w w' := by
  by_cases h1 : s.size = 10
  · have h2 : ad s = false := by simpa [ten, h1] using h
    have cA := fun x => allDigits_any s x hs
    rw [h2] at cA
    have q : ((s.size : Int) == 10) = true := by rw [h1]; rfl
    clear h h2
    go_enter Tryd.func41, Tryd.ntmps41
    go_wp2_with fail
    refine (cA _).mono ?_
    rintro e x ⟨rfl, rfl⟩
    go_wp2_with fail
    all_goals exact bodyPost_ret (v := .tuple #[.agg (cs6 0 0 0 0 0 0), .bool false]) (res_row_tmp (fn := Tryd.f41) (p := 2) (u := 3) rfl _ _ w.heap.size _ _ _ _ rfl (h1_0 w _) Tryd.underlying23 rfl (inf6 0 0 0 0 0 0)) rfl ⟨rfl, below_one w _⟩
  · have q : ((s.size : Int) == 10) = false := by rw [beq_eq_false_iff_ne]; omega
    go_enter Tryd.func41, Tryd.ntmps41
    go_wp2_with fail
    all_goals exact bodyPost_ret (v := .tuple #[.agg (cs6 0 0 0 0 0 0), .bool false]) (res_row_tmp (fn := Tryd.f41) (p := 2) (u := 3) rfl _ _ w.heap.size _ _ _ _ rfl (h1_0 w _) Tryd.underlying23 rfl (inf6 0 0 0 0 0 0)) rfl ⟨rfl, below_one w _⟩
set_option maxRecDepth 100000 in
set_option maxHeartbeats 1600000 in
theorem stamp_good (s : ByteArray) (hs : s.size ≤ 140737488351232) (h : ten s = true) (w : World) (hT : Tab w) : Calls Tryd.prog 41 #[.string s] w fun e w' =>
    e = .returned (.tuple #[dt 2000 (tw s.data.toList 0) (tw s.data.toList 2) (tw s.data.toList 4) (tw s.data.toList 6) (tw s.data.toList 8), .bool (isD 2000 (tw s.data.toList 0) (tw s.data.toList 2) (tw s.data.toList 4) (tw s.data.toList 6) (tw s.data.toList 8))]) ∧ Below w.heap.size w w' := by
  simp only [ten, Bool.and_eq_true, decide_eq_true_eq] at h
  obtain ⟨h1, h2⟩ := h
  have cA := fun x => allDigits_any s x hs
  rw [h2] at cA
  have c0 := fun x => pair_any s x hs (by omega) h2
  have c2 := fun x => pair_from s 2 x hs (by omega) h2
  have c4 := fun x => pair_from s 4 x hs (by omega) h2
  have c6 := fun x => pair_from s 6 x hs (by omega) h2
  have c8 := fun x => pair_from s 8 x hs (by omega) h2
  rw [h1] at c2 c4 c6 c8
  have q : ((s.size : Int) == 10) = true := by rw [h1]; rfl
  have cI : ∀ x, Tab x → Calls _ _ _ x _ := fun x hT => isDate_any 2000 (tw s.data.toList 0) (tw s.data.toList 2) (tw s.data.toList 4) (tw s.data.toList 6) (tw s.data.toList 8) x hT
  unfold dt at cI ⊢
  generalize tw s.data.toList 0 = M at *
  generalize tw s.data.toList 2 = D at *
  generalize tw s.data.toList 4 = H at *
  generalize tw s.data.toList 6 = I at *
  generalize tw s.data.toList 8 = S at *
  generalize isD 2000 M D H I S = b at *
  clear h2
  go_enter Tryd.func41, Tryd.ntmps41
  go_wp2_with fail
  refine (cA _).mono ?_
  rintro e x ⟨rfl, rfl⟩
  clear cA
  go_wp2_with fail
  refine cut_at ⟨#[.string s, undef, .pointer (some ⟨w.heap.size, 0, none⟩), .bool false, .pointer (some ⟨w.heap.size + 1, 0, none⟩), .string s, .int .i64 10, .bool false, .bool false, .string s, .bool true, .bool false, .bool false, undef, .string s, .int .i64 M, .string s, .string (s.extract 2 10), .int .i64 D, .string s, .string (s.extract 4 10), .int .i64 H, .string s, .string (s.extract 6 10), .int .i64 I, .string s, .string (s.extract 8 10), .int .i64 S, .agg #[.int .i64 2000, .int .i64 M, .int .i64 D, .int .i64 H, .int .i64 I, .int .i64 S], undef, undef, undef], []⟩ (fun X => Rdy w X 2000 M D H I S) ?_ ?_
  · go_region_held3 (fun _ => True) (trivial) (first
      | (go_at_call_of 50 (Value.string s); refine (c0 _).mono ?_; rintro e y ⟨rfl, m, rfl⟩)
      | (go_at_call_of 50 (Value.string (s.extract 2 10)); refine (c2 _).mono ?_; rintro e y ⟨rfl, m, rfl⟩)
      | (go_at_call_of 50 (Value.string (s.extract 4 10)); refine (c4 _).mono ?_; rintro e y ⟨rfl, m, rfl⟩)
      | (go_at_call_of 50 (Value.string (s.extract 6 10)); refine (c6 _).mono ?_; rintro e y ⟨rfl, m, rfl⟩)
      | (go_at_call_of 50 (Value.string (s.extract 8 10)); refine (c8 _).mono ?_; rintro e y ⟨rfl, m, rfl⟩))
    all_goals exact ⟨rfl, rfl, by first | with_reducible exact rdyA _ _ _ _ _ _ _ _ | with_reducible exact rdyB _ _ _ _ _ _ _ _ _ | with_reducible exact rdyC _ _ _ _ _ _ _ _⟩
  clear c0 c2 c4 c6 c8
  rintro X ⟨S1, S0, B⟩
  have hTy : ∀ y, Ql.Cl X y → Tab y := fun y hy => hT.next (keepB B hy)
  go_wp2_with fail
  refine Ql.region_twoL (C := Ql.Cl X) (by kernel_rfl) rfl (by kernel_rfl) (by kernel_rfl) (by kernel_rfl) rfl rfl ((Below.refl _ _).drew) ?_
  repeat (refine wpQuiet_step (fun K hK => ?_); first
    | (refine Ql.q_row (by rfl) 23 _ rfl (w.heap.size + 1) rfl _ _ _ _ S1 Tryd.underlying23 rfl info6 (hK _ ?_); clear hK K)
    | (go_simp; apply Exists.intro; refine ⟨fun y hy => ?_, hK _ ?_⟩; (first | (go_at_call 30; exact Ql.cl_of hy (cI y (hTy y hy)))); clear hK K)
    | (go_simp; refine hK _ ?_; clear hK K))
  refine wpQuiet_nil ?_
  intro y1 hy1
  replace hy1 : Below X.heap.size X y1 := hy1
  refine wp_store_row 23 _ _ rfl w.heap.size (cs6 2000 M D H I S) rfl rfl _ _ (S0.next hy1).row (inf6 _ _ _ _ _ _) (siz6 _ _ _ _ _ _ _ _ _ _ _ _) (one6 _ _ _ _ _ _) ?_
  have m1 := setRow_at (S0.next hy1).row (cs6 2000 M D H I S)
  have m3 := below_setRow (keepB B hy1) (Nat.le_refl w.heap.size) (cs6 2000 M D H I S)
  generalize y1.setRow w.heap.size (cs6 2000 M D H I S) = W5 at *
  clear hTy cI S1 S0 hy1
  go_wp2
  exact bodyPost_ret (v := .tuple #[.agg (cs6 2000 M D H I S), .bool b]) (res_row_tmp (fn := Tryd.f41) (p := 2) (u := 3) rfl _ _ w.heap.size _ _ _ _ rfl m1 Tryd.underlying23 rfl (inf6 _ _ _ _ _ _)) rfl ⟨rfl, m3⟩
end Go.Proofs.YtpocbaaogkabeaaDoor.Sm
