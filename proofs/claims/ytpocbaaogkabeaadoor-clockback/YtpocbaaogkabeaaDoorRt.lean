/- Weekday, two, three, Stamp, Julian: the document's. -/
import Derived.Test.YtpocbaaogkabeaaDoorRz
import Derived.Test.YtpocbaaogkabeaaDoorTe
import Derived.Test.YtpocbaaogkabeaaDoorQl
namespace Go.Proofs.YtpocbaaogkabeaaDoor.Rt
set_option linter.unusedVariables false
set_option linter.unusedSimpArgs false
open Go.RowKit Lib0 Kb Ca Ld De Oe Hx Rd Ro Rz Pa Te
theorem ret_str {a b : ByteArray} (h : a = b) : Ending.returned (.string a) = .returned (.string b) := by rw [h]
set_option maxRecDepth 100000 in
set_option maxHeartbeats 1600000 in
theorem weekdayr_any (n : Int) (w : World) : Calls Tryd.prog 17 #[.int .i64 n] w fun e w' => e = .returned (.tuple #[.int .i64 (wkV n), .int .i64 (mE n)]) ∧ w' = w := by
  unfold wkV mE
  by_cases h : 0 ≤ n ∧ n ≤ 3155759999
  · rw [decide_eq_true h]
    obtain ⟨h0, h1⟩ := h
    go_enter Tryd.func17, Tryd.ntmps17
    go_wp2
    go_ret2
    exact ⟨ret_two (by simp) (by simp), rfl⟩
  · rw [decide_eq_false h]
    go_enter Tryd.func17, Tryd.ntmps17
    by_cases h0 : n < 0
    · go_wp2
      go_ret2
      exact ⟨ret_two (by simp) (by simp), rfl⟩
    · have h1 : 3155759999 < n := by omega
      go_wp2
      go_ret2
      exact ⟨ret_two (by simp) (by simp), rfl⟩
theorem cat_mk (a b : Array UInt8) : (⟨a⟩ : ByteArray) ++ ⟨b⟩ = ⟨a ++ b⟩ := by
  apply ByteArray.ext
  simp [ByteArray.data_append]
/-- 'string(..)' of one or two bytes that are laid -/
theorem conv2 {y : World} {g : Nat} {A B : Int} (a0 : 0 ≤ A) (a1 : A < 10) (b0 : 0 ≤ B) (b1 : B < 10) (hg : y.heap[g]? = some (Obj.cells #[.int .u8 (48 + A), .int .u8 (48 + B)] 5)) :
    (convert 48 9 (.slice (some ⟨g, 0, none⟩) 2 2)).run Tryd.prog y = .ok (.string ⟨#[dc A, dc B]⟩) y := by
  refine run_convert_bytes_back _ 48 9 5 ⟨g, 0, none⟩ 2 [dc A, dc B] Tryd.underlying48 Tryd.underlying5 Tryd.underlying9 ?_
  refine Lib.bytes_of_row hg ?_
  simp [Lib.byteCells, dc_nat a0 a1, dc_nat b0 b1]
theorem conv1 {y : World} {g : Nat} {A : Int} (a0 : 0 ≤ A) (a1 : A < 10) (hg : y.heap[g]? = some (Obj.cells #[.int .u8 (48 + A)] 5)) :
    (convert 48 9 (.slice (some ⟨g, 0, none⟩) 1 1)).run Tryd.prog y = .ok (.string ⟨#[dc A]⟩) y := by
  refine run_convert_bytes_back _ 48 9 5 ⟨g, 0, none⟩ 1 [dc A] Tryd.underlying48 Tryd.underlying5 Tryd.underlying9 ?_
  refine Lib.bytes_of_row hg ?_
  simp [Lib.byteCells, dc_nat a0 a1]
set_option maxRecDepth 100000 in
set_option maxHeartbeats 400000 in
theorem two_any (n : Int) (h0 : 0 ≤ n) (h1 : n < 1000) (w : World) : Calls Tryd.prog 38 #[.int .i64 n] w fun e w' => e = .returned (.string ⟨#[dc (n / 10 % 10), dc (n % 10)]⟩) ∧ Below w.heap.size w w' := by
  obtain ⟨A, hA⟩ : ∃ A, n / 10 % 10 = A := ⟨_, rfl⟩
  obtain ⟨B, hB⟩ : ∃ A, n % 10 = A := ⟨_, rfl⟩
  have d1 : 0 ≤ A := by omega
  have d2 : A < 10 := by omega
  have d3 : 0 ≤ B := by omega
  have d4 : B < 10 := by omega
  have d5 : IntKind.u8.wrap (48 + A) = 48 + A := wrap_u8 _ (by omega) (by omega)
  have d6 : IntKind.u8.wrap (48 + B) = 48 + B := wrap_u8 _ (by omega) (by omega)
  rw [hA, hB]
  go_enter Tryd.func38, Tryd.ntmps38
  have cv := conv2 d1 d2 d3 d4 (h1_0 w _)
  go_wp2
  go_ret
  exact ⟨rfl, below_one w _⟩
set_option maxRecDepth 100000 in
set_option maxHeartbeats 400000 in
theorem three_any (n : Int) (h0 : 0 ≤ n) (h1 : n < 1000) (w : World) : Calls Tryd.prog 39 #[.int .i64 n] w fun e w' => e = .returned (.string ⟨#[dc (n / 100 % 10), dc (n / 10 % 10), dc (n % 10)]⟩) ∧ Below w.heap.size w w' := by
  have c2 := fun x => two_any n h0 h1 x
  obtain ⟨Q, hQ⟩ : ∃ A, n / 100 = A := ⟨_, rfl⟩
  obtain ⟨A, hA⟩ : ∃ A, n / 100 % 10 = A := ⟨_, rfl⟩
  have t1 : n.tdiv 100 = Q := by rw [Int.tdiv_eq_ediv_of_nonneg h0, hQ]
  have t2 : IntKind.i64.wrap Q = Q := wrap_i64 _ (by omega) (by omega)
  have t3 : Q.tmod 10 = A := by rw [Int.tmod_eq_emod_of_nonneg (by omega), ← hQ, hA]
  have t4 : IntKind.i64.wrap (48 + A) = 48 + A := wrap_i64 _ (by omega) (by omega)
  have d1 : 0 ≤ A := by omega
  have d2 : A < 10 := by omega
  have d5 : IntKind.u8.wrap (48 + A) = 48 + A := wrap_u8 _ (by omega) (by omega)
  generalize dc (n / 10 % 10) = b at *
  generalize dc (n % 10) = c at *
  rw [hA]
  clear hA hQ
  have cv : ∀ x : World, (convert 48 9 (.slice (some ⟨x.heap.size, 0, none⟩) 1 1)).run Tryd.prog (x.alloc (Obj.cells #[.int .u8 (48 + A)] 5)) = .ok (.string ⟨#[dc A]⟩) (x.alloc (Obj.cells #[.int .u8 (48 + A)] 5)) := fun x => conv1 d1 d2 (h1_0 x _)
  have cvd : ∀ x : World, (convert 48 9 (.slice (some ⟨x.heap.size, 0, none⟩) 1 1)).run Tryd.prog ((x.alloc (Obj.cells #[.int .u8 (48 + A)] 5)).drew) = .ok (.string ⟨#[dc A]⟩) ((x.alloc (Obj.cells #[.int .u8 (48 + A)] 5)).drew) := fun x => conv1 d1 d2 (h1_0 x _)
  go_enter Tryd.func39, Tryd.ntmps39
  go_wp2_with fail
  go_region_with (first
    | (go_at_call 38; refine (c2 _).mono ?_; rintro e y ⟨rfl, hy⟩; have cvy := conv1 d1 d2 (kept hy (h1_0 w _)); have hy2 := keepB (below_drewN (below_one w _) 1) hy)
    | (go_at_call 38; refine (c2 _).mono ?_; rintro e y ⟨rfl, hy⟩; have hy2 : Below w.heap.size w y := keepB (below_drewN (Below.refl _ w) 1) hy; have cvy := cvd y))
  all_goals
    go_wp2
    go_ret
    exact ⟨ret_str (cat_mk _ _), by first | exact hy2 | exact keepB hy2 (below_one _ _)⟩
set_option maxRecDepth 100000 in
set_option maxHeartbeats 1600000 in
theorem stampr_date (n : Int) (hn : decide (0 ≤ n ∧ n ≤ 3155759999) = false) (w : World) : Calls Tryd.prog 19 #[.int .i64 n] w fun e w' => e = .returned (.tuple #[.string ⟨#[]⟩, .int .i64 80]) ∧ Below w.heap.size w w' := by
  have c := fun x => dater_bad n hn x
  unfold dt at c
  clear hn
  go_enter Tryd.func19, Tryd.ntmps19
  go_wp2_with fail
  refine (c _).mono ?_
  rintro e x ⟨rfl, hb⟩
  go_wp2_with fail
  go_ret2
  refine ⟨rfl, ?_⟩
  first | exact hb | exact keepB hb (below_one _ _)
theorem two_p (n : Int) (h : 0 ≤ n ∧ n < 100) (w : World) : Calls Tryd.prog 38 #[.int .i64 n] w fun e w' => e = .returned (.string ⟨#[dc (n / 10), dc (n % 10)]⟩) ∧ Below w.heap.size w w' := by
  rw [show n / 10 = n / 10 % 10 by omega]
  exact two_any n h.1 (by omega) w
set_option maxRecDepth 100000 in
set_option maxHeartbeats 1600000 in
theorem stampr_good (n : Int) (h0 : 0 ≤ n) (h1 : n ≤ 3155759999) (w : World) : Calls Tryd.prog 19 #[.int .i64 n] w fun e w' => (∃ Y M D, IsDay (n / 86400) Y M D ∧ e = .returned (.tuple #[.string ⟨(prL [M, D, n % 86400 / 3600, n % 3600 / 60, n % 60]).toArray⟩, .int .i64 0])) ∧ Below w.heap.size w w' := by
  have c := dater_good n h0 h1 w
  obtain ⟨H, hH⟩ : ∃ H, n % 86400 / 3600 = H := ⟨_, rfl⟩
  obtain ⟨I, hI⟩ : ∃ H, n % 3600 / 60 = H := ⟨_, rfl⟩
  obtain ⟨S, hS⟩ : ∃ H, n % 60 = H := ⟨_, rfl⟩
  have bH : 0 ≤ H ∧ H < 100 := by omega
  have bI : 0 ≤ I ∧ I < 100 := by omega
  have bS : 0 ≤ S ∧ S < 100 := by omega
  rw [hH, hI, hS] at c ⊢
  clear hH hI hS
  unfold dt at c
  go_enter Tryd.func19, Tryd.ntmps19
  go_wp2_with fail
  refine c.mono ?_
  rintro e x ⟨⟨Y, M, D, hd, rfl⟩, hb⟩
  have dd1 := dm_bd Y hd.m0 hd.m1
  have bM : 0 ≤ M ∧ M < 100 := by have := hd.m0; have := hd.m1; omega
  have bD : 0 ≤ D ∧ D < 100 := by have := hd.d0; have := hd.d1; omega
  obtain ⟨pM, eM⟩ : ∃ t, dc (M / 10) = t := ⟨_, rfl⟩
  obtain ⟨qM, fM⟩ : ∃ t, dc (M % 10) = t := ⟨_, rfl⟩
  obtain ⟨pD, eD⟩ : ∃ t, dc (D / 10) = t := ⟨_, rfl⟩
  obtain ⟨qD, fD⟩ : ∃ t, dc (D % 10) = t := ⟨_, rfl⟩
  obtain ⟨pH, eH⟩ : ∃ t, dc (H / 10) = t := ⟨_, rfl⟩
  obtain ⟨qH, fH⟩ : ∃ t, dc (H % 10) = t := ⟨_, rfl⟩
  obtain ⟨pI, eI⟩ : ∃ t, dc (I / 10) = t := ⟨_, rfl⟩
  obtain ⟨qI, fI⟩ : ∃ t, dc (I % 10) = t := ⟨_, rfl⟩
  obtain ⟨pS, eS⟩ : ∃ t, dc (S / 10) = t := ⟨_, rfl⟩
  obtain ⟨qS, fS⟩ : ∃ t, dc (S % 10) = t := ⟨_, rfl⟩
  have cM := fun y => two_p M bM y
  have cD := fun y => two_p D bD y
  have cH := fun y => two_p H bH y
  have cI := fun y => two_p I bI y
  have cS := fun y => two_p S bS y
  rw [eM, fM] at cM
  rw [eD, fD] at cD
  rw [eH, fH] at cH
  rw [eI, fI] at cI
  rw [eS, fS] at cS
  have hfin : Hid ((⟨#[pM, qM]⟩ : ByteArray) ++ ⟨#[pD, qD]⟩ ++ ⟨#[pH, qH]⟩ ++ ⟨#[pI, qI]⟩ ++ ⟨#[pS, qS]⟩ = ⟨(prL [M, D, H, I, S]).toArray⟩) := by
    show _ = _
    rw [cat_mk, cat_mk, cat_mk, cat_mk]
    simp [prL, eM, eD, eH, eI, eS, fM, fD, fH, fI, fS]
  clear eM eD eH eI eS fM fD fH fI fS
  go_wp2_with fail
  obtain ⟨X, hX⟩ : ∃ X, X = x.alloc (Obj.cells #[.int .i64 Y, .int .i64 M, .int .i64 D, .int .i64 H, .int .i64 I, .int .i64 S] 23) := ⟨_, rfl⟩
  have SX : Six X x.heap.size Y M D H I S := by rw [hX]; exact h1_0 x _
  have BX : Below w.heap.size w X := by rw [hX]; exact keepB hb (below_one _ _)
  have hlt : x.heap.size < X.heap.size := (Array.getElem?_eq_some_iff.1 SX).1
  rw [← hX]
  obtain ⟨r0, r1, r2, r3, r4, r5⟩ := SX.at
  clear hX c bH bI bS bM bD dd1
  refine Ql.region_cl (by kernel_rfl) (by kernel_rfl) ?_
  repeat (refine wpQuiet_step (fun K hK => ?_); first
    | (refine Ql.q_cell (by rfl) 3 _ rfl x.heap.size 1 rfl _ r1 hlt Tryd.isAgg3 (hK _ ?_); clear hK K)
    | (refine Ql.q_cell (by rfl) 3 _ rfl x.heap.size 2 rfl _ r2 hlt Tryd.isAgg3 (hK _ ?_); clear hK K)
    | (refine Ql.q_cell (by rfl) 3 _ rfl x.heap.size 3 rfl _ r3 hlt Tryd.isAgg3 (hK _ ?_); clear hK K)
    | (refine Ql.q_cell (by rfl) 3 _ rfl x.heap.size 4 rfl _ r4 hlt Tryd.isAgg3 (hK _ ?_); clear hK K)
    | (refine Ql.q_cell (by rfl) 3 _ rfl x.heap.size 5 rfl _ r5 hlt Tryd.isAgg3 (hK _ ?_); clear hK K)
    | (go_simp; apply Exists.intro; refine ⟨fun y hy => ?_, hK _ ?_⟩; (first
        | (go_at_call_of 38 (Value.int .i64 M); exact Ql.cl_of hy (cM y))
        | (go_at_call_of 38 (Value.int .i64 D); exact Ql.cl_of hy (cD y))
        | (go_at_call_of 38 (Value.int .i64 H); exact Ql.cl_of hy (cH y))
        | (go_at_call_of 38 (Value.int .i64 I); exact Ql.cl_of hy (cI y))
        | (go_at_call_of 38 (Value.int .i64 S); exact Ql.cl_of hy (cS y))); clear hK K)
    | (go_simp; refine hK _ ?_; clear hK K)
    | (go_simp; refine ⟨_, fun _ _ => rfl, hK _ ?_⟩; clear hK K)
    | (go_simp; refine ⟨_, fun _ _ => ⟨rfl, rfl⟩, hK _ ?_⟩; clear hK K))
  refine wpQuiet_nil ?_
  intro y1 hy1
  replace hy1 : Below X.heap.size X y1 := hy1
  have B1 := keepB BX hy1
  clear r0 r1 r2 r3 r4 r5 cM cD cH cI cS
  go_wp2
  go_ret2
  exact ⟨⟨Y, M, D, hd, by rw [← hfin.out]; rfl⟩, B1⟩
end Go.Proofs.YtpocbaaogkabeaaDoor.Rt
