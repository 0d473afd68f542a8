import Derived.Test.YtciblmdpngnakaaQv07
import Derived.Test.YtciblmdpngnakaaQv06
import Derived.Laws.Tables
import Derived.Great.BuildSlice
/- The round keys. -/
namespace Go.Proofs.Ytciblmdpngnakaa.Rk
set_option linter.unusedVariables false
open Go.RowKit Pla Cb Tk Sm Wd Tb
/-- the cells of a part's round keys -/
def kf (key : List Bool) (i : Nat) : Nat := val (grp (rk key (i / 8)) (i % 8))
theorem z48 : (Try.prog.info? 72).map (fun i => (i.zero, i.size)) = some (some (.agg (byC 128 fun _ => 0)), 128) := by kernel_rfl
theorem h48 (v : Nat → Nat) : (Try.prog.info? 72).map (·.size) = some (byC 128 v).size := by rw [byC_size]; kernel_rfl
theorem k1_ok : ∀ n ∈ tK1, 1 ≤ n ∧ n ≤ 64 := by decide
theorem k2_ok : ∀ n ∈ tK2, 1 ≤ n ∧ n ≤ 56 := by decide
theorem turned_any (t x y : Nat) (ht : t = 1 ∨ t = 2) (hx : x < 268435456) (hy : y < 268435456) (w : World) : Calls Try.prog 68 #[.agg #[.int .u32 (x : Int), .int .u32 (y : Int)], .int .i64 (t : Int), .int .i64 28] w fun e w' => e = .returned (.agg #[.int .u32 (rotN t x : Int), .int .u32 (rotN t y : Int)]) ∧ Below w.heap.size w w' := by
  rcases ht with rfl | rfl
  · exact turned1 x y hx hy w
  · exact turned2 x y hx hy w
theorem places_same (n : Nat) (z : Int) (hz : z = ((n : Nat) : Int)) (w : World) : Calls Try.prog 69 #[.int .i64 z] w fun e w' => e = .returned (.int .i64 (turns n : Int)) ∧ w' = w := hz ▸ places_any n w
theorem put_keys {key : List Bool} {j b : Nat} {y : World} {t : TypeId} {fr : Nat × Nat} (h : y.heap[b]? = some (.cells (byC 128 (up (kf key) (8 * j))) t fr)) (hj : j < 16) :
    (y.setCells b (j * 8) (byC 8 fun i => kf key (8 * j + i)).toList).heap[b]? = some (.cells (byC 128 (up (kf key) (8 * (j + 1)))) t fr) := by
  have := setCells_heap (byC 8 fun i => kf key (8 * j + i)).toList (8 * j) h
  rw [put_up 128 8 j (kf key) (by omega)] at this
  rw [Nat.mul_comm j 8]; exact this
theorem st {x0 : Nat} {a y0 y : World} {u v : Value} (hx : x0 < a.heap.size) (hy : Below y0.heap.size y0 y) (hS : y0.cell? ⟨x0, 0, none⟩ = some u ∧ y0.cell? ⟨x0, 1, none⟩ = some v ∧ y0.frozen? ⟨x0, 0, none⟩ = false ∧ y0.frozen? ⟨x0, 1, none⟩ = false ∧ Below x0 a y0) :
    y.cell? ⟨x0, 0, none⟩ = some u ∧ y.cell? ⟨x0, 1, none⟩ = some v ∧ y.frozen? ⟨x0, 0, none⟩ = false ∧ y.frozen? ⟨x0, 1, none⟩ = false ∧ Below x0 a y := by
  obtain ⟨h0, h1, f0, f1, hb⟩ := hS
  have hs := hb.size
  have e : y.heap[x0]? = y0.heap[x0]? := hy.block x0 (by omega)
  refine ⟨?_, ?_, ?_, ?_, hb.trans (hy.mono (by omega))⟩
  · rw [← h0]; simp only [World.cell?, e]
  · rw [← h1]; simp only [World.cell?, e]
  · rw [← f0]; simp only [World.frozen?, e]
  · rw [← f1]; simp only [World.frozen?, e]
set_option maxRecDepth 100000 in
set_option maxHeartbeats 3200000 in
theorem keys_any (key : List Bool) (hk : Hid (key.length = 64)) (w : World) :
    Calls Try.prog 49 #[.int .u64 (val key : Int)] w fun e w' => e = .returned (.agg (byC 128 (kf key))) ∧ Below w.heap.size w w' := by
  have hz := (zero_of_info z48).1
  go_enter Try.func49, Try.ntmps49
  have e28 : ∀ n, (val (hlv key n).1 < 268435456 ∧ val (hlv key n).2 < 268435456) := fun n => by
    have l := hlv_len key n
    have v1 := val_lt (hlv key n).1
    have v2 := val_lt (hlv key n).2
    rw [l.1] at v1
    rw [l.2] at v2
    exact ⟨v1, v2⟩
  have ec : Hid (val (tk tK1 key) = val (hlv key 0).1 * 268435456 + val (hlv key 0).2) := by
    show _ = _
    have := val_append (hlv key 0).1 (hlv key 0).2
    rw [(hlv_len key 0).2] at this
    rw [← this]
    simp only [hlv, List.take_append_drop]
  go_wp2_with (first
    | (go_at_call 67; refine (tabK1_any _).mono ?_; rintro e x ⟨rfl, rfl⟩)
    | (go_at_call 66; refine (take_any key tK1 64 56 (w.heap.size + 1 + 1) (0, 0) hk rfl _ (h3_2 w _ _ _) k1_ok (by decide) (by decide)).mono ?_; rintro e x2 ⟨rfl, rfl⟩; rw [ec.out])
    | (go_at_call 65; refine (cut28 (val (hlv key 0).1) (val (hlv key 0).2) (e28 0).1 (e28 0).2 _).mono ?_; rintro e x ⟨rfl, hx⟩))
  have b0 : Below w.heap.size w x := keepB (below_three w _ _ _) hx
  have sx : w.heap.size + 1 + 1 < x.heap.size := by have := hx.size; simp at this; omega
  have r0 : x.heap[w.heap.size]? = some (.cells (byC 128 fun _ => 0) 72) := kept hx (h3_0 w _ _ _)
  have r1 : x.heap[w.heap.size + 1]? = some (.cells (byC 128 (up (kf key) (8 * 0))) 72) := by rw [Nat.mul_zero, ← up_zero]; exact kept hx (h3_1 w _ _ _)
  have HK : Hid (∀ n, n < 16 → (byC 8 fun j => val (grp (tk tK2 ((hlv key (n + 1)).1 ++ (hlv key (n + 1)).2)) j)) = byC 8 fun i => kf key (8 * n + i)) := by
    show ∀ _, _
    intro n hn
    refine byC_ext fun i hi => ?_
    rw [kf, show (8 * n + i) / 8 = n by omega, show (8 * n + i) % 8 = i by omega]; rfl
  have hR : Hid (∀ n, val (hlv key (n + 1)).1 = rotN (turns (n + 1)) (val (hlv key n).1) ∧ val (hlv key (n + 1)).2 = rotN (turns (n + 1)) (val (hlv key n).2)) := by
    show ∀ _, _
    intro n
    have t := turns_le (n + 1)
    exact ⟨(rotN_val _ _ (hlv_len key n).1 (by omega)).symm, (rotN_val _ _ (hlv_len key n).2 (by omega)).symm⟩
  have hJ : Hid (∀ n, val ((hlv key n).1 ++ (hlv key n).2) = val (hlv key n).1 * 268435456 + val (hlv key n).2) := by
    show ∀ _, _
    intro n
    rw [val_append, (hlv_len key n).2]
  clear hx ec hk
  go_loopw [5, 10] (fun i c wr => ∃ j : Nat, j ≤ 16 ∧ c = .int .i64 (j : Int) ∧ wr.heap[w.heap.size]? = some (.cells (byC 128 fun _ => 0) 72) ∧ wr.heap[w.heap.size + 1]? = some (.cells (byC 128 (up (kf key) (8 * j))) 72) ∧ wr.heap[x.heap.size]? = some (.cells #[.int .u32 (val (hlv key j).1 : Int), .int .u32 (val (hlv key j).2 : Int)] 88) ∧ Below w.heap.size w wr) (fun _ c _ => 17 - (intOf c).toNat)
  case atStart => exact ⟨0, by omega, rfl, (Below.heap_alloc _ _ _ (by omega)).trans r0, (Below.heap_alloc _ _ _ (by omega)).trans r1, h1_0 _ _, b0.alloc (by omega) _⟩
  case round =>
    obtain ⟨j, hj, rfl, g0, g1, g2, hb⟩ := hrel
    have hbs := hb.size
    by_cases hj2 : j < 16
    · have q : (j : Int) < 16 := by omega
      have q0 : (0 : Int) ≤ (j : Int) := by omega
      obtain ⟨c0, c1, f0, f1⟩ := held2 (Below.refl wr.heap.size wr) g2
      have hxl : x.heap.size < wr.heap.size := (Array.getElem?_eq_some_iff.1 g2).1
      have wj : IntKind.i64.wrap ((j : Int) + 1) = (j : Int) + 1 := by rw [IntKind.wrap_i64]; omega
      have PL : ∀ y, Calls Try.prog 69 #[.int .i64 ((j : Int) + 1)] y fun e w' => e = .returned (.int .i64 (turns (j + 1) : Int)) ∧ w' = y := fun y => places_any (j + 1) y
      have ht : turns (j + 1) = 1 ∨ turns (j + 1) = 2 := by unfold turns; split <;> simp
      have TU := fun y => turned_any (turns (j + 1)) _ _ ht (e28 j).1 (e28 j).2 y
      rw [← (hR.out j).1, ← (hR.out j).2] at TU
      have z1 := e28 (j + 1)
      have HKj : Hid (_ = _) := HK.out j hj2
      have hJj : Hid (_ = _) := hJ.out (j + 1)
      have hl := hlv_len key (j + 1)
      have hlen : Hid (((hlv key (j + 1)).1 ++ (hlv key (j + 1)).2).length = 56) := (by rw [List.length_append, hl.1, hl.2] : ((hlv key (j + 1)).1 ++ (hlv key (j + 1)).2).length = 56)
      clear HK hR hJ e28 hl r0 r1 hz b0
      generalize turns (j + 1) = T at *
      go_wp2_with fail
      go_region_with (first
          | (go_at_call 69; refine (PL _).mono ?_; rintro e y ⟨rfl, rfl⟩)
          | (go_at_call 68; refine (TU _).mono ?_; rintro e y ⟨rfl, hy⟩; obtain ⟨d0, d1, p0, p1⟩ := held2 (keepB (Below.refl wr.heap.size wr).drew hy) g2))
      all_goals
        have hy0 : Below wr.heap.size wr y := keepB (Below.refl wr.heap.size wr).drew hy
        have e0 := setCell_heap (setCell_heap (kept hy0 g2) 0 (.int .u32 (val (hlv key (j + 1)).1 : Int))) 1 (.int .u32 (val (hlv key (j + 1)).2 : Int))
        have e1 := ((setCell_ne (show x.heap.size ≠ w.heap.size by omega) 1 (.int .u32 (val (hlv key (j + 1)).2 : Int))).trans ((setCell_ne (w := y) (show x.heap.size ≠ w.heap.size by omega) 0 (.int .u32 (val (hlv key (j + 1)).1 : Int))))).trans (kept hy0 g0)
        have e2 := ((setCell_ne (show x.heap.size ≠ w.heap.size + 1 by omega) 1 (.int .u32 (val (hlv key (j + 1)).2 : Int))).trans ((setCell_ne (w := y) (show x.heap.size ≠ w.heap.size + 1 by omega) 0 (.int .u32 (val (hlv key (j + 1)).1 : Int))))).trans (kept hy0 g1)
        have e3 := below_setCell (below_setCell (keepB hb hy0) (show w.heap.size ≤ x.heap.size by omega) 0 (.int .u32 (val (hlv key (j + 1)).1 : Int))) (show w.heap.size ≤ x.heap.size by omega) 1 (.int .u32 (val (hlv key (j + 1)).2 : Int))
        generalize ((y.setCell ⟨x.heap.size, 0, none⟩ (.int .u32 (val (hlv key (j + 1)).1 : Int))).setCell ⟨x.heap.size, 1, none⟩ (.int .u32 (val (hlv key (j + 1)).2 : Int))) = W2 at *
        have e0' : W2.heap[x.heap.size]? = some (.cells #[.int .u32 (val (hlv key (j + 1)).1 : Int), .int .u32 (val (hlv key (j + 1)).2 : Int)] 88) := e0
        have IG := fun y => inGroups_any (tk tK2 ((hlv key (j + 1)).1 ++ (hlv key (j + 1)).2)) (tk_len _ _) y
        clear c0 c1 f0 f1 d0 d1 p0 p1
        obtain ⟨c0, c1, f0, f1⟩ := held2 (Below.refl W2.heap.size W2) e0'
        clear e0 hy0 hy f0 f1 g0 g1 g2 hb hbs TU PL wj
        go_wp2_with (first
          | (go_at_call 71; refine (join28 _ _ z1.1 z1.2 _).mono ?_; rintro e y1 ⟨rfl, hy1⟩; rw [← hJj.out]; have e4 := keepB e3 hy1)
          | (go_at_call 72; refine (tabK2_any _).mono ?_; rintro e x2 ⟨rfl, rfl⟩)
          | (go_at_call 66; refine (take_any _ tK2 56 48 y1.heap.size (0, 0) hlen rfl _ (h1_0 y1 _) k2_ok (by decide) (by decide)).mono ?_; rintro e x3 ⟨rfl, rfl⟩)
          | (go_at_call 70; refine (IG _).mono ?_; rintro e y2 ⟨rfl, hy2⟩; rw [HKj.out]; have m2 : Below W2.heap.size W2 y2 := keepB (keepB hy1 (below_one y1 _)) hy2; have m3 := kept m2 e2; have m1 := kept m2 e1; have m0 := kept m2 e0'; have m4 := keepB e3 m2; have SC := run_sc (P := Try.prog) (cells := byC 8 fun i => kf key (8 * j + i)) (there_of m3 (j * 8) _ (by simp only [byC_size]; omega)) (byC_one _ _)))
        have n3 := put_keys m3 hj2
        exact ⟨⟨j + 1, by omega, by simp, (setCells_ne (by omega) _ _ _).trans m1, n3, (setCells_ne (by omega) _ _ _).trans m0, below_setCells (by omega) _ _ m4⟩, by simp only [intOf]; omega⟩
    · obtain rfl : j = 16 := by omega
      have b0 := hb
      go_wp2_with (first
        | (refine wpList_load_row rfl 72 _ rfl (w.heap.size + 1) rfl _ _ _ _ g1 Try.underlying72 rfl (h48 _) ?_)
        | (refine wpList_store_row rfl 72 _ _ rfl w.heap.size _ rfl rfl _ _ g0 (h48 _) (by rw [byC_size, byC_size]) (byC_one _ _) ?_))
      exact bodyPost_ret (v := .agg (byC 128 (up (kf key) (8 * 16)))) (results_cell_row rfl _ _ w.heap.size _ _ _ _ rfl (setRow_at g0 _) Try.underlying72 rfl (h48 _)) rfl ⟨by rw [show 8 * 16 = 128 from rfl, up_all], below_setRow b0 (Nat.le_refl _) _⟩
end Go.Proofs.Ytciblmdpngnakaa.Rk
/- The boxes. -/
namespace Go.Proofs.Ytciblmdpngnakaa.Ab
set_option linter.unusedVariables false
open Go.RowKit Pla Cb
theorem z80 : (Try.prog.info? 115).map (fun i => (i.zero, i.size)) = some (some (.agg (byC 512 fun _ => 0)), 512) := by kernel_rfl
theorem h80 : (Try.prog.info? 115).map (·.size) = some (tabC boxL).size := by kernel_rfl
set_option maxRecDepth 1000000 in
theorem tab_one (l : List Nat) : (tabC l).all (·.oneCell') = true := by
  simp only [tabC, List.all_toArray, List.all_eq_true, List.mem_map]
  rintro x ⟨i, _, rfl⟩; rfl
def r0 : List Nat := [14, 4, 13, 1, 2, 15, 11, 8, 3, 10, 6, 12, 5, 9, 0, 7]
def r1 : List Nat := [0, 15, 7, 4, 14, 2, 13, 1, 10, 6, 12, 11, 9, 5, 3, 8]
def r2 : List Nat := [4, 1, 14, 8, 13, 6, 2, 11, 15, 12, 9, 7, 3, 10, 5, 0]
def r3 : List Nat := [15, 12, 8, 2, 4, 9, 1, 7, 5, 11, 3, 14, 10, 0, 6, 13]
def r4 : List Nat := [15, 1, 8, 14, 6, 11, 3, 4, 9, 7, 2, 13, 12, 0, 5, 10]
def r5 : List Nat := [3, 13, 4, 7, 15, 2, 8, 14, 12, 0, 1, 10, 6, 9, 11, 5]
def r6 : List Nat := [0, 14, 7, 11, 10, 4, 13, 1, 5, 8, 12, 6, 9, 3, 2, 15]
def r7 : List Nat := [13, 8, 10, 1, 3, 15, 4, 2, 11, 6, 7, 12, 0, 5, 14, 9]
def r8 : List Nat := [10, 0, 9, 14, 6, 3, 15, 5, 1, 13, 12, 7, 11, 4, 2, 8]
def r9 : List Nat := [13, 7, 0, 9, 3, 4, 6, 10, 2, 8, 5, 14, 12, 11, 15, 1]
def r10 : List Nat := [13, 6, 4, 9, 8, 15, 3, 0, 11, 1, 2, 12, 5, 10, 14, 7]
def r11 : List Nat := [1, 10, 13, 0, 6, 9, 8, 7, 4, 15, 14, 3, 11, 5, 2, 12]
def r12 : List Nat := [7, 13, 14, 3, 0, 6, 9, 10, 1, 2, 8, 5, 11, 12, 4, 15]
def r13 : List Nat := [13, 8, 11, 5, 6, 15, 0, 3, 4, 7, 2, 12, 1, 10, 14, 9]
def r14 : List Nat := [10, 6, 9, 0, 12, 11, 7, 13, 15, 1, 3, 14, 5, 2, 8, 4]
def r15 : List Nat := [3, 15, 0, 6, 10, 1, 13, 8, 9, 4, 5, 11, 12, 7, 2, 14]
def r16 : List Nat := [2, 12, 4, 1, 7, 10, 11, 6, 8, 5, 3, 15, 13, 0, 14, 9]
def r17 : List Nat := [14, 11, 2, 12, 4, 7, 13, 1, 5, 0, 15, 10, 3, 9, 8, 6]
def r18 : List Nat := [4, 2, 1, 11, 10, 13, 7, 8, 15, 9, 12, 5, 6, 3, 0, 14]
def r19 : List Nat := [11, 8, 12, 7, 1, 14, 2, 13, 6, 15, 0, 9, 10, 4, 5, 3]
def r20 : List Nat := [12, 1, 10, 15, 9, 2, 6, 8, 0, 13, 3, 4, 14, 7, 5, 11]
def r21 : List Nat := [10, 15, 4, 2, 7, 12, 9, 5, 6, 1, 13, 14, 0, 11, 3, 8]
def r22 : List Nat := [9, 14, 15, 5, 2, 8, 12, 3, 7, 0, 4, 10, 1, 13, 11, 6]
def r23 : List Nat := [4, 3, 2, 12, 9, 5, 15, 10, 11, 14, 1, 7, 6, 0, 8, 13]
def r24 : List Nat := [4, 11, 2, 14, 15, 0, 8, 13, 3, 12, 9, 7, 5, 10, 6, 1]
def r25 : List Nat := [13, 0, 11, 7, 4, 9, 1, 10, 14, 3, 5, 12, 2, 15, 8, 6]
def r26 : List Nat := [1, 4, 11, 13, 12, 3, 7, 14, 10, 15, 6, 8, 0, 5, 9, 2]
def r27 : List Nat := [6, 11, 13, 8, 1, 4, 10, 7, 9, 5, 0, 15, 14, 2, 3, 12]
def r28 : List Nat := [13, 2, 8, 4, 6, 15, 11, 1, 10, 9, 3, 14, 5, 0, 12, 7]
def r29 : List Nat := [1, 15, 13, 8, 10, 3, 7, 4, 12, 5, 6, 11, 0, 14, 9, 2]
def r30 : List Nat := [7, 11, 4, 1, 9, 12, 14, 2, 0, 6, 10, 13, 15, 3, 5, 8]
def r31 : List Nat := [2, 1, 14, 7, 4, 10, 8, 13, 15, 12, 9, 0, 3, 5, 6, 11]
def q0 : List Nat := [14, 4, 13, 1, 2, 15, 11, 8, 3, 10, 6, 12, 5, 9, 0, 7, 0, 15, 7, 4, 14, 2, 13, 1, 10, 6, 12, 11, 9, 5, 3, 8, 4, 1, 14, 8, 13, 6, 2, 11, 15, 12, 9, 7, 3, 10, 5, 0, 15, 12, 8, 2, 4, 9, 1, 7, 5, 11, 3, 14, 10, 0, 6, 13]
def q1 : List Nat := [15, 1, 8, 14, 6, 11, 3, 4, 9, 7, 2, 13, 12, 0, 5, 10, 3, 13, 4, 7, 15, 2, 8, 14, 12, 0, 1, 10, 6, 9, 11, 5, 0, 14, 7, 11, 10, 4, 13, 1, 5, 8, 12, 6, 9, 3, 2, 15, 13, 8, 10, 1, 3, 15, 4, 2, 11, 6, 7, 12, 0, 5, 14, 9]
def q2 : List Nat := [10, 0, 9, 14, 6, 3, 15, 5, 1, 13, 12, 7, 11, 4, 2, 8, 13, 7, 0, 9, 3, 4, 6, 10, 2, 8, 5, 14, 12, 11, 15, 1, 13, 6, 4, 9, 8, 15, 3, 0, 11, 1, 2, 12, 5, 10, 14, 7, 1, 10, 13, 0, 6, 9, 8, 7, 4, 15, 14, 3, 11, 5, 2, 12]
def q3 : List Nat := [7, 13, 14, 3, 0, 6, 9, 10, 1, 2, 8, 5, 11, 12, 4, 15, 13, 8, 11, 5, 6, 15, 0, 3, 4, 7, 2, 12, 1, 10, 14, 9, 10, 6, 9, 0, 12, 11, 7, 13, 15, 1, 3, 14, 5, 2, 8, 4, 3, 15, 0, 6, 10, 1, 13, 8, 9, 4, 5, 11, 12, 7, 2, 14]
def q4 : List Nat := [2, 12, 4, 1, 7, 10, 11, 6, 8, 5, 3, 15, 13, 0, 14, 9, 14, 11, 2, 12, 4, 7, 13, 1, 5, 0, 15, 10, 3, 9, 8, 6, 4, 2, 1, 11, 10, 13, 7, 8, 15, 9, 12, 5, 6, 3, 0, 14, 11, 8, 12, 7, 1, 14, 2, 13, 6, 15, 0, 9, 10, 4, 5, 3]
def q5 : List Nat := [12, 1, 10, 15, 9, 2, 6, 8, 0, 13, 3, 4, 14, 7, 5, 11, 10, 15, 4, 2, 7, 12, 9, 5, 6, 1, 13, 14, 0, 11, 3, 8, 9, 14, 15, 5, 2, 8, 12, 3, 7, 0, 4, 10, 1, 13, 11, 6, 4, 3, 2, 12, 9, 5, 15, 10, 11, 14, 1, 7, 6, 0, 8, 13]
def q6 : List Nat := [4, 11, 2, 14, 15, 0, 8, 13, 3, 12, 9, 7, 5, 10, 6, 1, 13, 0, 11, 7, 4, 9, 1, 10, 14, 3, 5, 12, 2, 15, 8, 6, 1, 4, 11, 13, 12, 3, 7, 14, 10, 15, 6, 8, 0, 5, 9, 2, 6, 11, 13, 8, 1, 4, 10, 7, 9, 5, 0, 15, 14, 2, 3, 12]
def q7 : List Nat := [13, 2, 8, 4, 6, 15, 11, 1, 10, 9, 3, 14, 5, 0, 12, 7, 1, 15, 13, 8, 10, 3, 7, 4, 12, 5, 6, 11, 0, 14, 9, 2, 7, 11, 4, 1, 9, 12, 14, 2, 0, 6, 10, 13, 15, 3, 5, 8, 2, 1, 14, 7, 4, 10, 8, 13, 15, 12, 9, 0, 3, 5, 6, 11]
set_option maxRecDepth 1000000 in
set_option maxHeartbeats 1600000 in
theorem boxes_any (w : World) : Calls Try.prog 85 #[] w fun e w' => e = .returned (.agg (tabC boxL)) ∧ Below w.heap.size w w' := by
  have hz := (zero_of_info z80).1
  go_enter Try.func85, Try.ntmps85
  refine wp_seq_k (fun K hK => ?_)
  have HK : Hid (∀ a w, _ → K a w) := hK
  clear hK
  go_wp2_with fail
  refine HK.out _ _ ?_
  clear HK K
  refine wp_seq_k (fun K hK => ?_)
  have HK : Hid (∀ a w, _ → K a w) := hK
  clear hK
  apply wp_region_lit
  refine wpList_buildTo rfl 112 _ rfl _ rfl (tabC r0) (by kernel_rfl) ?_
  refine wpList_buildTo rfl 112 _ rfl _ rfl (tabC r1) (by kernel_rfl) ?_
  refine wpList_buildTo rfl 112 _ rfl _ rfl (tabC r2) (by kernel_rfl) ?_
  refine wpList_buildTo rfl 112 _ rfl _ rfl (tabC r3) (by kernel_rfl) ?_
  refine wpList_buildTo rfl 113 _ rfl _ rfl (tabC q0) (by kernel_rfl) ?_
  refine wpList_buildTo rfl 112 _ rfl _ rfl (tabC r4) (by kernel_rfl) ?_
  refine wpList_buildTo rfl 112 _ rfl _ rfl (tabC r5) (by kernel_rfl) ?_
  refine wpList_buildTo rfl 112 _ rfl _ rfl (tabC r6) (by kernel_rfl) ?_
  refine wpList_buildTo rfl 112 _ rfl _ rfl (tabC r7) (by kernel_rfl) ?_
  refine wpList_buildTo rfl 113 _ rfl _ rfl (tabC q1) (by kernel_rfl) ?_
  refine wpList_buildTo rfl 112 _ rfl _ rfl (tabC r8) (by kernel_rfl) ?_
  refine wpList_buildTo rfl 112 _ rfl _ rfl (tabC r9) (by kernel_rfl) ?_
  refine wpList_buildTo rfl 112 _ rfl _ rfl (tabC r10) (by kernel_rfl) ?_
  refine wpList_buildTo rfl 112 _ rfl _ rfl (tabC r11) (by kernel_rfl) ?_
  refine wpList_buildTo rfl 113 _ rfl _ rfl (tabC q2) (by kernel_rfl) ?_
  refine wpList_buildTo rfl 112 _ rfl _ rfl (tabC r12) (by kernel_rfl) ?_
  refine wpList_buildTo rfl 112 _ rfl _ rfl (tabC r13) (by kernel_rfl) ?_
  refine wpList_buildTo rfl 112 _ rfl _ rfl (tabC r14) (by kernel_rfl) ?_
  refine wpList_buildTo rfl 112 _ rfl _ rfl (tabC r15) (by kernel_rfl) ?_
  refine wpList_buildTo rfl 113 _ rfl _ rfl (tabC q3) (by kernel_rfl) ?_
  refine wpList_buildTo rfl 112 _ rfl _ rfl (tabC r16) (by kernel_rfl) ?_
  refine wpList_buildTo rfl 112 _ rfl _ rfl (tabC r17) (by kernel_rfl) ?_
  refine wpList_buildTo rfl 112 _ rfl _ rfl (tabC r18) (by kernel_rfl) ?_
  refine wpList_buildTo rfl 112 _ rfl _ rfl (tabC r19) (by kernel_rfl) ?_
  refine wpList_buildTo rfl 113 _ rfl _ rfl (tabC q4) (by kernel_rfl) ?_
  refine wpList_buildTo rfl 112 _ rfl _ rfl (tabC r20) (by kernel_rfl) ?_
  refine wpList_buildTo rfl 112 _ rfl _ rfl (tabC r21) (by kernel_rfl) ?_
  refine wpList_buildTo rfl 112 _ rfl _ rfl (tabC r22) (by kernel_rfl) ?_
  refine wpList_buildTo rfl 112 _ rfl _ rfl (tabC r23) (by kernel_rfl) ?_
  refine wpList_buildTo rfl 113 _ rfl _ rfl (tabC q5) (by kernel_rfl) ?_
  refine wpList_buildTo rfl 112 _ rfl _ rfl (tabC r24) (by kernel_rfl) ?_
  refine wpList_buildTo rfl 112 _ rfl _ rfl (tabC r25) (by kernel_rfl) ?_
  refine wpList_buildTo rfl 112 _ rfl _ rfl (tabC r26) (by kernel_rfl) ?_
  refine wpList_buildTo rfl 112 _ rfl _ rfl (tabC r27) (by kernel_rfl) ?_
  refine wpList_buildTo rfl 113 _ rfl _ rfl (tabC q6) (by kernel_rfl) ?_
  refine wpList_buildTo rfl 112 _ rfl _ rfl (tabC r28) (by kernel_rfl) ?_
  refine wpList_buildTo rfl 112 _ rfl _ rfl (tabC r29) (by kernel_rfl) ?_
  refine wpList_buildTo rfl 112 _ rfl _ rfl (tabC r30) (by kernel_rfl) ?_
  refine wpList_buildTo rfl 112 _ rfl _ rfl (tabC r31) (by kernel_rfl) ?_
  refine wpList_buildTo rfl 113 _ rfl _ rfl (tabC q7) (by kernel_rfl) ?_
  refine wpList_buildTo rfl 115 _ rfl _ rfl (tabC boxL) (by kernel_rfl) ?_
  refine wpList_store_row rfl 115 _ _ rfl w.heap.size (tabC boxL) (by kernel_rfl) (by kernel_rfl) _ (byC 512 fun _ => 0) (h1_0 w _) h80 (by kernel_rfl) (tab_one _) ?_
  refine HK.out _ _ ?_
  refine wp_ret ?_
  exact bodyPost_ret (v := .agg (tabC boxL)) (results_cell_row rfl _ _ w.heap.size _ _ _ _ (by kernel_rfl) (setRow_at (h1_0 w _) _) Try.underlying115 rfl h80) rfl ⟨rfl, below_setRow (below_one w _) (Nat.le_refl _) _⟩
end Go.Proofs.Ytciblmdpngnakaa.Ab
