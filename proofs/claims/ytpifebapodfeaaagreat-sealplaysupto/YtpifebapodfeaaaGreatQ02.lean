import Derived.Test.YtpifebapodfeaaaGreatQ01
import Derived.Test.YtpifebapodfeaaaGreatQ00
import Derived.Laws.Tables
import Derived.Great.BuildSlice
import Derived.Deep.QuietTactic
/- The round keys. -/
namespace Go.Proofs.YtpifebapodfeaaaGreat.Rk
set_option linter.unusedVariables false
open Go.RowKit Pla Cb Tk Sm Wd Tb
/-- the cells of a part's round keys -/
def kf (key : List Bool) (i : Nat) : Nat := val (grp (rk key (i / 8)) (i % 8))
theorem z48 : (Tryz.prog.info? 114).map (fun i => (i.zero, i.size)) = some (some (.agg (byC 128 fun _ => 0)), 128) := by kernel_rfl
theorem h48 (v : Nat → Nat) : (Tryz.prog.info? 114).map (·.size) = some (byC 128 v).size := by rw [byC_size]; kernel_rfl
theorem k1_ok : ∀ n ∈ tK1, 1 ≤ n ∧ n ≤ 64 := by decide
theorem k2_ok : ∀ n ∈ tK2, 1 ≤ n ∧ n ≤ 56 := by decide
theorem turned_any (t x y : Nat) (ht : t = 1 ∨ t = 2) (hx : x < 268435456) (hy : y < 268435456) (w : World) : Calls Tryz.prog 88 #[.agg #[.int .u32 (x : Int), .int .u32 (y : Int)], .int .i64 (t : Int), .int .i64 28] w fun e w' => e = .returned (.agg #[.int .u32 (rotN t x : Int), .int .u32 (rotN t y : Int)]) ∧ Below w.heap.size w w' := by
  rcases ht with rfl | rfl
  · exact turned1 x y hx hy w
  · exact turned2 x y hx hy w
theorem places_same (n : Nat) (z : Int) (hz : z = ((n : Nat) : Int)) (w : World) : Calls Tryz.prog 89 #[.int .i64 z] w fun e w' => e = .returned (.int .i64 (turns n : Int)) ∧ w' = w := hz ▸ places_any n w
theorem put_keys {key : List Bool} {j b : Nat} {y : World} {t : TypeId} {fr : Nat × Nat} (h : y.heap[b]? = some (.cells (byC 128 (up (kf key) (8 * j))) t fr)) (hj : j < 16) :
    (y.setCells b (j * 8) (byC 8 fun i => kf key (8 * j + i)).toList).heap[b]? = some (.cells (byC 128 (up (kf key) (8 * (j + 1)))) t fr) := by
  have := setCells_heap (byC 8 fun i => kf key (8 * j + i)).toList (8 * j) h
  rw [put_up 128 8 j (kf key) (by omega)] at this
  rw [Nat.mul_comm j 8]; exact this
theorem st {x0 : Nat} {a y0 y : World} {u v : Value} (hx : x0 < a.heap.size) (hy : Below y0.heap.size y0 y) (hS : y0.cell? ⟨x0, 0, none⟩ = some u ∧ y0.cell? ⟨x0, 1, none⟩ = some v ∧ y0.frozen? ⟨x0, 0, none⟩ = false ∧ y0.frozen? ⟨x0, 1, none⟩ = false ∧ Below x0 a y0) :
    y.cell? ⟨x0, 0, none⟩ = some u ∧ y.cell? ⟨x0, 1, none⟩ = some v ∧ y.frozen? ⟨x0, 0, none⟩ = false ∧ y.frozen? ⟨x0, 1, none⟩ = false ∧ Below x0 a y := by
  obtain ⟨h0, h1, f0, f1, hb⟩ := hS
  have hs := hb.size
  have e : y.heap[x0]? = y0.heap[x0]? := hy.block x0 (by omega)
  refine ⟨?_, ?_, ?_, ?_, hb.trans (hy.mono (by omega))⟩
  · rw [← h0]; simp only [World.cell?, e]
  · rw [← h1]; simp only [World.cell?, e]
  · rw [← f0]; simp only [World.frozen?, e]
  · rw [← f1]; simp only [World.frozen?, e]
set_option maxRecDepth 100000 in
set_option maxHeartbeats 3200000 in
theorem keys_any (key : List Bool) (hk : Hid (key.length = 64)) (w : World) :
    Calls Tryz.prog 68 #[.int .u64 (val key : Int)] w fun e w' => e = .returned (.agg (byC 128 (kf key))) ∧ Below w.heap.size w w' := by
  have hz := (zero_of_info z48).1
  go_enter Tryz.func68, Tryz.ntmps68
  have e28 : ∀ n, (val (hlv key n).1 < 268435456 ∧ val (hlv key n).2 < 268435456) := fun n => by
    have l := hlv_len key n
    have v1 := val_lt (hlv key n).1
    have v2 := val_lt (hlv key n).2
    rw [l.1] at v1
    rw [l.2] at v2
    exact ⟨v1, v2⟩
  have ec : Hid (val (tk tK1 key) = val (hlv key 0).1 * 268435456 + val (hlv key 0).2) := by
    show _ = _
    have := val_append (hlv key 0).1 (hlv key 0).2
    rw [(hlv_len key 0).2] at this
    rw [← this]
    simp only [hlv, List.take_append_drop]
  go_wp2_with (first
    | (go_at_call 87; refine (tabK1_any _).mono ?_; rintro e x ⟨rfl, rfl⟩)
    | (go_at_call 86; refine (take_any key tK1 64 56 (w.heap.size + 1 + 1) (0, 0) hk rfl _ (h3_2 w _ _ _) k1_ok (by decide) (by decide)).mono ?_; rintro e x2 ⟨rfl, rfl⟩; rw [ec.out])
    | (go_at_call 85; refine (cut28 (val (hlv key 0).1) (val (hlv key 0).2) (e28 0).1 (e28 0).2 _).mono ?_; rintro e x ⟨rfl, hx⟩))
  have b0 : Below w.heap.size w x := keepB (below_three w _ _ _) hx
  have sx : w.heap.size + 1 + 1 < x.heap.size := by have := hx.size; simp at this; omega
  have r0 : x.heap[w.heap.size]? = some (.cells (byC 128 fun _ => 0) 114) := kept hx (h3_0 w _ _ _)
  have r1 : x.heap[w.heap.size + 1]? = some (.cells (byC 128 (up (kf key) (8 * 0))) 114) := by rw [Nat.mul_zero, ← up_zero]; exact kept hx (h3_1 w _ _ _)
  have HK : Hid (∀ n, n < 16 → (byC 8 fun j => val (grp (tk tK2 ((hlv key (n + 1)).1 ++ (hlv key (n + 1)).2)) j)) = byC 8 fun i => kf key (8 * n + i)) := by
    show ∀ _, _
    intro n hn
    refine byC_ext fun i hi => ?_
    rw [kf, show (8 * n + i) / 8 = n by omega, show (8 * n + i) % 8 = i by omega]; rfl
  have hR : Hid (∀ n, val (hlv key (n + 1)).1 = rotN (turns (n + 1)) (val (hlv key n).1) ∧ val (hlv key (n + 1)).2 = rotN (turns (n + 1)) (val (hlv key n).2)) := by
    show ∀ _, _
    intro n
    have t := turns_le (n + 1)
    exact ⟨(rotN_val _ _ (hlv_len key n).1 (by omega)).symm, (rotN_val _ _ (hlv_len key n).2 (by omega)).symm⟩
  have hJ : Hid (∀ n, val ((hlv key n).1 ++ (hlv key n).2) = val (hlv key n).1 * 268435456 + val (hlv key n).2) := by
    show ∀ _, _
    intro n
    rw [val_append, (hlv_len key n).2]
  clear hx ec hk
  go_loopw [5, 10] (fun i c wr => ∃ j : Nat, j ≤ 16 ∧ c = .int .i64 (j : Int) ∧ wr.heap[w.heap.size]? = some (.cells (byC 128 fun _ => 0) 114) ∧ wr.heap[w.heap.size + 1]? = some (.cells (byC 128 (up (kf key) (8 * j))) 114) ∧ wr.heap[x.heap.size]? = some (.cells #[.int .u32 (val (hlv key j).1 : Int), .int .u32 (val (hlv key j).2 : Int)] 129) ∧ Below w.heap.size w wr) (fun _ c _ => 17 - (intOf c).toNat)
  case atStart => exact ⟨0, by omega, rfl, (Below.heap_alloc _ _ _ (by omega)).trans r0, (Below.heap_alloc _ _ _ (by omega)).trans r1, h1_0 _ _, b0.alloc (by omega) _⟩
  case round =>
    obtain ⟨j, hj, rfl, g0, g1, g2, hb⟩ := hrel
    have hbs := hb.size
    by_cases hj2 : j < 16
    · have q : (j : Int) < 16 := by omega
      have q0 : (0 : Int) ≤ (j : Int) := by omega
      obtain ⟨c0, c1, f0, f1⟩ := held2 (Below.refl wr.heap.size wr) g2
      have hxl : x.heap.size < wr.heap.size := (Array.getElem?_eq_some_iff.1 g2).1
      have wj : IntKind.i64.wrap ((j : Int) + 1) = (j : Int) + 1 := by rw [IntKind.wrap_i64]; omega
      have PL : ∀ y, Calls Tryz.prog 89 #[.int .i64 ((j : Int) + 1)] y fun e w' => e = .returned (.int .i64 (turns (j + 1) : Int)) ∧ w' = y := fun y => places_any (j + 1) y
      have ht : turns (j + 1) = 1 ∨ turns (j + 1) = 2 := by unfold turns; split <;> simp
      have TU := fun y => turned_any (turns (j + 1)) _ _ ht (e28 j).1 (e28 j).2 y
      rw [← (hR.out j).1, ← (hR.out j).2] at TU
      have z1 := e28 (j + 1)
      have HKj : Hid (_ = _) := HK.out j hj2
      have hJj : Hid (_ = _) := hJ.out (j + 1)
      have hl := hlv_len key (j + 1)
      have hlen : Hid (((hlv key (j + 1)).1 ++ (hlv key (j + 1)).2).length = 56) := (by rw [List.length_append, hl.1, hl.2] : ((hlv key (j + 1)).1 ++ (hlv key (j + 1)).2).length = 56)
      clear HK hR hJ e28 hl r0 r1 hz b0
      generalize turns (j + 1) = T at *
      go_wp2_with fail
      go_region_with (first
          | (go_at_call 89; refine (PL _).mono ?_; rintro e y ⟨rfl, rfl⟩)
          | (go_at_call 88; refine (TU _).mono ?_; rintro e y ⟨rfl, hy⟩; obtain ⟨d0, d1, p0, p1⟩ := held2 (keepB (Below.refl wr.heap.size wr).drew hy) g2))
      all_goals
        have hy0 : Below wr.heap.size wr y := keepB (Below.refl wr.heap.size wr).drew hy
        have e0 := setCell_heap (setCell_heap (kept hy0 g2) 0 (.int .u32 (val (hlv key (j + 1)).1 : Int))) 1 (.int .u32 (val (hlv key (j + 1)).2 : Int))
        have e1 := ((setCell_ne (show x.heap.size ≠ w.heap.size by omega) 1 (.int .u32 (val (hlv key (j + 1)).2 : Int))).trans ((setCell_ne (w := y) (show x.heap.size ≠ w.heap.size by omega) 0 (.int .u32 (val (hlv key (j + 1)).1 : Int))))).trans (kept hy0 g0)
        have e2 := ((setCell_ne (show x.heap.size ≠ w.heap.size + 1 by omega) 1 (.int .u32 (val (hlv key (j + 1)).2 : Int))).trans ((setCell_ne (w := y) (show x.heap.size ≠ w.heap.size + 1 by omega) 0 (.int .u32 (val (hlv key (j + 1)).1 : Int))))).trans (kept hy0 g1)
        have e3 := below_setCell (below_setCell (keepB hb hy0) (show w.heap.size ≤ x.heap.size by omega) 0 (.int .u32 (val (hlv key (j + 1)).1 : Int))) (show w.heap.size ≤ x.heap.size by omega) 1 (.int .u32 (val (hlv key (j + 1)).2 : Int))
        generalize ((y.setCell ⟨x.heap.size, 0, none⟩ (.int .u32 (val (hlv key (j + 1)).1 : Int))).setCell ⟨x.heap.size, 1, none⟩ (.int .u32 (val (hlv key (j + 1)).2 : Int))) = W2 at *
        have e0' : W2.heap[x.heap.size]? = some (.cells #[.int .u32 (val (hlv key (j + 1)).1 : Int), .int .u32 (val (hlv key (j + 1)).2 : Int)] 129) := e0
        have IG := fun y => inGroups_any (tk tK2 ((hlv key (j + 1)).1 ++ (hlv key (j + 1)).2)) (tk_len _ _) y
        clear c0 c1 f0 f1 d0 d1 p0 p1
        obtain ⟨c0, c1, f0, f1⟩ := held2 (Below.refl W2.heap.size W2) e0'
        clear e0 hy0 hy f0 f1 g0 g1 g2 hb hbs TU PL wj
        go_wp2_with (first
          | (go_at_call 91; refine (join28 _ _ z1.1 z1.2 _).mono ?_; rintro e y1 ⟨rfl, hy1⟩; rw [← hJj.out]; have e4 := keepB e3 hy1)
          | (go_at_call 92; refine (tabK2_any _).mono ?_; rintro e x2 ⟨rfl, rfl⟩)
          | (go_at_call 86; refine (take_any _ tK2 56 48 y1.heap.size (0, 0) hlen rfl _ (h1_0 y1 _) k2_ok (by decide) (by decide)).mono ?_; rintro e x3 ⟨rfl, rfl⟩)
          | (go_at_call 90; refine (IG _).mono ?_; rintro e y2 ⟨rfl, hy2⟩; rw [HKj.out]; have m2 : Below W2.heap.size W2 y2 := keepB (keepB hy1 (below_one y1 _)) hy2; have m3 := kept m2 e2; have m1 := kept m2 e1; have m0 := kept m2 e0'; have m4 := keepB e3 m2; have SC := run_sc (P := Tryz.prog) (cells := byC 8 fun i => kf key (8 * j + i)) (there_of m3 (j * 8) _ (by simp only [byC_size]; omega)) (byC_one _ _)))
        have n3 := put_keys m3 hj2
        exact ⟨⟨j + 1, by omega, by simp, (setCells_ne (by omega) _ _ _).trans m1, n3, (setCells_ne (by omega) _ _ _).trans m0, below_setCells (by omega) _ _ m4⟩, by simp only [intOf]; omega⟩
    · obtain rfl : j = 16 := by omega
      have b0 := hb
      go_wp2_with (first
        | (refine wpList_load_row rfl 114 _ rfl (w.heap.size + 1) rfl _ _ _ _ g1 Tryz.underlying114 rfl (h48 _) ?_)
        | (refine wpList_store_row rfl 114 _ _ rfl w.heap.size _ rfl rfl _ _ g0 (h48 _) (by rw [byC_size, byC_size]) (byC_one _ _) ?_))
      exact bodyPost_ret (v := .agg (byC 128 (up (kf key) (8 * 16)))) (results_cell_row rfl _ _ w.heap.size _ _ _ _ rfl (setRow_at g0 _) Tryz.underlying114 rfl (h48 _)) rfl ⟨by rw [show 8 * 16 = 128 from rfl, up_all], below_setRow b0 (Nat.le_refl _) _⟩
end Go.Proofs.YtpifebapodfeaaaGreat.Rk
/- The boxes. -/
namespace Go.Proofs.YtpifebapodfeaaaGreat.Ab
set_option linter.unusedVariables false
open Go.RowKit Pla Cb
theorem z80 : (Tryz.prog.info? 139).map (fun i => (i.zero, i.size)) = some (some (.agg (byC 512 fun _ => 0)), 512) := by kernel_rfl
theorem h80 : (Tryz.prog.info? 139).map (·.size) = some (tabC boxL).size := by kernel_rfl
set_option maxRecDepth 1000000 in
theorem tab_one (l : List Nat) : (tabC l).all (·.oneCell') = true := by
  simp only [tabC, List.all_toArray, List.all_eq_true, List.mem_map]
  rintro x ⟨i, _, rfl⟩; rfl
def r0 : List Nat := [14, 4, 13, 1, 2, 15, 11, 8, 3, 10, 6, 12, 5, 9, 0, 7]
def r1 : List Nat := [0, 15, 7, 4, 14, 2, 13, 1, 10, 6, 12, 11, 9, 5, 3, 8]
def r2 : List Nat := [4, 1, 14, 8, 13, 6, 2, 11, 15, 12, 9, 7, 3, 10, 5, 0]
def r3 : List Nat := [15, 12, 8, 2, 4, 9, 1, 7, 5, 11, 3, 14, 10, 0, 6, 13]
def r4 : List Nat := [15, 1, 8, 14, 6, 11, 3, 4, 9, 7, 2, 13, 12, 0, 5, 10]
def r5 : List Nat := [3, 13, 4, 7, 15, 2, 8, 14, 12, 0, 1, 10, 6, 9, 11, 5]
def r6 : List Nat := [0, 14, 7, 11, 10, 4, 13, 1, 5, 8, 12, 6, 9, 3, 2, 15]
def r7 : List Nat := [13, 8, 10, 1, 3, 15, 4, 2, 11, 6, 7, 12, 0, 5, 14, 9]
def r8 : List Nat := [10, 0, 9, 14, 6, 3, 15, 5, 1, 13, 12, 7, 11, 4, 2, 8]
def r9 : List Nat := [13, 7, 0, 9, 3, 4, 6, 10, 2, 8, 5, 14, 12, 11, 15, 1]
def r10 : List Nat := [13, 6, 4, 9, 8, 15, 3, 0, 11, 1, 2, 12, 5, 10, 14, 7]
def r11 : List Nat := [1, 10, 13, 0, 6, 9, 8, 7, 4, 15, 14, 3, 11, 5, 2, 12]
def r12 : List Nat := [7, 13, 14, 3, 0, 6, 9, 10, 1, 2, 8, 5, 11, 12, 4, 15]
def r13 : List Nat := [13, 8, 11, 5, 6, 15, 0, 3, 4, 7, 2, 12, 1, 10, 14, 9]
def r14 : List Nat := [10, 6, 9, 0, 12, 11, 7, 13, 15, 1, 3, 14, 5, 2, 8, 4]
def r15 : List Nat := [3, 15, 0, 6, 10, 1, 13, 8, 9, 4, 5, 11, 12, 7, 2, 14]
def r16 : List Nat := [2, 12, 4, 1, 7, 10, 11, 6, 8, 5, 3, 15, 13, 0, 14, 9]
def r17 : List Nat := [14, 11, 2, 12, 4, 7, 13, 1, 5, 0, 15, 10, 3, 9, 8, 6]
def r18 : List Nat := [4, 2, 1, 11, 10, 13, 7, 8, 15, 9, 12, 5, 6, 3, 0, 14]
def r19 : List Nat := [11, 8, 12, 7, 1, 14, 2, 13, 6, 15, 0, 9, 10, 4, 5, 3]
def r20 : List Nat := [12, 1, 10, 15, 9, 2, 6, 8, 0, 13, 3, 4, 14, 7, 5, 11]
def r21 : List Nat := [10, 15, 4, 2, 7, 12, 9, 5, 6, 1, 13, 14, 0, 11, 3, 8]
def r22 : List Nat := [9, 14, 15, 5, 2, 8, 12, 3, 7, 0, 4, 10, 1, 13, 11, 6]
def r23 : List Nat := [4, 3, 2, 12, 9, 5, 15, 10, 11, 14, 1, 7, 6, 0, 8, 13]
def r24 : List Nat := [4, 11, 2, 14, 15, 0, 8, 13, 3, 12, 9, 7, 5, 10, 6, 1]
def r25 : List Nat := [13, 0, 11, 7, 4, 9, 1, 10, 14, 3, 5, 12, 2, 15, 8, 6]
def r26 : List Nat := [1, 4, 11, 13, 12, 3, 7, 14, 10, 15, 6, 8, 0, 5, 9, 2]
def r27 : List Nat := [6, 11, 13, 8, 1, 4, 10, 7, 9, 5, 0, 15, 14, 2, 3, 12]
def r28 : List Nat := [13, 2, 8, 4, 6, 15, 11, 1, 10, 9, 3, 14, 5, 0, 12, 7]
def r29 : List Nat := [1, 15, 13, 8, 10, 3, 7, 4, 12, 5, 6, 11, 0, 14, 9, 2]
def r30 : List Nat := [7, 11, 4, 1, 9, 12, 14, 2, 0, 6, 10, 13, 15, 3, 5, 8]
def r31 : List Nat := [2, 1, 14, 7, 4, 10, 8, 13, 15, 12, 9, 0, 3, 5, 6, 11]
def q0 : List Nat := [14, 4, 13, 1, 2, 15, 11, 8, 3, 10, 6, 12, 5, 9, 0, 7, 0, 15, 7, 4, 14, 2, 13, 1, 10, 6, 12, 11, 9, 5, 3, 8, 4, 1, 14, 8, 13, 6, 2, 11, 15, 12, 9, 7, 3, 10, 5, 0, 15, 12, 8, 2, 4, 9, 1, 7, 5, 11, 3, 14, 10, 0, 6, 13]
def q1 : List Nat := [15, 1, 8, 14, 6, 11, 3, 4, 9, 7, 2, 13, 12, 0, 5, 10, 3, 13, 4, 7, 15, 2, 8, 14, 12, 0, 1, 10, 6, 9, 11, 5, 0, 14, 7, 11, 10, 4, 13, 1, 5, 8, 12, 6, 9, 3, 2, 15, 13, 8, 10, 1, 3, 15, 4, 2, 11, 6, 7, 12, 0, 5, 14, 9]
def q2 : List Nat := [10, 0, 9, 14, 6, 3, 15, 5, 1, 13, 12, 7, 11, 4, 2, 8, 13, 7, 0, 9, 3, 4, 6, 10, 2, 8, 5, 14, 12, 11, 15, 1, 13, 6, 4, 9, 8, 15, 3, 0, 11, 1, 2, 12, 5, 10, 14, 7, 1, 10, 13, 0, 6, 9, 8, 7, 4, 15, 14, 3, 11, 5, 2, 12]
def q3 : List Nat := [7, 13, 14, 3, 0, 6, 9, 10, 1, 2, 8, 5, 11, 12, 4, 15, 13, 8, 11, 5, 6, 15, 0, 3, 4, 7, 2, 12, 1, 10, 14, 9, 10, 6, 9, 0, 12, 11, 7, 13, 15, 1, 3, 14, 5, 2, 8, 4, 3, 15, 0, 6, 10, 1, 13, 8, 9, 4, 5, 11, 12, 7, 2, 14]
def q4 : List Nat := [2, 12, 4, 1, 7, 10, 11, 6, 8, 5, 3, 15, 13, 0, 14, 9, 14, 11, 2, 12, 4, 7, 13, 1, 5, 0, 15, 10, 3, 9, 8, 6, 4, 2, 1, 11, 10, 13, 7, 8, 15, 9, 12, 5, 6, 3, 0, 14, 11, 8, 12, 7, 1, 14, 2, 13, 6, 15, 0, 9, 10, 4, 5, 3]
def q5 : List Nat := [12, 1, 10, 15, 9, 2, 6, 8, 0, 13, 3, 4, 14, 7, 5, 11, 10, 15, 4, 2, 7, 12, 9, 5, 6, 1, 13, 14, 0, 11, 3, 8, 9, 14, 15, 5, 2, 8, 12, 3, 7, 0, 4, 10, 1, 13, 11, 6, 4, 3, 2, 12, 9, 5, 15, 10, 11, 14, 1, 7, 6, 0, 8, 13]
def q6 : List Nat := [4, 11, 2, 14, 15, 0, 8, 13, 3, 12, 9, 7, 5, 10, 6, 1, 13, 0, 11, 7, 4, 9, 1, 10, 14, 3, 5, 12, 2, 15, 8, 6, 1, 4, 11, 13, 12, 3, 7, 14, 10, 15, 6, 8, 0, 5, 9, 2, 6, 11, 13, 8, 1, 4, 10, 7, 9, 5, 0, 15, 14, 2, 3, 12]
def q7 : List Nat := [13, 2, 8, 4, 6, 15, 11, 1, 10, 9, 3, 14, 5, 0, 12, 7, 1, 15, 13, 8, 10, 3, 7, 4, 12, 5, 6, 11, 0, 14, 9, 2, 7, 11, 4, 1, 9, 12, 14, 2, 0, 6, 10, 13, 15, 3, 5, 8, 2, 1, 14, 7, 4, 10, 8, 13, 15, 12, 9, 0, 3, 5, 6, 11]
set_option maxRecDepth 1000000 in
set_option maxHeartbeats 1600000 in
theorem boxes_any (w : World) : Calls Tryz.prog 94 #[] w fun e w' => e = .returned (.agg (tabC boxL)) ∧ Below w.heap.size w w' := by
  have hz := (zero_of_info z80).1
  go_enter Tryz.func94, Tryz.ntmps94
  refine wp_seq_k (fun K hK => ?_)
  have HK : Hid (∀ a w, _ → K a w) := hK
  clear hK
  go_wp2_with fail
  refine HK.out _ _ ?_
  clear HK K
  refine wp_seq_k (fun K hK => ?_)
  have HK : Hid (∀ a w, _ → K a w) := hK
  clear hK
  apply wp_region_lit
  refine wpList_buildTo rfl 136 _ rfl _ rfl (tabC r0) (by kernel_rfl) ?_
  refine wpList_buildTo rfl 136 _ rfl _ rfl (tabC r1) (by kernel_rfl) ?_
  refine wpList_buildTo rfl 136 _ rfl _ rfl (tabC r2) (by kernel_rfl) ?_
  refine wpList_buildTo rfl 136 _ rfl _ rfl (tabC r3) (by kernel_rfl) ?_
  refine wpList_buildTo rfl 137 _ rfl _ rfl (tabC q0) (by kernel_rfl) ?_
  refine wpList_buildTo rfl 136 _ rfl _ rfl (tabC r4) (by kernel_rfl) ?_
  refine wpList_buildTo rfl 136 _ rfl _ rfl (tabC r5) (by kernel_rfl) ?_
  refine wpList_buildTo rfl 136 _ rfl _ rfl (tabC r6) (by kernel_rfl) ?_
  refine wpList_buildTo rfl 136 _ rfl _ rfl (tabC r7) (by kernel_rfl) ?_
  refine wpList_buildTo rfl 137 _ rfl _ rfl (tabC q1) (by kernel_rfl) ?_
  refine wpList_buildTo rfl 136 _ rfl _ rfl (tabC r8) (by kernel_rfl) ?_
  refine wpList_buildTo rfl 136 _ rfl _ rfl (tabC r9) (by kernel_rfl) ?_
  refine wpList_buildTo rfl 136 _ rfl _ rfl (tabC r10) (by kernel_rfl) ?_
  refine wpList_buildTo rfl 136 _ rfl _ rfl (tabC r11) (by kernel_rfl) ?_
  refine wpList_buildTo rfl 137 _ rfl _ rfl (tabC q2) (by kernel_rfl) ?_
  refine wpList_buildTo rfl 136 _ rfl _ rfl (tabC r12) (by kernel_rfl) ?_
  refine wpList_buildTo rfl 136 _ rfl _ rfl (tabC r13) (by kernel_rfl) ?_
  refine wpList_buildTo rfl 136 _ rfl _ rfl (tabC r14) (by kernel_rfl) ?_
  refine wpList_buildTo rfl 136 _ rfl _ rfl (tabC r15) (by kernel_rfl) ?_
  refine wpList_buildTo rfl 137 _ rfl _ rfl (tabC q3) (by kernel_rfl) ?_
  refine wpList_buildTo rfl 136 _ rfl _ rfl (tabC r16) (by kernel_rfl) ?_
  refine wpList_buildTo rfl 136 _ rfl _ rfl (tabC r17) (by kernel_rfl) ?_
  refine wpList_buildTo rfl 136 _ rfl _ rfl (tabC r18) (by kernel_rfl) ?_
  refine wpList_buildTo rfl 136 _ rfl _ rfl (tabC r19) (by kernel_rfl) ?_
  refine wpList_buildTo rfl 137 _ rfl _ rfl (tabC q4) (by kernel_rfl) ?_
  refine wpList_buildTo rfl 136 _ rfl _ rfl (tabC r20) (by kernel_rfl) ?_
  refine wpList_buildTo rfl 136 _ rfl _ rfl (tabC r21) (by kernel_rfl) ?_
  refine wpList_buildTo rfl 136 _ rfl _ rfl (tabC r22) (by kernel_rfl) ?_
  refine wpList_buildTo rfl 136 _ rfl _ rfl (tabC r23) (by kernel_rfl) ?_
  refine wpList_buildTo rfl 137 _ rfl _ rfl (tabC q5) (by kernel_rfl) ?_
  refine wpList_buildTo rfl 136 _ rfl _ rfl (tabC r24) (by kernel_rfl) ?_
  refine wpList_buildTo rfl 136 _ rfl _ rfl (tabC r25) (by kernel_rfl) ?_
  refine wpList_buildTo rfl 136 _ rfl _ rfl (tabC r26) (by kernel_rfl) ?_
  refine wpList_buildTo rfl 136 _ rfl _ rfl (tabC r27) (by kernel_rfl) ?_
  refine wpList_buildTo rfl 137 _ rfl _ rfl (tabC q6) (by kernel_rfl) ?_
  refine wpList_buildTo rfl 136 _ rfl _ rfl (tabC r28) (by kernel_rfl) ?_
  refine wpList_buildTo rfl 136 _ rfl _ rfl (tabC r29) (by kernel_rfl) ?_
  refine wpList_buildTo rfl 136 _ rfl _ rfl (tabC r30) (by kernel_rfl) ?_
  refine wpList_buildTo rfl 136 _ rfl _ rfl (tabC r31) (by kernel_rfl) ?_
  refine wpList_buildTo rfl 137 _ rfl _ rfl (tabC q7) (by kernel_rfl) ?_
  refine wpList_buildTo rfl 139 _ rfl _ rfl (tabC boxL) (by kernel_rfl) ?_
  refine wpList_store_row rfl 139 _ _ rfl w.heap.size (tabC boxL) (by kernel_rfl) (by kernel_rfl) _ (byC 512 fun _ => 0) (h1_0 w _) h80 (by kernel_rfl) (tab_one _) ?_
  refine HK.out _ _ ?_
  refine wp_ret ?_
  exact bodyPost_ret (v := .agg (tabC boxL)) (results_cell_row rfl _ _ w.heap.size _ _ _ _ (by kernel_rfl) (setRow_at (h1_0 w _) _) Tryz.underlying139 rfl h80) rfl ⟨rfl, below_setRow (below_one w _) (Nat.le_refl _) _⟩
end Go.Proofs.YtpifebapodfeaaaGreat.Ab
/- Regions that draw their order, whose operations leave a class of worlds alone but for the last one, which waits for all others. -/
namespace Go.Proofs.YtpifebapodfeaaaGreat.Ql
set_option linter.unusedVariables false
open Go.RowKit Pla Cb
variable {P : Program} {ops : Array Oper} {md : Region.Mode} {C : World → Prop}
/-- what an operation waits for -/
def deps (md : Region.Mode) (ops : Array Oper) (j : Nat) : List Nat := match ops[j]? with
  | none => []
  | some o => (o.after.filter (Region.binds md)).toList.map (·.on)
def ups (md : Region.Mode) (ops : Array Oper) : Nat → List Nat → List Nat
  | 0, l => l
  | k + 1, l => ups md ops k (l ++ l.flatMap (deps md ops))
/-- all that stands ahead of n is waited for by n -/
def lastB (md : Region.Mode) (ops : Array Oper) (n : Nat) : Bool := (List.range n).all fun j => (ups md ops n (deps md ops n)).contains j
def Closed (md : Region.Mode) (ops : Array Oper) (listed : Array Bool) : Prop := ∀ j, listed.getD j false = true → ∀ d ∈ deps md ops j, listed.getD d false = true
theorem ups_listed {listed : Array Bool} (hc : Closed md ops listed) : ∀ (k : Nat) (l : List Nat), (∀ d ∈ l, listed.getD d false = true) → ∀ d ∈ ups md ops k l, listed.getD d false = true
  | 0, l, h => h
  | k + 1, l, h => ups_listed hc k _ fun d hd => by
    rcases List.mem_append.1 hd with hd | hd
    · exact h d hd
    · obtain ⟨j, hj, hd⟩ := List.mem_flatMap.1 hd
      exact hc j (h j hj) d hd
theorem ready_deps {listed : Array Bool} {j : Nat} (h : j ∈ Region.ready md ops listed) : ∀ d ∈ deps md ops j, listed.getD d false = true := by
  obtain ⟨_, o, ho, hall⟩ := mem_ready.1 h
  intro d hd
  unfold deps at hd
  rw [ho] at hd
  obtain ⟨e, he, rfl⟩ := List.mem_map.1 hd
  have he' := Array.mem_filter.1 (by simpa using he)
  exact hall e he'.1 he'.2
theorem last_all {listed : Array Bool} {n : Nat} (hB : lastB md ops n = true) (hc : Closed md ops listed) (h : n ∈ Region.ready md ops listed) (j : Nat) (hj : j < n) : listed.getD j false = true := by
  have hm := List.all_eq_true.1 hB j (List.mem_range.2 hj)
  exact ups_listed hc n _ (ready_deps h) j (by simpa using hm)
theorem set_true {listed : Array Bool} {i d : Nat} (h : listed.getD d false = true) : (listed.setIfInBounds i true).getD d false = true := getD_set_true h
theorem closed_set {listed : Array Bool} {i : Nat} (hc : Closed md ops listed) (hi : i ∈ Region.ready md ops listed) : Closed md ops (listed.setIfInBounds i true) := by
  intro j hj d hd
  by_cases e : i = j
  · subst e; exact set_true (ready_deps hi d hd)
  · refine set_true (hc j ?_ d hd)
    simpa [Array.getElem?_setIfInBounds, e] using hj
def wpAnyL (P : Program) (md : Region.Mode) (ops : Array Oper) (C : World → Prop) (T : Act → Prop) (n : Nat) : Nat → Array Bool → Act → Prop
  | 0, listed, a => Region.ready md ops listed = [n] ∧ Region.ready md ops (listed.setIfInBounds n true) = [] ∧ T a
  | fuel + 1, listed, a => Region.ready md ops listed ≠ [] ∧ ∀ i ∈ Region.ready md ops listed, qOp P ops C i (wpAnyL P md ops C T n fuel (listed.setIfInBounds i true)) a
theorem wpAny_of_last {T : Act → Prop} {n : Nat} {Q' : Exit → Act → World → Prop} (hT : ∀ a w, C w → T a → wpOp P ops Q' n (fun a' w' => Q' .normal a' w') a w) : ∀ (fuel : Nat) (listed : Array Bool) (a : Act) (w : World), C w →
    wpAnyL P md ops C T n fuel listed a → wpAny P md ops Q' (fuel + 1) listed a w
  | 0, listed, a, w, hw, h => ⟨fun h0 => by rw [h.1] at h0; simp at h0, fun i hi => by
      rw [h.1] at hi
      have : i = n := by simpa using hi
      subst this
      exact wpOp_mono (fun a' w' hq => ⟨h.2.1, hq⟩) (hT a w hw h.2.2)⟩
  | fuel + 1, listed, a, w, hw, h => ⟨fun h0 => absurd h0 h.1, fun i hi => wpOp_of_qOp hw (fun a' w' hw' => wpAny_of_last hT fuel _ a' w' hw') (h.2 i hi)⟩
theorem wpAnyL_first {T : Act → Prop} {n i : Nat} {oi : Oper} {v : Value} (hB : lastB md ops n = true) (hin : i < n) (hi : ops[i]? = some oi) (hsel : ∀ (j : Nat) (o : Oper) cs b, ops[j]? = some o → o.op ≠ .select cs b) :
    ∀ (fuel : Nat) (listed : Array Bool) (a : Act), Closed md ops listed →
      (∀ j oj, ops[j]? = some oj → j ≠ i → listed.getD j true = false → (∀ e ∈ oj.after, Region.binds md e = true → e.on ≠ i) → oi.apart ops oj = true) →
      i ∈ Region.ready md ops listed → YieldsIn P ops C oi v a →
      wpAnyL P md ops C T n fuel (listed.setIfInBounds i true) (a.put oi.dst v) → wpAnyL P md ops C T n (fuel + 1) listed a := by
  intro fuel
  induction fuel with
  | zero =>
    intro listed a hc _ hr hy H
    refine ⟨fun h => (by rw [h] at hr; cases hr), fun j hj => ?_⟩
    by_cases hji : j = i
    · subst hji; exact hy.qOp hi H
    · have h2 := ready_mono hj hji
      rw [H.1] at h2
      have : j = n := by simpa using h2
      subst this
      have h3 := last_all hB hc hj i hin
      have h4 := (mem_ready.1 hr).1
      rcases Nat.lt_or_ge i listed.size with h' | h'
      · simp [h'] at h3 h4; rw [h3] at h4; cases h4
      · simp [Array.getElem?_eq_none h'] at h3
  | succ fuel ih =>
    intro listed a hc hfree hr hy H
    refine ⟨fun h => (by rw [h] at hr; cases hr), fun j hj => ?_⟩
    by_cases hji : j = i
    · subst hji; exact hy.qOp hi H
    · have h1 := H.2 j (ready_mono hj hji)
      obtain ⟨hjun, oj, hoj, hall⟩ := mem_ready.1 hj
      have hnot : ∀ e ∈ oj.after, Region.binds md e = true → e.on ≠ i := fun e he hb heq => by
        have h1 := hall e he hb
        have h0 := (mem_ready.1 hr).1
        rw [heq] at h1
        rcases Nat.lt_or_ge i listed.size with h' | h'
        · simp [h'] at h0 h1; rw [h0] at h1; cases h1
        · simp [Array.getElem?_eq_none h'] at h1
      have h2 := qOp_put hoj (hfree j oj hoj hji hjun hnot) (fun cs b => hsel i oi cs b hi) (fun cs b => hsel j oj cs b hoj) hy h1
      have hfree' : ∀ k ok, ops[k]? = some ok → k ≠ i → (listed.setIfInBounds j true).getD k true = false →
          (∀ e ∈ ok.after, Region.binds md e = true → e.on ≠ i) → oi.apart ops ok = true := fun k ok hk hki hun hno => by
        refine hfree k ok hk hki ?_ hno
        by_cases hjk : j = k
        · subst hjk; exact hjun
        · rw [getD_set_ne true hjk] at hun; exact hun
      refine qOp_mono (fun a' h3 => ih (listed.setIfInBounds j true) a' (closed_set hc hj) hfree' (ready_mono hr (Ne.symm hji)) h3.1 ?_) h2
      rw [Array.setIfInBounds_comm _ _ hji]
      exact h3.2
def lexL (md : Region.Mode) (ops : Array Oper) (n : Nat) : Nat → Nat → Array Bool → Bool
  | 0, k, listed => Region.ready md ops listed == [n] && Region.ready md ops (listed.setIfInBounds n true) == []
  | fuel + 1, k, listed => (Region.ready md ops listed).contains k && Region.free md ops listed k && lexL md ops n fuel (k + 1) (listed.setIfInBounds k true)
theorem wpAnyL_lex {T : Act → Prop} {n : Nat} (hB : lastB md ops n = true) (hs : Region.noSelect ops = true) : ∀ (l : List Oper) (k : Nat) (listed : Array Bool) (a : Act), k + l.length = n → Closed md ops listed → (∀ j, j < l.length → l[j]? = ops[k + j]?) →
    lexL md ops n l.length k listed = true → wpQuiet P ops C T l a → wpAnyL P md ops C T n l.length listed a
  | [], _, _, _, _, _, _, hL, h => by
    simp only [List.length_nil, lexL, Bool.and_eq_true, beq_iff_eq] at hL
    exact ⟨hL.1, hL.2, h⟩
  | o :: l, k, listed, a, hn, hc, hl, hL, h => by
    have h0 : ops[k]? = some o := by simpa using (hl 0 (by simp)).symm
    simp only [List.length_cons, lexL, Bool.and_eq_true] at hL
    obtain ⟨⟨hr, hf⟩, hL'⟩ := hL
    have hr' : k ∈ Region.ready md ops listed := by simpa using hr
    have hst : qOp P ops C k (wpQuiet P ops C T l) a := by unfold qOp; simp only [h0]; exact h
    obtain ⟨v, hy, hK⟩ := yieldsIn_of_qOp h0 hst
    simp only [List.length_cons] at hn
    exact wpAnyL_first hB (by omega) h0 (Region.noSelect_spec hs) l.length listed a hc (Region.free_spec h0 hf) hr' hy
      (wpAnyL_lex hB hs l (k + 1) _ _ (by omega) (closed_set hc hr') (fun j hj => by have := hl (j + 1) (by simp; omega); simpa [Nat.add_assoc, Nat.add_comm 1 j] using this) hL' hK)
theorem closed_zero (n : Nat) : Closed md ops (Array.replicate n false) := by
  intro j hj
  rcases Nat.lt_or_ge j n with h | h
  · simp [h] at hj
  · simp [Array.getElem?_eq_none (show (Array.replicate n false).size ≤ j by simp; omega)] at hj
/-- the region: all but the last in the order of the text, then the last -/
theorem region_last {id : Nat} {Q : Exit → Act → World → Prop} {a : Act} {w : World} {l : List Oper} {o : Oper} (hm : P.follows .mixedOrders = true)
    (hs : Region.noSelect (l ++ [o]).toArray = true) (hB : lastB .any (l ++ [o]).toArray l.length = true) (hL : lexL .any (l ++ [o]).toArray l.length l.length 0 (Array.replicate (l.length + 1) false) = true) (hg : o.guard = none)
    (hC : C w.drew) (h : wpQuiet P (l ++ [o]).toArray C (fun a' => ∀ y, C y → o.wp P a' y (fun a'' y' => Q .normal a'' y') Q) l a) : (Code.region id (l ++ [o]).toArray true).wp P Q a w := by
  refine wp_region_any hm ?_
  have hsz : (l ++ [o]).toArray.size = l.length + 1 := by simp
  rw [hsz]
  refine wpAny_of_last (C := C) (T := fun a' => ∀ y, C y → o.wp P a' y (fun a'' y' => Q .normal a'' y') Q) (n := l.length) ?_ l.length _ a _ hC ?_
  · intro a' y hy hT
    unfold wpOp
    rw [show (l ++ [o]).toArray[l.length]? = some o by simp]
    simp only
    rw [if_pos (by simp [Region.wanted, hg])]
    exact .inl (hT y hy)
  · exact wpAnyL_lex hB hs l 0 _ a (by simp) (closed_zero _) (fun j hj => by rw [Nat.zero_add, List.getElem?_toArray, List.getElem?_append_left hj]) hL h
theorem region_lastL {id : Nat} {Q : Exit → Act → World → Prop} {a : Act} {w : World} {L : List Oper} {o : Oper} (hm : P.follows .mixedOrders = true) (hlast : L = L.dropLast ++ [o])
    (hs : Region.noSelect L.toArray = true) (hB : lastB .any L.toArray L.dropLast.length = true) (hL : lexL .any L.toArray L.dropLast.length L.dropLast.length 0 (Array.replicate (L.dropLast.length + 1) false) = true) (hg : o.guard = none)
    (hC : C w.drew) (h : wpQuiet P L.toArray C (fun a' => ∀ y, C y → o.wp P a' y (fun a'' y' => Q .normal a'' y') Q) L.dropLast a) : (Code.region id L.toArray true).wp P Q a w := by
  generalize L.dropLast = l at *
  subst hlast
  exact region_last hm hs hB hL hg hC h
/-- the worlds behind x: below its size as x is -/
def Cl (x : World) : World → Prop := fun y => Below x.heap.size x y
theorem region_cl {id : Nat} {Q : Exit → Act → World → Prop} {a : Act} {x : World} {l : List Oper} (hm : P.follows .mixedOrders = true) (hB : Region.lexB .any l.toArray = true)
    (h : wpQuiet P l.toArray (Cl x) (fun a' => ∀ y, Cl x y → Q .normal a' y) l a) : (Code.region id l.toArray true).wp P Q a x :=
  wp_region_quiet (C := Cl x) hm hB ((Below.refl _ _).drew : Below x.heap.size x x.drew) (by simpa using h)
theorem q_row {o : Oper} {a : Act} {x : World} {K : Act → Prop} (hw : Region.wanted o (yielded ops a.tmps) = true) (ty : TypeId) (xo : Operand) (ho : o.op = .load ty xo)
    (g : Nat) (hx : a.eval xo = .pointer (some ⟨g, 0, none⟩)) (t : TypeId) (cs : Array Value) (fr : Nat × Nat) (d : TypeDesc) (hg : x.heap[g]? = some (.cells cs t fr))
    (hu : P.underlying ty = some d) (hd : (match d with | .struct _ | .array _ _ => true | _ => false) = true) (hi : (P.info? ty).map (·.size) = some cs.size)
    (h : K (a.put o.dst (.agg cs))) : if Region.wanted o (yielded ops a.tmps) then o.quiet P a (Cl x) K else K (a.put o.dst undef) := by
  rw [if_pos hw]
  refine ⟨.agg cs, fun y hy => ?_, h⟩
  unfold Oper.quietAt execOp
  have hl := run_loadVar_row (P := P) y g t ty cs fr d (kept hy hg) hu hd hi
  simp only [ho, hx, Instr.loadAt, Instr.sureAddr, Sem.run_bind, Sem.run_pure, Result.andThen_ok, hl]
  exact ⟨rfl, rfl⟩
theorem q_cell {o : Oper} {a : Act} {x : World} {K : Act → Prop} (hw : Region.wanted o (yielded ops a.tmps) = true) (ty : TypeId) (xo : Operand) (ho : o.op = .load ty xo)
    (b k : Nat) (hx : a.eval xo = .pointer (some ⟨b, k, none⟩)) (v : Value) (hc : x.cell? ⟨b, k, none⟩ = some v) (hb : b < x.heap.size) (hag : ∀ y, (isAgg ty).run P y = .ok false y)
    (h : K (a.put o.dst v)) : if Region.wanted o (yielded ops a.tmps) then o.quiet P a (Cl x) K else K (a.put o.dst undef) := by
  rw [if_pos hw]
  refine ⟨v, fun y hy => ?_, h⟩
  unfold Oper.quietAt execOp
  have hy' : y.cell? ⟨b, k, none⟩ = some v := keepC hy hc hb
  simp [ho, hx, Instr.loadAt, Instr.sureAddr, loadVar, hag, hy', Oper.quietUpon]
theorem cl_of {f : FuncId} {args : Array Value} {x y : World} {v : Value} (hy : Cl x y) (h : Calls P f args y fun e y' => e = .returned v ∧ Below y.heap.size y y') :
    Calls P f args y fun e y' => e = .returned v ∧ Cl x y' := h.mono fun e y' hh => ⟨hh.1, keepB hy hh.2⟩
theorem cl_same {f : FuncId} {args : Array Value} {x y : World} {v : Value} (hy : Cl x y) (h : Calls P f args y fun e y' => e = .returned v ∧ y' = y) :
    Calls P f args y fun e y' => e = .returned v ∧ Cl x y' := h.mono fun e y' hh => ⟨hh.1, hh.2 ▸ hy⟩
end Go.Proofs.YtpifebapodfeaaaGreat.Ql
