/- One block under one part of a key. -/
import Derived.Test.YtciblmdpngnakabMx
import Derived.Test.YtciblmdpngnakabRk
import Derived.Test.YtciblmdpngnakabAb
import Derived.Test.YtciblmdpngnakabQl
namespace Go.Proofs.Ytciblmdpngnakab.En
set_option linter.unusedVariables false
open Go.RowKit Pla Cb Tk Sm Wd Tb Mx Rk Ab
/-- the cells of sixteen round keys -/
def kfl (ks : List (List Bool)) (i : Nat) : Nat := val (grp (ks.getD (i / 8) []) (i % 8))
theorem kfl_sched (key : List Bool) : byC 128 (kfl (sched key)) = byC 128 (kf key) := byC_ext fun i hi => by
  rw [kfl, kf, sched, List.getD_eq_getElem?_getD, List.getElem?_map, List.getElem?_range (by omega)]; rfl
theorem z46 : (Try.prog.info? 74).map (fun i => (i.zero, i.size)) = some (some (.agg (byC 8 fun _ => 0)), 8) := by kernel_rfl
theorem xor32 (a b : List Bool) (ha : a.length = 32) (hb : b.length = 32) : bits .xor .u32 (val a : Int) (val b : Int) = (val (xr a b) : Int) := by
  have v1 := val_lt a
  have v2 := val_lt b
  rw [ha] at v1
  rw [hb] at v2
  rw [u32_xor_nat _ _ v1 v2, val_xr a b (by rw [ha, hb])]
theorem by8 (v : Nat → Nat) : byC 8 v = #[.int .u8 ((v 0 : Nat) : Int), .int .u8 ((v 1 : Nat) : Int), .int .u8 ((v 2 : Nat) : Int), .int .u8 ((v 3 : Nat) : Int), .int .u8 ((v 4 : Nat) : Int), .int .u8 ((v 5 : Nat) : Int), .int .u8 ((v 6 : Nat) : Int), .int .u8 ((v 7 : Nat) : Int)] := rfl
theorem in_ok : ∀ n ∈ tIn, 1 ≤ n ∧ n ≤ 64 := by decide
theorem out_ok : ∀ n ∈ tOut, 1 ≤ n ∧ n ≤ 64 := by decide
/-- the halves behind n rounds -/
def st (ks : List (List Bool)) (x : List Bool) (n : Nat) : List Bool × List Bool := (ks.take n).foldl rnd ((tk tIn x).take 32, (tk tIn x).drop 32)
theorem st_len (ks : List (List Bool)) (x : List Bool) (n : Nat) : (st ks x n).1.length = 32 ∧ (st ks x n).2.length = 32 :=
  rnds_len _ _ ⟨by simp [tk_len, show tIn.length = 64 from rfl], by simp [tk_len, show tIn.length = 64 from rfl]⟩
theorem st_succ (ks : List (List Bool)) (x : List Bool) (n : Nat) (h : n < ks.length) : st ks x (n + 1) = rnd (st ks x n) (ks.getD n []) := by
  rw [st, List.take_succ_eq_append_getElem h, List.foldl_append, List.getD_eq_getElem?_getD, List.getElem?_eq_getElem h]; rfl
theorem st_lt (ks : List (List Bool)) (x : List Bool) (n : Nat) : val (st ks x n).1 < 4294967296 ∧ val (st ks x n).2 < 4294967296 := by
  have l := st_len ks x n
  have v1 := val_lt (st ks x n).1
  have v2 := val_lt (st ks x n).2
  rw [l.1] at v1
  rw [l.2] at v2
  exact ⟨v1, v2⟩
set_option maxRecDepth 100000 in
set_option maxHeartbeats 3200000 in
theorem enc_any (ks : List (List Bool)) (hks : Hid (ks.length = 16)) (hkl : Hid (∀ n, n < 16 → (ks.getD n []).length = 48)) (x : List Bool) (hx : Hid (x.length = 64)) (g o : Nat) (w : World) (hg : g < w.heap.size) (hr : w.rangeAt g o (byC 128 (kfl ks)).toList) :
    Calls Try.prog 52 #[.pointer (some ⟨g, o, none⟩), .int .u64 (val x : Int)] w fun e w' => e = .returned (.int .u64 (val (des ks x) : Int)) ∧ Below w.heap.size w w' := by
  have hz := (zero_of_info z80).1
  have ec : Hid (val (tk tIn x) = val (st ks x 0).1 * 4294967296 + val (st ks x 0).2) := by
    show _ = _
    have := val_append (st ks x 0).1 (st ks x 0).2
    rw [(st_len ks x 0).2] at this
    rw [← this]
    simp only [st, List.take_zero, List.foldl_nil, List.take_append_drop]
  go_enter Try.func52, Try.ntmps52
  go_wp2_with (first
    | (go_at_call 69; refine (boxes_any _).mono ?_; rintro e y ⟨rfl, hy⟩)
    | (go_at_call 70; refine (tabIn_any _).mono ?_; rintro e y2 ⟨rfl, rfl⟩)
    | (go_at_call 62; refine (take_any x tIn 64 64 (y.heap.size + 1) (0, 0) hx rfl _ (h2_1 y _ _) in_ok (by decide) (by decide)).mono ?_; rintro e y3 ⟨rfl, rfl⟩; rw [ec.out])
    | (go_at_call 61; refine (cut32 (val (st ks x 0).1) (val (st ks x 0).2) (st_lt ks x 0).1 (st_lt ks x 0).2 _).mono ?_; rintro e z ⟨rfl, hz0⟩)
    | (refine wpList_store_row rfl 103 _ _ rfl y.heap.size (tabC boxL) rfl rfl _ _ (h1_0 y _) h80 (by rw [byC_size, tabC_size]; exact box_len.symm) (tab_one _) ?_; rw [World.setRow_alloc_new]))
  have hzz : Below y.heap.size y z := keepB (below_two y _ _) hz0
  have b0 : Below w.heap.size w z := keepB hy hzz
  have sx : y.heap.size + 1 < z.heap.size := by have := hz0.size; simp at this; omega
  have sy := hy.size
  have gs : z.heap[y.heap.size]? = some (.cells (tabC boxL) 103) := kept hz0 (h2_0 y _ _)
  clear hz hz0 hzz hy ec hx
  go_loopw [8, 15] (fun i c wr => ∃ j : Nat, j ≤ 16 ∧ c = .int .i64 (j : Int) ∧ wr.heap[y.heap.size]? = some (.cells (tabC boxL) 103) ∧ wr.heap[z.heap.size]? = some (.cells #[.int .u32 (val (st ks x j).1 : Int), .int .u32 (val (st ks x j).2 : Int)] 93) ∧ Below w.heap.size w wr) (fun _ c _ => 17 - (intOf c).toNat)
  case atStart => exact ⟨0, by omega, rfl, (Below.heap_alloc _ _ _ (by omega)).trans gs, h1_0 _ _, b0.alloc (by omega) _⟩
  case round =>
    obtain ⟨j, hj, rfl, g1, g2, hb⟩ := hrel
    have hbs := hb.size
    by_cases hj2 : j < 16
    · have q : (j : Int) < 16 := by omega
      have q0 : (0 : Int) ≤ (j : Int) := by omega
      have hrw : wr.rangeAt g (o + j * 8) (byC 8 fun i => kfl ks (j * 8 + i)).toList := range_sub (range_keep hb hg hr) (j * 8) (by omega)
      have HKJ : Hid ((byC 8 fun i => kfl ks (j * 8 + i)) = byC 8 fun i => val (grp (ks.getD j []) i)) := byC_ext fun i hi => (by rw [kfl, show (j * 8 + i) / 8 = j by omega, show (j * 8 + i) % 8 = i by omega] : kfl ks (j * 8 + i) = val (grp (ks.getD j []) i))
      have HS : Hid (st ks x (j + 1) = rnd (st ks x j) (ks.getD j [])) := st_succ ks x j (by rw [hks.out]; exact hj2)
      have hkj : Hid ((ks.getD j []).length = 48) := hkl.out j hj2
      have hzk := (zero_of_info z46).1
      generalize ks.getD j [] = kj at *
      go_wp2_with (first
        | (refine wpList_load_mid rfl 74 _ rfl g (o + j * 8) rfl _ _ hrw Try.underlying74 rfl (by rw [Array.length_toList]; exact h46 _) ?_; rw [Array.toArray_toList, HKJ.out])
        | (refine wpList_store_row rfl 74 _ _ rfl wr.heap.size (byC 8 fun i => val (grp kj i)) rfl rfl _ _ (h1_0 wr _) (h46 _) (by rw [byC_size, byC_size]) (byC_one _ _) ?_; rw [World.setRow_alloc_new]))
      have s1 := (st_len ks x j).1
      have s2 := (st_len ks x j).2
      have u1 := xor32 (st ks x j).1 (mix (st ks x j).2 kj) s1 (mix_len _ _)
      have HS2 : Hid ((st ks x (j + 1)).1 = (st ks x j).2 ∧ (st ks x (j + 1)).2 = xr (st ks x j).1 (mix (st ks x j).2 kj)) := (by rw [HS.out]; exact ⟨rfl, rfl⟩ : (st ks x (j + 1)).1 = (st ks x j).2 ∧ (st ks x (j + 1)).2 = xr (st ks x j).1 (mix (st ks x j).2 kj))
      have gz : z.heap.size < wr.heap.size := (Array.getElem?_eq_some_iff.1 g2).1
      have k1 : (wr.alloc (Obj.cells (byC 8 fun i => val (grp kj i)) 74)).heap[y.heap.size]? = some (.cells (tabC boxL) 103) := (Below.heap_alloc _ _ _ (by omega)).trans g1
      have k2 : (wr.alloc (Obj.cells (byC 8 fun i => val (grp kj i)) 74)).heap[z.heap.size]? = some (.cells #[.int .u32 (val (st ks x j).1 : Int), .int .u32 (val (st ks x j).2 : Int)] 93) := (Below.heap_alloc _ _ _ gz).trans g2
      have k3 := h1_0 wr (Obj.cells (byC 8 fun i => val (grp kj i)) 74)
      have k4 := hb.alloc hbs (Obj.cells (byC 8 fun i => val (grp kj i)) 74)
      have k5 : wr.heap.size < (wr.alloc (Obj.cells (byC 8 fun i => val (grp kj i)) 74)).heap.size := by simp
      generalize wr.alloc (Obj.cells (byC 8 fun i => val (grp kj i)) 74) = W0 at *
      obtain ⟨c0, c1, f0, f1⟩ := held2 (Below.refl W0.heap.size W0) k2
      have MX := fun (y1 : World) (hy1 : Ql.Cl W0 y1) => mixed_any (st ks x j).2 kj s2 hkj y.heap.size (0, 0) y1 (kept hy1 k1)
      generalize xr (st ks x j).1 (mix (st ks x j).2 kj) = NX at *
      generalize mix (st ks x j).2 kj = M at *
      clear HS HKJ hrw hzk hkj s1 s2
      have zl : z.heap.size < W0.heap.size := (Array.getElem?_eq_some_iff.1 k2).1
      refine Ql.region_lastL (C := Ql.Cl W0) (by kernel_rfl) rfl (by kernel_rfl) (by kernel_rfl) (by kernel_rfl) rfl ((Below.refl _ _).drew) ?_
      repeat (refine wpQuiet_step (fun K hK => ?_); first
        | (refine Ql.q_cell (by rfl) 87 _ rfl z.heap.size 0 rfl _ c0 zl Try.isAgg87 (hK _ ?_); clear hK K)
        | (refine Ql.q_cell (by rfl) 87 _ rfl z.heap.size 1 rfl _ c1 zl Try.isAgg87 (hK _ ?_); clear hK K)
        | (refine Ql.q_row (by rfl) 74 _ rfl wr.heap.size rfl _ _ _ _ k3 Try.underlying74 rfl (h46 _) (hK _ ?_); clear hK K)
        | (go_simp; apply Exists.intro; refine ⟨fun y hy => ?_, hK _ ?_⟩; (first | (go_at_call 71; exact Ql.cl_of hy (MX y hy))); clear hK K)
        | (go_simp; refine hK _ ?_; clear hK K)
        | (go_simp; refine ⟨_, fun _ _ => rfl, hK _ ?_⟩; clear hK K)
        | (go_simp; refine ⟨_, fun _ _ => ⟨rfl, rfl⟩, hK _ ?_⟩; clear hK K))
      refine wpQuiet_nil ?_
      intro y1 hy1
      refine wp_store_row 93 _ _ rfl z.heap.size #[.int .u32 (val (st ks x j).2 : Int), .int .u32 (val NX : Int)] rfl rfl _ _ (kept hy1 k2) (by kernel_rfl) rfl (by simp [Value.oneCell']) ?_
      have m1 := setRow_at (kept hy1 k2) #[.int .u32 (val (st ks x j).2 : Int), .int .u32 (val NX : Int)]
      have m2 := (setRow_ne (w := y1) (show z.heap.size ≠ y.heap.size by omega) #[.int .u32 (val (st ks x j).2 : Int), .int .u32 (val NX : Int)]).trans (kept hy1 k1)
      have m3 := below_setRow (keepB k4 hy1) (show w.heap.size ≤ z.heap.size by omega) #[.int .u32 (val (st ks x j).2 : Int), .int .u32 (val NX : Int)]
      generalize y1.setRow z.heap.size #[.int .u32 (val (st ks x j).2 : Int), .int .u32 (val NX : Int)] = W5 at *
      rw [← HS2.out.1, ← HS2.out.2] at m1
      clear hy1 c0 c1 f0 f1 MX k1 k2 k3 k4 g1 g2 hb
      go_wp2
      exact ⟨⟨j + 1, by omega, by simp, m2, m1, m3⟩, by simp only [intOf]; omega⟩
    · obtain rfl : j = 16 := by omega
      obtain ⟨c0, c1, f0, f1⟩ := held2 (Below.refl wr.heap.size wr) g2
      have zl : z.heap.size < wr.heap.size := (Array.getElem?_eq_some_iff.1 g2).1
      have hO : Hid ((((st ks x 16).2 ++ (st ks x 16).1).length = 64)) := (by rw [List.length_append, (st_len ks x 16).1, (st_len ks x 16).2] : ((st ks x 16).2 ++ (st ks x 16).1).length = 64)
      have hJ : Hid (val ((st ks x 16).2 ++ (st ks x 16).1) = val (st ks x 16).2 * 4294967296 + val (st ks x 16).1) := (by rw [val_append, (st_len ks x 16).1] : val ((st ks x 16).2 ++ (st ks x 16).1) = val (st ks x 16).2 * 4294967296 + val (st ks x 16).1)
      have e16 : ks.take 16 = ks := List.take_of_length_le (by rw [hks.out]; exact Nat.le_refl _)
      have HD : Hid (des ks x = tk tOut ((st ks x 16).2 ++ (st ks x 16).1)) := (by simp only [des, st, e16] : des ks x = tk tOut ((st ks x 16).2 ++ (st ks x 16).1))
      clear e16
      have sl := st_lt ks x 16
      generalize (st ks x 16).1 = A1 at *
      generalize (st ks x 16).2 = A2 at *
      go_wp2_with (first
        | (go_at_call 67; refine (join32 (val A2) (val A1) sl.2 sl.1 _).mono ?_; rintro e y1 ⟨rfl, hy1⟩; rw [← hJ.out])
        | (go_at_call 72; refine (tabOut_any _).mono ?_; rintro e y2 ⟨rfl, rfl⟩)
        | (go_at_call 62; refine (take_any (A2 ++ A1) tOut 64 64 y1.heap.size (0, 0) hO rfl _ (h1_0 y1 _) out_ok (by decide) (by decide)).mono ?_; rintro e y3 ⟨rfl, rfl⟩))
      go_ret
      exact ⟨by rw [HD.out]; rfl, keepB (keepB (below_setCell (below_setCell hb (show w.heap.size ≤ z.heap.size by omega) _ _) (show w.heap.size ≤ z.heap.size by omega) _ _) hy1) (below_one y1 _)⟩
end Go.Proofs.Ytciblmdpngnakab.En
