import Derived.Test.YtpifebapodfeaaaGreatQ01
import Derived.Test.YtpifebapodfeaaaGreatQ02
import Derived.Shelf.SlicesQ.Reverse
/- One block under one part of a key. -/
namespace Go.Proofs.YtpifebapodfeaaaGreat.En
set_option linter.unusedVariables false
open Go.RowKit Pla Cb Tk Sm Wd Tb Mx Rk Ab
/-- the cells of sixteen round keys -/
def kfl (ks : List (List Bool)) (i : Nat) : Nat := val (grp (ks.getD (i / 8) []) (i % 8))
theorem kfl_sched (key : List Bool) : byC 128 (kfl (sched key)) = byC 128 (kf key) := byC_ext fun i hi => by
  rw [kfl, kf, sched, List.getD_eq_getElem?_getD, List.getElem?_map, List.getElem?_range (by omega)]; rfl
theorem z46 : (Tryz.prog.info? 112).map (fun i => (i.zero, i.size)) = some (some (.agg (byC 8 fun _ => 0)), 8) := by kernel_rfl
theorem xor32 (a b : List Bool) (ha : a.length = 32) (hb : b.length = 32) : bits .xor .u32 (val a : Int) (val b : Int) = (val (xr a b) : Int) := by
  have v1 := val_lt a
  have v2 := val_lt b
  rw [ha] at v1
  rw [hb] at v2
  rw [u32_xor_nat _ _ v1 v2, val_xr a b (by rw [ha, hb])]
theorem by8 (v : Nat → Nat) : byC 8 v = #[.int .u8 ((v 0 : Nat) : Int), .int .u8 ((v 1 : Nat) : Int), .int .u8 ((v 2 : Nat) : Int), .int .u8 ((v 3 : Nat) : Int), .int .u8 ((v 4 : Nat) : Int), .int .u8 ((v 5 : Nat) : Int), .int .u8 ((v 6 : Nat) : Int), .int .u8 ((v 7 : Nat) : Int)] := rfl
theorem in_ok : ∀ n ∈ tIn, 1 ≤ n ∧ n ≤ 64 := by decide
theorem out_ok : ∀ n ∈ tOut, 1 ≤ n ∧ n ≤ 64 := by decide
/-- the halves behind n rounds -/
def st (ks : List (List Bool)) (x : List Bool) (n : Nat) : List Bool × List Bool := (ks.take n).foldl rnd ((tk tIn x).take 32, (tk tIn x).drop 32)
theorem st_len (ks : List (List Bool)) (x : List Bool) (n : Nat) : (st ks x n).1.length = 32 ∧ (st ks x n).2.length = 32 :=
  rnds_len _ _ ⟨by simp [tk_len, show tIn.length = 64 from rfl], by simp [tk_len, show tIn.length = 64 from rfl]⟩
theorem st_succ (ks : List (List Bool)) (x : List Bool) (n : Nat) (h : n < ks.length) : st ks x (n + 1) = rnd (st ks x n) (ks.getD n []) := by
  rw [st, List.take_succ_eq_append_getElem h, List.foldl_append, List.getD_eq_getElem?_getD, List.getElem?_eq_getElem h]; rfl
theorem st_lt (ks : List (List Bool)) (x : List Bool) (n : Nat) : val (st ks x n).1 < 4294967296 ∧ val (st ks x n).2 < 4294967296 := by
  have l := st_len ks x n
  have v1 := val_lt (st ks x n).1
  have v2 := val_lt (st ks x n).2
  rw [l.1] at v1
  rw [l.2] at v2
  exact ⟨v1, v2⟩
set_option maxRecDepth 100000 in
set_option maxHeartbeats 3200000 in
theorem enc_any (ks : List (List Bool)) (hks : Hid (ks.length = 16)) (hkl : Hid (∀ n, n < 16 → (ks.getD n []).length = 48)) (x : List Bool) (hx : Hid (x.length = 64)) (g o : Nat) (w : World) (hg : g < w.heap.size) (hr : w.rangeAt g o (byC 128 (kfl ks)).toList) :
    Calls Tryz.prog 81 #[.pointer (some ⟨g, o, none⟩), .int .u64 (val x : Int)] w fun e w' => e = .returned (.int .u64 (val (des ks x) : Int)) ∧ Below w.heap.size w w' := by
  have hz := (zero_of_info z80).1
  have ec : Hid (val (tk tIn x) = val (st ks x 0).1 * 4294967296 + val (st ks x 0).2) := by
    show _ = _
    have := val_append (st ks x 0).1 (st ks x 0).2
    rw [(st_len ks x 0).2] at this
    rw [← this]
    simp only [st, List.take_zero, List.foldl_nil, List.take_append_drop]
  go_enter Tryz.func81, Tryz.ntmps81
  go_wp2_with (first
    | (go_at_call 94; refine (boxes_any _).mono ?_; rintro e y ⟨rfl, hy⟩)
    | (go_at_call 95; refine (tabIn_any _).mono ?_; rintro e y2 ⟨rfl, rfl⟩)
    | (go_at_call 86; refine (take_any x tIn 64 64 (y.heap.size + 1) (0, 0) hx rfl _ (h2_1 y _ _) in_ok (by decide) (by decide)).mono ?_; rintro e y3 ⟨rfl, rfl⟩; rw [ec.out])
    | (go_at_call 85; refine (cut32 (val (st ks x 0).1) (val (st ks x 0).2) (st_lt ks x 0).1 (st_lt ks x 0).2 _).mono ?_; rintro e z ⟨rfl, hz0⟩)
    | (refine wpList_store_row rfl 139 _ _ rfl y.heap.size (tabC boxL) rfl rfl _ _ (h1_0 y _) h80 (by rw [byC_size, tabC_size]; exact box_len.symm) (tab_one _) ?_; rw [World.setRow_alloc_new]))
  have hzz : Below y.heap.size y z := keepB (below_two y _ _) hz0
  have b0 : Below w.heap.size w z := keepB hy hzz
  have sx : y.heap.size + 1 < z.heap.size := by have := hz0.size; simp at this; omega
  have sy := hy.size
  have gs : z.heap[y.heap.size]? = some (.cells (tabC boxL) 139) := kept hz0 (h2_0 y _ _)
  clear hz hz0 hzz hy ec hx
  go_loopw [8, 15] (fun i c wr => ∃ j : Nat, j ≤ 16 ∧ c = .int .i64 (j : Int) ∧ wr.heap[y.heap.size]? = some (.cells (tabC boxL) 139) ∧ wr.heap[z.heap.size]? = some (.cells #[.int .u32 (val (st ks x j).1 : Int), .int .u32 (val (st ks x j).2 : Int)] 129) ∧ Below w.heap.size w wr) (fun _ c _ => 17 - (intOf c).toNat)
  case atStart => exact ⟨0, by omega, rfl, (Below.heap_alloc _ _ _ (by omega)).trans gs, h1_0 _ _, b0.alloc (by omega) _⟩
  case round =>
    obtain ⟨j, hj, rfl, g1, g2, hb⟩ := hrel
    have hbs := hb.size
    by_cases hj2 : j < 16
    · have q : (j : Int) < 16 := by omega
      have q0 : (0 : Int) ≤ (j : Int) := by omega
      have hrw : wr.rangeAt g (o + j * 8) (byC 8 fun i => kfl ks (j * 8 + i)).toList := range_sub (range_keep hb hg hr) (j * 8) (by omega)
      have HKJ : Hid ((byC 8 fun i => kfl ks (j * 8 + i)) = byC 8 fun i => val (grp (ks.getD j []) i)) := byC_ext fun i hi => (by rw [kfl, show (j * 8 + i) / 8 = j by omega, show (j * 8 + i) % 8 = i by omega] : kfl ks (j * 8 + i) = val (grp (ks.getD j []) i))
      have HS : Hid (st ks x (j + 1) = rnd (st ks x j) (ks.getD j [])) := st_succ ks x j (by rw [hks.out]; exact hj2)
      have hkj : Hid ((ks.getD j []).length = 48) := hkl.out j hj2
      have hzk := (zero_of_info z46).1
      generalize ks.getD j [] = kj at *
      go_wp2_with (first
        | (refine wpList_load_mid rfl 112 _ rfl g (o + j * 8) rfl _ _ hrw Tryz.underlying112 rfl (by rw [Array.length_toList]; exact h46 _) ?_; rw [Array.toArray_toList, HKJ.out])
        | (refine wpList_store_row rfl 112 _ _ rfl wr.heap.size (byC 8 fun i => val (grp kj i)) rfl rfl _ _ (h1_0 wr _) (h46 _) (by rw [byC_size, byC_size]) (byC_one _ _) ?_; rw [World.setRow_alloc_new]))
      have s1 := (st_len ks x j).1
      have s2 := (st_len ks x j).2
      have u1 := xor32 (st ks x j).1 (mix (st ks x j).2 kj) s1 (mix_len _ _)
      have HS2 : Hid ((st ks x (j + 1)).1 = (st ks x j).2 ∧ (st ks x (j + 1)).2 = xr (st ks x j).1 (mix (st ks x j).2 kj)) := (by rw [HS.out]; exact ⟨rfl, rfl⟩ : (st ks x (j + 1)).1 = (st ks x j).2 ∧ (st ks x (j + 1)).2 = xr (st ks x j).1 (mix (st ks x j).2 kj))
      have gz : z.heap.size < wr.heap.size := (Array.getElem?_eq_some_iff.1 g2).1
      have k1 : (wr.alloc (Obj.cells (byC 8 fun i => val (grp kj i)) 112)).heap[y.heap.size]? = some (.cells (tabC boxL) 139) := (Below.heap_alloc _ _ _ (by omega)).trans g1
      have k2 : (wr.alloc (Obj.cells (byC 8 fun i => val (grp kj i)) 112)).heap[z.heap.size]? = some (.cells #[.int .u32 (val (st ks x j).1 : Int), .int .u32 (val (st ks x j).2 : Int)] 129) := (Below.heap_alloc _ _ _ gz).trans g2
      have k3 := h1_0 wr (Obj.cells (byC 8 fun i => val (grp kj i)) 112)
      have k4 := hb.alloc hbs (Obj.cells (byC 8 fun i => val (grp kj i)) 112)
      have k5 : wr.heap.size < (wr.alloc (Obj.cells (byC 8 fun i => val (grp kj i)) 112)).heap.size := by simp
      generalize wr.alloc (Obj.cells (byC 8 fun i => val (grp kj i)) 112) = W0 at *
      obtain ⟨c0, c1, f0, f1⟩ := held2 (Below.refl W0.heap.size W0) k2
      have MX := fun (y1 : World) (hy1 : Ql.Cl W0 y1) => mixed_any (st ks x j).2 kj s2 hkj y.heap.size (0, 0) y1 (kept hy1 k1)
      generalize xr (st ks x j).1 (mix (st ks x j).2 kj) = NX at *
      generalize mix (st ks x j).2 kj = M at *
      clear HS HKJ hrw hzk hkj s1 s2
      have zl : z.heap.size < W0.heap.size := (Array.getElem?_eq_some_iff.1 k2).1
      refine Ql.region_lastL (C := Ql.Cl W0) (by kernel_rfl) rfl (by kernel_rfl) (by kernel_rfl) (by kernel_rfl) rfl ((Below.refl _ _).drew) ?_
      repeat (refine wpQuiet_step (fun K hK => ?_); first
        | (refine Ql.q_cell (by rfl) 47 _ rfl z.heap.size 0 rfl _ c0 zl Tryz.isAgg47 (hK _ ?_); clear hK K)
        | (refine Ql.q_cell (by rfl) 47 _ rfl z.heap.size 1 rfl _ c1 zl Tryz.isAgg47 (hK _ ?_); clear hK K)
        | (refine Ql.q_row (by rfl) 112 _ rfl wr.heap.size rfl _ _ _ _ k3 Tryz.underlying112 rfl (h46 _) (hK _ ?_); clear hK K)
        | (go_simp; apply Exists.intro; refine ⟨fun y hy => ?_, hK _ ?_⟩; (first | (go_at_call 96; exact Ql.cl_of hy (MX y hy))); clear hK K)
        | (go_simp; refine hK _ ?_; clear hK K)
        | (go_simp; refine ⟨_, fun _ _ => rfl, hK _ ?_⟩; clear hK K)
        | (go_simp; refine ⟨_, fun _ _ => ⟨rfl, rfl⟩, hK _ ?_⟩; clear hK K))
      refine wpQuiet_nil ?_
      intro y1 hy1
      refine wp_store_row 129 _ _ rfl z.heap.size #[.int .u32 (val (st ks x j).2 : Int), .int .u32 (val NX : Int)] rfl rfl _ _ (kept hy1 k2) (by kernel_rfl) rfl (by simp [Value.oneCell']) ?_
      have m1 := setRow_at (kept hy1 k2) #[.int .u32 (val (st ks x j).2 : Int), .int .u32 (val NX : Int)]
      have m2 := (setRow_ne (w := y1) (show z.heap.size ≠ y.heap.size by omega) #[.int .u32 (val (st ks x j).2 : Int), .int .u32 (val NX : Int)]).trans (kept hy1 k1)
      have m3 := below_setRow (keepB k4 hy1) (show w.heap.size ≤ z.heap.size by omega) #[.int .u32 (val (st ks x j).2 : Int), .int .u32 (val NX : Int)]
      generalize y1.setRow z.heap.size #[.int .u32 (val (st ks x j).2 : Int), .int .u32 (val NX : Int)] = W5 at *
      rw [← HS2.out.1, ← HS2.out.2] at m1
      clear hy1 c0 c1 f0 f1 MX k1 k2 k3 k4 g1 g2 hb
      go_wp2
      exact ⟨⟨j + 1, by omega, by simp, m2, m1, m3⟩, by simp only [intOf]; omega⟩
    · obtain rfl : j = 16 := by omega
      obtain ⟨c0, c1, f0, f1⟩ := held2 (Below.refl wr.heap.size wr) g2
      have zl : z.heap.size < wr.heap.size := (Array.getElem?_eq_some_iff.1 g2).1
      have hO : Hid ((((st ks x 16).2 ++ (st ks x 16).1).length = 64)) := (by rw [List.length_append, (st_len ks x 16).1, (st_len ks x 16).2] : ((st ks x 16).2 ++ (st ks x 16).1).length = 64)
      have hJ : Hid (val ((st ks x 16).2 ++ (st ks x 16).1) = val (st ks x 16).2 * 4294967296 + val (st ks x 16).1) := (by rw [val_append, (st_len ks x 16).1] : val ((st ks x 16).2 ++ (st ks x 16).1) = val (st ks x 16).2 * 4294967296 + val (st ks x 16).1)
      have e16 : ks.take 16 = ks := List.take_of_length_le (by rw [hks.out]; exact Nat.le_refl _)
      have HD : Hid (des ks x = tk tOut ((st ks x 16).2 ++ (st ks x 16).1)) := (by simp only [des, st, e16] : des ks x = tk tOut ((st ks x 16).2 ++ (st ks x 16).1))
      clear e16
      have sl := st_lt ks x 16
      generalize (st ks x 16).1 = A1 at *
      generalize (st ks x 16).2 = A2 at *
      go_wp2_with (first
        | (go_at_call 91; refine (join32 (val A2) (val A1) sl.2 sl.1 _).mono ?_; rintro e y1 ⟨rfl, hy1⟩; rw [← hJ.out])
        | (go_at_call 97; refine (tabOut_any _).mono ?_; rintro e y2 ⟨rfl, rfl⟩)
        | (go_at_call 86; refine (take_any (A2 ++ A1) tOut 64 64 y1.heap.size (0, 0) hO rfl _ (h1_0 y1 _) out_ok (by decide) (by decide)).mono ?_; rintro e y3 ⟨rfl, rfl⟩))
      go_ret
      exact ⟨by rw [HD.out]; rfl, keepB (keepB (below_setCell (below_setCell hb (show w.heap.size ≤ z.heap.size by omega) _ _) (show w.heap.size ≤ z.heap.size by omega) _ _) hy1) (below_one y1 _)⟩
end Go.Proofs.YtpifebapodfeaaaGreat.En
/- slices.Reverse over sixteen round keys: the library's contract, laid at this dump; and decrypt. -/
namespace Go.Proofs.YtpifebapodfeaaaGreat.Rv
set_option linter.unusedVariables false
open Go.RowKit Pla Cb Tk Sm Rk En
open Go.Shelf
def ren : Go.Shelf.Ren := ⟨fun | 35 => 98 | n => n, fun | 22 => 144 | 23 => 112 | n => n, fun n => n⟩
theorem lays : Go.Proofs.SlLaysE0.n35 Tryz.prog ren := {
  mixed := by kernel_rfl
  f35 := ⟨"slices.Reverse[[]turnstile/cipher.roundKey,turnstile/cipher.roundKey]", by decide, Tryz.func98.trans (congrArg some (by kernel_rfl))⟩
  t0 := Tryz.underlying0
  a0 := Tryz.isAgg0
  z0 := Tryz.sizeOf0
  v0 := Tryz.zeroValue0
  t3 := Tryz.underlying3
  a3 := Tryz.isAgg3
  z3 := Tryz.sizeOf3
  v3 := Tryz.zeroValue3
  t4 := Tryz.underlying4
  a4 := Tryz.isAgg4
  z4 := Tryz.sizeOf4
  v4 := Tryz.zeroValue4
  t22 := Tryz.underlying144
  a22 := Tryz.isAgg144
  z22 := Tryz.sizeOf144
  v22 := Tryz.zeroValue144 }
def encK (k : List Bool) : List Value := (byC 8 fun j => val (grp k j)).toList
theorem encK_len (k : List Bool) : (encK k).length = 8 := by simp [encK, byC_size]
theorem encK_one (k : List Bool) : ∀ v ∈ encK k, v.oneCell' = true := fun v hv => (Array.all_eq_true_iff_forall_mem.1 (byC_one 8 _)) v (by simpa [encK] using hv)
theorem flat_at (ks : List (List Bool)) (n t : Nat) (h : ks.length = n) (ht : t < n * 8) : (Go.Sort.flatK encK 8 ks.toArray)[t]! = .int .u8 (kfl ks t : Int) := by
  rw [Go.Sort.get_flatK encK 8 _ t (by simpa [h] using ht)]
  have h1 : t / 8 < ks.length := by omega
  have e : ks.toArray[t / 8]! = ks.getD (t / 8) [] := by
    rw [getElem!_pos ks.toArray (t / 8) (by simpa using h1), List.getD_eq_getElem?_getD, List.getElem?_eq_getElem h1]; rfl
  rw [e]
  have h2 : t % 8 < 8 := Nat.mod_lt _ (by decide)
  rw [getElem!_pos (encK (ks.getD (t / 8) [])) (t % 8) (by rw [encK_len]; exact h2)]
  have := byC_get 8 (fun j => val (grp (ks.getD (t / 8) []) j)) (t % 8) h2
  rw [← Array.getElem?_toList] at this
  have h3 := (List.getElem?_eq_some_iff.1 this).2
  exact h3
theorem rev_any (ks : List (List Bool)) (hks : ks.length = 16) (b : Nat) (w : World) (hb : w.heap[b]? = some (.cells (byC 128 (kfl ks)) 114)) :
    Calls Tryz.prog 98 #[.slice (some ⟨b, 0, none⟩) 16 16] w fun e w' => e = .returned (.tuple #[]) ∧ w'.rangeAt b 0 (byC 128 (kfl ks.reverse)).toList ∧ Below b w w' ∧ w'.heap.size = w.heap.size := by
  have hH : Go.Sort.HoldsK encK 8 w b 0 ks.toArray := fun t ht => by
    have ht' : t < 128 := by have := ht; simp only [Go.Sort.size_flatK, List.size_toArray, hks] at this; exact this
    rw [flat_at ks 16 t hks ht']
    refine ⟨?_, ?_⟩
    · rw [Nat.zero_add, cell_of_row w b _ _ _ (0, 0) hb]; exact byC_get 128 _ t ht'
    · simp [World.frozen?, hb]
  have R := Go.Proofs.AnyQ.slices_Reverse lays 8 Tryz.isAgg112 Tryz.sizeOf112 encK encK_len encK_one b 0 16 ks.toArray w hH (by simp [hks])
  rw [show ks.toArray.size = 16 by simp [hks]] at R
  refine R.mono ?_
  rintro e w' ⟨rfl, n, rfl⟩
  have hr : ks.toArray.reverse = ks.reverse.toArray := by simp
  rw [hr]
  have hH2 := Go.Sort.holdsK_putRowK encK 8 (Go.Sort.ahead w n) b 0 ks.toArray ks.reverse.toArray (Go.Sort.holdsK_ahead encK 8 w n b 0 ks.toArray hH) (by simp)
  refine ⟨rfl, ?_, ?_, ?_⟩
  · intro j v hv
    have hj : j < 128 := by have := (List.getElem?_eq_some_iff.1 hv).1; simpa [byC_size] using this
    have := (hH2 j (by simp [hks, hj])).1
    rw [this, flat_at ks.reverse 16 j (by simp [hks]) hj]
    rw [Array.getElem?_toList, byC_get 128 _ j hj] at hv
    exact hv
  · refine ⟨rfl, rfl, rfl, ?_, fun k hk => ?_⟩
    · show w.heap.size ≤ ((Go.Sort.ahead w n).heap.modify b _).size
      simp [Go.Sort.ahead]
    · show ((Go.Sort.ahead w n).heap.modify b _)[k]? = w.heap[k]?
      rw [Array.getElem?_modify, if_neg (by omega)]; rfl
  · show ((Go.Sort.ahead w n).heap.modify b _).size = w.heap.size
    simp [Go.Sort.ahead]
set_option maxRecDepth 100000 in
set_option maxHeartbeats 3200000 in
theorem dec_any (ks : List (List Bool)) (hks : Hid (ks.length = 16)) (hkl : Hid (∀ n, n < 16 → (ks.getD n []).length = 48)) (x : List Bool) (hx : Hid (x.length = 64)) (g o : Nat) (w : World) (hg : g < w.heap.size) (hr : w.rangeAt g o (byC 128 (kfl ks)).toList) :
    Calls Tryz.prog 83 #[.pointer (some ⟨g, o, none⟩), .int .u64 (val x : Int)] w fun e w' => e = .returned (.int .u64 (val (des ks.reverse x) : Int)) ∧ Below w.heap.size w w' := by
  have hz := (zero_of_info z48).1
  have hkr : Hid (∀ n, n < 16 → (ks.reverse.getD n []).length = 48) := by
    show ∀ n, _ → _
    intro n hn
    have h := hkl.out (15 - n) (by omega)
    rw [List.getD_eq_getElem?_getD, List.getElem?_reverse (by rw [hks.out]; exact hn), hks.out]
    rw [List.getD_eq_getElem?_getD] at h
    exact h
  go_enter Tryz.func83, Tryz.ntmps83
  go_wp2_with (first
    | (refine wpList_load_mid rfl 114 _ rfl g o rfl _ _ hr Tryz.underlying114 rfl (by rw [Array.length_toList]; exact h48 _) ?_; rw [Array.toArray_toList])
    | (refine wpList_store_row rfl 114 _ _ rfl w.heap.size (byC 128 (kfl ks)) rfl rfl _ _ (h1_0 w _) (h48 _) (by rw [byC_size, byC_size]) (byC_one _ _) ?_; rw [World.setRow_alloc_new])
    | (go_at_call 98; refine (rev_any ks hks.out w.heap.size _ (h1_0 w _)).mono ?_; rintro e y ⟨rfl, hy1, hy2, hy3⟩; have hyl : w.heap.size < y.heap.size := by rw [hy3]; simp)
    | (go_at_call 81; refine (enc_any ks.reverse (by rw [List.length_reverse]; exact hks) hkr x hx w.heap.size 0 y hyl hy1).mono ?_; rintro e z ⟨rfl, hz1⟩))
  go_ret
  exact ⟨rfl, ((below_one w _).trans hy2).trans (hz1.mono (by omega))⟩
end Go.Proofs.YtpifebapodfeaaaGreat.Rv
/- New. -/
namespace Go.Proofs.YtpifebapodfeaaaGreat.Nw
set_option linter.unusedVariables false
open Go.RowKit Pla Cb Tk Sm Wd Rk En Rv
/-- a key's cells -/
def bkC (K : Nat) (f : Nat → Nat) : Array Value := #[.int .i64 (K : Int)] ++ byC 384 f
theorem bkC_size (K : Nat) (f : Nat → Nat) : (bkC K f).size = 385 := by simp [bkC, byC_size]
theorem bkC_zero (K : Nat) (f : Nat → Nat) : (bkC K f)[0]? = some (.int .i64 (K : Int)) := by rw [bkC, Array.getElem?_append_left (by simp)]; rfl
theorem bkC_get (K : Nat) (f : Nat → Nat) (i : Nat) (h : i < 384) : (bkC K f)[1 + i]? = some (.int .u8 ((f i : Nat) : Int)) := by
  rw [bkC, Array.getElem?_append_right (by simp)]
  simpa using byC_get 384 f i h
theorem put_bk (K j : Nat) (v : Nat → Nat) (hj : j < 3) : putL (bkC K (up v (128 * j))) (1 + 128 * j) (byC 128 fun i => v (128 * j + i)).toList = bkC K (up v (128 * (j + 1))) := by
  apply Array.ext_getElem?
  intro i
  by_cases hi : i < 385
  · rw [putL_get _ _ _ _ (by rw [bkC_size]; exact hi)]
    simp only [Array.length_toList, byC_size]
    by_cases h0 : i = 0
    · subst h0; rw [if_neg (by omega), bkC_zero, bkC_zero]
    · obtain ⟨m, rfl⟩ : ∃ m, i = 1 + m := ⟨i - 1, by omega⟩
      rw [bkC_get _ _ m (by omega), bkC_get _ _ m (by omega)]
      by_cases c : 1 + 128 * j ≤ 1 + m ∧ 1 + m < 1 + 128 * j + 128
      · rw [if_pos c, Array.getElem?_toList, byC_get 128 _ (1 + m - (1 + 128 * j)) (by omega)]
        show some (Value.int .u8 ((v (128 * j + (1 + m - (1 + 128 * j))) : Nat) : Int)) = some (Value.int .u8 (((if m < 128 * (j + 1) then v m else 0) : Nat) : Int))
        rw [if_pos (by omega), show 128 * j + (1 + m - (1 + 128 * j)) = m by omega]
      · rw [if_neg c]
        show some (Value.int .u8 (((if m < 128 * j then v m else 0) : Nat) : Int)) = some (Value.int .u8 (((if m < 128 * (j + 1) then v m else 0) : Nat) : Int))
        by_cases c2 : m < 128 * j
        · rw [if_pos c2, if_pos (by omega)]
        · rw [if_neg c2, if_neg (by omega)]
  · rw [Array.getElem?_eq_none (by rw [putL_size, bkC_size]; omega), Array.getElem?_eq_none (by rw [bkC_size]; omega)]
theorem ext_pt (s : ByteArray) (j : Nat) : (s.extract (8 * j) (8 * j + 8)).data.toList.take 8 = pt s.data.toList j := by
  rw [pt, ByteArray.data_extract, Array.toList_extract, List.extract_eq_take_drop, show 8 * j + 8 - 8 * j = 8 by omega, List.take_take, Nat.min_self]
theorem pt_len (s : ByteArray) (j : Nat) (h : 8 * j + 8 ≤ s.size) : (pt s.data.toList j).length = 8 := by
  have : s.data.toList.length = s.size := by simp
  rw [pt, List.length_take, List.length_drop, this]; omega
/-- the cells of a key's parts -/
def bf (l : List UInt8) (i : Nat) : Nat := kfl (sc l (i / 128)) (i % 128)
theorem put_blk {l : List UInt8} {K j b : Nat} {y : World} {t : TypeId} {fr : Nat × Nat} (h : y.heap[b]? = some (.cells (bkC K (up (bf l) (128 * j))) t fr)) (hj : j < 3) :
    (y.setCells b (1 + j * 128) (byC 128 fun i => bf l (128 * j + i)).toList).heap[b]? = some (.cells (bkC K (up (bf l) (128 * (j + 1)))) t fr) := by
  have := setCells_heap (byC 128 fun i => bf l (128 * j + i)).toList (1 + 128 * j) h
  rw [put_bk K j (bf l) hj] at this
  rw [Nat.mul_comm j 128]; exact this
theorem bkC_one (K : Nat) (f : Nat → Nat) : (bkC K f).all (·.oneCell') = true := by
  rw [bkC, Array.all_append, byC_one]; simp [Value.oneCell']
theorem bfill (K : Nat) : Tryz.zeroCells117.setIfInBounds 0 (.int .i64 (K : Int)) = bkC K fun _ => 0 := by kernel_rfl
theorem h51 (K : Nat) (f : Nat → Nat) : (Tryz.prog.info? 117).map (·.size) = some (bkC K f).size := by rw [bkC_size]; kernel_rfl
set_option maxRecDepth 100000 in
set_option maxHeartbeats 1600000 in
theorem new_bad (s : ByteArray) (h : kindN s.size = 0) (w : World) : Calls Tryz.prog 46 #[.string s] w fun e w' => e = .returned (.tuple #[.pointer none, .int .i64 30]) ∧ w' = w := by
  go_enter Tryz.func46, Tryz.ntmps46
  go_wp2_with (go_at_call 67; refine (kind_any s _).mono ?_; rintro e x ⟨rfl, rfl⟩; rw [h])
  exact bodyPost_ret (v := .tuple #[.pointer none, .int .i64 30]) (by simp [results, Tryz.results46, go_sem]) rfl ⟨rfl, rfl⟩
set_option maxRecDepth 100000 in
set_option maxHeartbeats 1600000 in
theorem new_good (s : ByteArray) (K : Nat) (h : Hid (kindN s.size = K)) (h1 : 1 ≤ K) (h3 : K ≤ 3) (w : World) : Calls Tryz.prog 46 #[.string s] w fun e w' => ∃ g, e = .returned (.tuple #[.pointer (some ⟨g, 0, none⟩), .int .i64 0]) ∧ w.heap.size ≤ g ∧ w'.heap[g]? = some (.cells (bkC K (up (bf s.data.toList) (128 * K))) 117) ∧ Below w.heap.size w w' := by
  have qK : ((K : Int) == 0) = false := beq_eq_false_iff_ne.mpr (by omega)
  have q1 : (1 : Int) ≤ (K : Int) := by omega
  have q3 : (K : Int) ≤ 3 := by omega
  go_enter Tryz.func46, Tryz.ntmps46
  go_wp2_with (first
    | (go_at_call 67; refine (kind_any s _).mono ?_; rintro e x ⟨rfl, hx⟩; rw [h.out, hx]))
  clear hx
  rw [bfill K]
  have e0 : bkC K (fun _ => 0) = bkC K (up (bf s.data.toList) (128 * 0)) := by rw [bkC, bkC, Nat.mul_zero, ← up_zero]
  have hsz : 8 * K ≤ s.size := by
    have := h.out
    unfold kindN at this
    split at this
    · omega
    · split at this
      · omega
      · split at this <;> omega
  go_loopw [6, 15] (fun i c wr => ∃ j : Nat, j ≤ K ∧ c = .int .i64 (j : Int) ∧ wr.heap[w.heap.size]? = some (.cells (bkC K (up (bf s.data.toList) (128 * j))) 117) ∧ Below w.heap.size w wr) (fun _ c _ => 4 - (intOf c).toNat)
  case atStart => exact ⟨0, by omega, rfl, by rw [e0]; exact h1_0 _ _, below_one w _⟩
  case round =>
    obtain ⟨j, hj, rfl, g1, hb⟩ := hrel
    clear e0 h
    have hbs := hb.size
    by_cases hj2 : j < K
    · have q : (j : Int) < (K : Int) := by omega
      have q0 : (0 : Int) ≤ (j : Int) := by omega
      have qj : (j : Int) < 3 := by omega
      have PA := fun y => part_any s j (by omega) (by omega) y
      have hps : 8 ≤ (s.extract (8 * j) (8 * j + 8)).size := by rw [ByteArray.size_extract]; omega
      have WO := fun y => word_any (s.extract (8 * j) (8 * j + 8)) hps y
      have ept : (s.extract (8 * j) (8 * j + 8)).data.toList.take 8 = pt s.data.toList j := ext_pt s j
      rw [ept] at WO
      have hlen : Hid ((bitsS (pt s.data.toList j)).length = 64) := (by rw [bitsS_len, pt_len s j (by omega)] : (bitsS (pt s.data.toList j)).length = 64)
      have KE := fun y => keys_any (bitsS (pt s.data.toList j)) hlen y
      have HKJ : Hid (byC 128 (kf (bitsS (pt s.data.toList j))) = byC 128 fun i => bf s.data.toList (128 * j + i)) := (by
        rw [← kfl_sched]
        refine byC_ext fun i hi => ?_
        rw [bf, show (128 * j + i) / 128 = j by omega, show (128 * j + i) % 128 = i by omega]; rfl : byC 128 (kf (bitsS (pt s.data.toList j))) = byC 128 fun i => bf s.data.toList (128 * j + i))
      clear ept hps
      go_wp2_with fail
      refine Ql.region_lastL (C := Ql.Cl wr) (by kernel_rfl) rfl (by kernel_rfl) (by kernel_rfl) (by kernel_rfl) rfl ((Below.refl _ _).drew) ?_
      repeat (refine wpQuiet_step (fun K hK => ?_); first
        | (go_simp; apply Exists.intro; refine ⟨fun y hy => ?_, hK _ ?_⟩; (first | (go_at_call 69; exact Ql.cl_same hy (PA y)) | (go_at_call 59; exact Ql.cl_same hy (WO y)) | (go_at_call 68; exact Ql.cl_of hy (KE y))); clear hK K)
        | (go_simp; refine hK _ ?_; clear hK K)
        | (go_simp; refine ⟨_, fun _ _ => rfl, hK _ ?_⟩; clear hK K)
        | (go_simp; refine ⟨_, fun _ _ => ⟨rfl, rfl⟩, hK _ ?_⟩; clear hK K))
      refine wpQuiet_nil ?_
      intro y1 hy1
      rw [HKJ.out]
      have m1 := kept hy1 g1
      refine wp_store_mid 114 _ _ rfl w.heap.size (1 + j * 128) (byC 128 fun i => bf s.data.toList (128 * j + i)) rfl rfl (there_of m1 _ _ (by rw [bkC_size, byC_size]; omega)) (h48 _) (byC_one _ _) ?_
      have m2 := put_blk m1 (show j < 3 by omega)
      have m3 := below_setCells (Nat.le_refl w.heap.size) (byC 128 fun i => bf s.data.toList (128 * j + i)).toList (1 + j * 128) (keepB hb hy1)
      generalize y1.setCells w.heap.size (1 + j * 128) (byC 128 fun i => bf s.data.toList (128 * j + i)).toList = W5 at *
      clear hy1 m1 g1 hb PA WO KE HKJ hlen
      go_wp2
      exact ⟨⟨j + 1, by omega, by simp, m2, m3⟩, by simp only [intOf]; omega⟩
    · obtain rfl : j = K := by omega
      go_wp2
      exact bodyPost_ret (v := .tuple #[.pointer (some ⟨w.heap.size, 0, none⟩), .int .i64 0]) (by simp [results, Tryz.results46, go_sem]) rfl ⟨w.heap.size, rfl, Nat.le_refl _, g1, hb⟩
theorem sc_len (l : List UInt8) (i : Nat) : (sc l i).length = 16 := by simp [sc, sched]
theorem sc_lens (l : List UInt8) (i : Nat) : ∀ n, n < 16 → ((sc l i).getD n []).length = 48 := by
  intro n hn
  rw [sc, sched, List.getD_eq_getElem?_getD, List.getElem?_map, List.getElem?_range hn]
  exact rk_len _ _
/-- a part's cells within a key's -/
theorem part_range {w : World} {g K p : Nat} {l : List UInt8} {t : TypeId} {fr : Nat × Nat} (h : w.heap[g]? = some (.cells (bkC K (up (bf l) (128 * K))) t fr)) (hp : p < K) (hK : K ≤ 3) : w.rangeAt g (1 + 128 * p) (byC 128 (kfl (sc l p))).toList := by
  refine range_of h _ _ fun j v hv => ?_
  have hj : j < 128 := by have := (List.getElem?_eq_some_iff.1 hv).1; simpa [byC_size] using this
  rw [Array.getElem?_toList, byC_get 128 _ j hj] at hv
  rw [Nat.add_assoc, bkC_get _ _ _ (by omega), ← hv]
  show some (Value.int .u8 (((if 128 * p + j < 128 * K then bf l (128 * p + j) else 0) : Nat) : Int)) = _
  rw [if_pos (by omega), bf, show (128 * p + j) / 128 = p by omega, show (128 * p + j) % 128 = j by omega]
end Go.Proofs.YtpifebapodfeaaaGreat.Nw
/- One block under a whole key. -/
namespace Go.Proofs.YtpifebapodfeaaaGreat.Bk
set_option linter.unusedVariables false
open Go.RowKit Pla Cb Tk Sm Wd Rk En Rv Nw
/-- a key made ready lies in block g -/
def Key (w : World) (g : Nat) (K : Nat) (l : List UInt8) : Prop := w.heap[g]? = some (.cells (bkC K (up (bf l) (128 * K))) 117)
theorem key_kept {a x : World} {g K : Nat} {l : List UInt8} (h : Below a.heap.size a x) (hk : Key a g K l) : Key x g K l := kept h hk
theorem key_lt {a : World} {g K : Nat} {l : List UInt8} (hk : Key a g K l) : g < a.heap.size := (Array.getElem?_eq_some_iff.1 hk).1
theorem key_kind {w : World} {g K : Nat} {l : List UInt8} (hk : Key w g K l) : w.cell? ⟨g, 0, none⟩ = some (.int .i64 (K : Int)) := by
  rw [cell_of_row w g 0 _ _ (0, 0) hk]; exact bkC_zero _ _
theorem last_two (g : Nat) (l : List UInt8) (w : World) (h : Key w g 2 l) : Calls Tryz.prog 82 #[.pointer (some ⟨g, 0, none⟩)] w fun e w' => e = .returned (.pointer (some ⟨g, 1 + 128 * 0, none⟩)) ∧ w' = w := by
  have k0 := key_kind h
  clear h
  go_enter Tryz.func82, Tryz.ntmps82
  go_wp2
  go_ret
  exact ⟨rfl, rfl⟩
theorem last_three (g : Nat) (l : List UInt8) (w : World) (h : Key w g 3 l) : Calls Tryz.prog 82 #[.pointer (some ⟨g, 0, none⟩)] w fun e w' => e = .returned (.pointer (some ⟨g, 1 + 128 * 2, none⟩)) ∧ w' = w := by
  have k0 := key_kind h
  clear h
  go_enter Tryz.func82, Tryz.ntmps82
  go_wp2
  go_ret
  exact ⟨rfl, rfl⟩
theorem last_any (g K : Nat) (l : List UInt8) (w : World) (hK : K = 2 ∨ K = 3) (h : Key w g K l) : Calls Tryz.prog 82 #[.pointer (some ⟨g, 0, none⟩)] w fun e w' => e = .returned (.pointer (some ⟨g, 1 + 128 * (if K = 2 then 0 else 2), none⟩)) ∧ w' = w := by
  rcases hK with rfl | rfl
  · exact last_two g l w h
  · exact last_three g l w h
theorem encP (l : List UInt8) (p K g : Nat) (hp : p < K) (hK : K ≤ 3) (x : List Bool) (hx : Hid (x.length = 64)) (w : World) (h : Key w g K l) :
    Calls Tryz.prog 81 #[.pointer (some ⟨g, 1 + 128 * p, none⟩), .int .u64 (val x : Int)] w fun e w' => e = .returned (.int .u64 (val (des (sc l p) x) : Int)) ∧ Below w.heap.size w w' :=
  enc_any (sc l p) (sc_len l p) (sc_lens l p) x hx g (1 + 128 * p) w (key_lt h) (part_range h hp hK)
theorem decP (l : List UInt8) (p K g : Nat) (hp : p < K) (hK : K ≤ 3) (x : List Bool) (hx : Hid (x.length = 64)) (w : World) (h : Key w g K l) :
    Calls Tryz.prog 83 #[.pointer (some ⟨g, 1 + 128 * p, none⟩), .int .u64 (val x : Int)] w fun e w' => e = .returned (.int .u64 (val (des (sc l p).reverse x) : Int)) ∧ Below w.heap.size w w' :=
  dec_any (sc l p) (sc_len l p) (sc_lens l p) x hx g (1 + 128 * p) w (key_lt h) (part_range h hp hK)
set_option maxRecDepth 100000 in
set_option maxHeartbeats 1600000 in
theorem enc_one (l : List UInt8) (g : Nat) (x : List Bool) (hx : Hid (x.length = 64)) (w : World) (h : Key w g 1 l) :
    Calls Tryz.prog 62 #[.pointer (some ⟨g, 0, none⟩), .int .u64 (val x : Int)] w fun e w' => e = .returned (.int .u64 (val (des (sc l 0) x) : Int)) ∧ Below w.heap.size w w' := by
  have E := encP l 0 1 g (by decide) (by decide) x hx w h
  have k0 := key_kind h
  go_enter Tryz.func62, Tryz.ntmps62
  go_wp2_with (first
    | (go_at_call 81; refine E.mono ?_; rintro e y ⟨rfl, hy⟩; have k1 := key_kind (key_kept hy h)))
  go_ret
  exact ⟨rfl, hy⟩
set_option maxRecDepth 100000 in
set_option maxHeartbeats 1600000 in
theorem enc_more (l : List UInt8) (g K : Nat) (hK : K = 2 ∨ K = 3) (x : List Bool) (hx : Hid (x.length = 64)) (w : World) (h : Key w g K l) :
    Calls Tryz.prog 62 #[.pointer (some ⟨g, 0, none⟩), .int .u64 (val x : Int)] w fun e w' => e = .returned (.int .u64 (val (des (sc l (if K = 2 then 0 else 2)) (des (sc l 1).reverse (des (sc l 0) x))) : Int)) ∧ Below w.heap.size w w' := by
  have E := encP l 0 K g (by omega) (by omega) x hx w h
  have q1 : ((K : Int) == 1) = false := beq_eq_false_iff_ne.mpr (by omega)
  have k0 := key_kind h
  have LA := fun y (hy : Below w.heap.size w y) => last_any g K l y hK (key_kept hy h)
  have DE := fun y (hy : Below w.heap.size w y) => decP l 1 K g (by omega) (by omega) (des (sc l 0) x) (des_len _ _) y (key_kept hy h)
  have E2 := fun y (hy : Below w.heap.size w y) => encP l (if K = 2 then 0 else 2) K g (by split <;> omega) (by omega) (des (sc l 1).reverse (des (sc l 0) x)) (des_len _ _) y (key_kept hy h)
  have hm : ∃ m, m = (if K = 2 then 0 else 2) := ⟨_, rfl⟩
  obtain ⟨m, hm⟩ := hm
  rw [← hm] at LA E2 ⊢
  clear hm
  go_enter Tryz.func62, Tryz.ntmps62
  go_wp2_with (first
    | (go_at_call 81; refine E.mono ?_; rintro e y ⟨rfl, hy⟩; have k1 := key_kind (key_kept hy h)))
  refine Ql.region_cl (by kernel_rfl) (by kernel_rfl) ?_
  repeat (refine wpQuiet_step (fun K hK => ?_); first
    | (go_simp; apply Exists.intro; refine ⟨fun z hz => ?_, hK _ ?_⟩; (first | (go_at_call 82; exact Ql.cl_same hz (LA z (keepB hy hz))) | (go_at_call 83; exact Ql.cl_of hz (DE z (keepB hy hz))) | (go_at_call 81; exact Ql.cl_of hz (E2 z (keepB hy hz)))); clear hK K)
    | (go_simp; refine hK _ ?_; clear hK K)
    | (go_simp; refine ⟨_, fun _ _ => rfl, hK _ ?_⟩; clear hK K)
    | (go_simp; refine ⟨_, fun _ _ => ⟨rfl, rfl⟩, hK _ ?_⟩; clear hK K))
  refine wpQuiet_nil ?_
  intro y1 hy1
  go_wp2
  go_ret
  exact ⟨rfl, keepB hy hy1⟩
set_option maxRecDepth 100000 in
set_option maxHeartbeats 1600000 in
theorem dec_one (l : List UInt8) (g : Nat) (x : List Bool) (hx : Hid (x.length = 64)) (w : World) (h : Key w g 1 l) :
    Calls Tryz.prog 63 #[.pointer (some ⟨g, 0, none⟩), .int .u64 (val x : Int)] w fun e w' => e = .returned (.int .u64 (val (des (sc l 0).reverse x) : Int)) ∧ Below w.heap.size w w' := by
  have E := decP l 0 1 g (by decide) (by decide) x hx w h
  have k0 := key_kind h
  go_enter Tryz.func63, Tryz.ntmps63
  go_wp2_with (first
    | (go_at_call 83; refine E.mono ?_; rintro e y ⟨rfl, hy⟩))
  go_ret
  exact ⟨rfl, hy⟩
set_option maxRecDepth 100000 in
set_option maxHeartbeats 1600000 in
theorem dec_more (l : List UInt8) (g K : Nat) (hK : K = 2 ∨ K = 3) (x : List Bool) (hx : Hid (x.length = 64)) (w : World) (h : Key w g K l) :
    Calls Tryz.prog 63 #[.pointer (some ⟨g, 0, none⟩), .int .u64 (val x : Int)] w fun e w' => e = .returned (.int .u64 (val (des (sc l 0).reverse (des (sc l 1) (des (sc l (if K = 2 then 0 else 2)).reverse x))) : Int)) ∧ Below w.heap.size w w' := by
  have q1 : ((K : Int) == 1) = false := beq_eq_false_iff_ne.mpr (by omega)
  have k0 := key_kind h
  have LA := fun y (hy : Below w.heap.size w y) => last_any g K l y hK (key_kept hy h)
  have D1 := fun y (hy : Below w.heap.size w y) => decP l (if K = 2 then 0 else 2) K g (by split <;> omega) (by omega) x hx y (key_kept hy h)
  have E2 := fun y (hy : Below w.heap.size w y) => encP l 1 K g (by omega) (by omega) (des (sc l (if K = 2 then 0 else 2)).reverse x) (des_len _ _) y (key_kept hy h)
  have D3 := fun y (hy : Below w.heap.size w y) => decP l 0 K g (by omega) (by omega) (des (sc l 1) (des (sc l (if K = 2 then 0 else 2)).reverse x)) (des_len _ _) y (key_kept hy h)
  have hm : ∃ m, m = (if K = 2 then 0 else 2) := ⟨_, rfl⟩
  obtain ⟨m, hm⟩ := hm
  rw [← hm] at LA D1 E2 D3 ⊢
  clear hm
  go_enter Tryz.func63, Tryz.ntmps63
  go_wp2_with fail
  refine Ql.region_cl (by kernel_rfl) (by kernel_rfl) ?_
  repeat (refine wpQuiet_step (fun K hK => ?_); first
    | (go_simp; apply Exists.intro; refine ⟨fun z hz => ?_, hK _ ?_⟩; (first | (go_at_call 82; exact Ql.cl_same hz (LA z hz)) | (go_at_call 83; exact Ql.cl_of hz (D1 z hz)) | (go_at_call 81; exact Ql.cl_of hz (E2 z hz))); clear hK K)
    | (go_simp; refine hK _ ?_; clear hK K)
    | (go_simp; refine ⟨_, fun _ _ => rfl, hK _ ?_⟩; clear hK K)
    | (go_simp; refine ⟨_, fun _ _ => ⟨rfl, rfl⟩, hK _ ?_⟩; clear hK K))
  refine wpQuiet_nil ?_
  intro y1 hy1
  go_wp2_with (first
    | (go_at_call 83; refine (D3 y1 hy1).mono ?_; rintro e y ⟨rfl, hy⟩))
  go_ret
  exact ⟨rfl, keepB hy1 hy⟩
/-- the number of a key's parts -/
theorem encB (l : List UInt8) (g K : Nat) (hK : Hid (kindN l.length = K ∧ 1 ≤ K)) (x : List Bool) (hx : Hid (x.length = 64)) (w : World) (h : Key w g K l) :
    Calls Tryz.prog 62 #[.pointer (some ⟨g, 0, none⟩), .int .u64 (val x : Int)] w fun e w' => e = .returned (.int .u64 (val (enc l x) : Int)) ∧ Below w.heap.size w w' := by
  obtain ⟨h1, h2⟩ := hK.out
  unfold kindN at h1
  by_cases c1 : l.length = 8
  · rw [if_pos c1] at h1
    rw [enc, if_pos c1]
    subst h1
    exact enc_one l g x hx w h
  · rw [if_neg c1] at h1
    rw [enc, if_neg c1, lst]
    by_cases c2 : l.length = 16
    · rw [if_pos c2] at h1
      rw [if_pos c2]
      subst h1
      exact enc_more l g 2 (.inl rfl) x hx w h
    · rw [if_neg c2] at h1
      rw [if_neg c2]
      by_cases c3 : l.length = 24
      · rw [if_pos c3] at h1
        subst h1
        exact enc_more l g 3 (.inr rfl) x hx w h
      · rw [if_neg c3] at h1
        omega
theorem decB (l : List UInt8) (g K : Nat) (hK : Hid (kindN l.length = K ∧ 1 ≤ K)) (x : List Bool) (hx : Hid (x.length = 64)) (w : World) (h : Key w g K l) :
    Calls Tryz.prog 63 #[.pointer (some ⟨g, 0, none⟩), .int .u64 (val x : Int)] w fun e w' => e = .returned (.int .u64 (val (dec l x) : Int)) ∧ Below w.heap.size w w' := by
  obtain ⟨h1, h2⟩ := hK.out
  unfold kindN at h1
  by_cases c1 : l.length = 8
  · rw [if_pos c1] at h1
    rw [dec, if_pos c1]
    subst h1
    exact dec_one l g x hx w h
  · rw [if_neg c1] at h1
    rw [dec, if_neg c1, lst]
    by_cases c2 : l.length = 16
    · rw [if_pos c2] at h1
      rw [if_pos c2]
      subst h1
      exact dec_more l g 2 (.inl rfl) x hx w h
    · rw [if_neg c2] at h1
      rw [if_neg c2]
      by_cases c3 : l.length = 24
      · rw [if_pos c3] at h1
        subst h1
        exact dec_more l g 3 (.inr rfl) x hx w h
      · rw [if_neg c3] at h1
        omega
end Go.Proofs.YtpifebapodfeaaaGreat.Bk
