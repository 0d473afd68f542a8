import Derived.Test.YtpifebapodfeaaaGreatQ19
/- changes: keys that are made. -/
namespace Go.Proofs.YtpifebapodfeaaaGreat.Dm
set_option linter.unusedVariables false
open Go.RowKit Pla Cb Sm Wd Nw Bk Eb Et Cc Ch Pm Fp Sp Pe Se Tg Sd Sq Sr Dd De Rg Df Wk Sx Sy Dg Dh Sw Di Dj Dk Dl
theorem at_one (w : World) (a b : Obj) : ((w.alloc a).alloc b).heap[w.heap.size + 1]? = some b := by
  have h := h1_0 (w.alloc a) b
  rwa [show (w.alloc a).heap.size = w.heap.size + 1 by simp] at h
theorem slot_cells {y : World} {g : Nat} {v0 v1 v2 v3 v4 v5 : Value} {t : TypeId} (h : y.heap[g]? = some (.cells #[v0, v1, v2, v3, v4, v5] t)) :
    y.cell? ⟨g, 0, Option.none⟩ = some v0 ∧ y.cell? ⟨g, 1, Option.none⟩ = some v1 ∧ y.cell? ⟨g, 2, Option.none⟩ = some v2 ∧ y.cell? ⟨g, 3, Option.none⟩ = some v3 ∧ y.cell? ⟨g, 4, Option.none⟩ = some v4 ∧ y.cell? ⟨g, 5, Option.none⟩ = some v5 :=
  ⟨cell_of_row y g 0 _ t _ h, cell_of_row y g 1 _ t _ h, cell_of_row y g 2 _ t _ h, cell_of_row y g 3 _ t _ h, cell_of_row y g 4 _ t _ h, cell_of_row y g 5 _ t _ h⟩
set_option maxRecDepth 100000 in
set_option maxHeartbeats 1600000 in
theorem changes_in8 (b1 d1 b2 d2 n : Nat) (f : Nat → Option Held) (s : Nat) (hs : s < n) (B : Bool) (i1 i2 i5 : Int) (t3 t4 : ByteArray) (hd : dC (f s) = #[.bool B, .int .i64 i1, .int .i64 i2, .string t3, .string t4, .int .i64 i5]) (M : Nat) (hM : M = 8 ∨ M = 16) (hmx : max (t3.size : Int) 8 = (M : Int)) (on sl al me : Int) (hal : (Lit.int .i64 al).wf = true) (hme : (Lit.int .i64 me).wf = true) (key ex text : ByteArray) (hk : key.size ≤ 1048576) (w : World) (hS : Syn w b1 d1 b2 d2 n f) :
    Calls Tryz.prog 19 #[.pointer (some ⟨b1, 0, Option.none⟩), .pointer (some ⟨b2, 0, Option.none⟩), .int .i64 (s : Int), .agg #[.int .i64 8, .int .i64 on, .int .i64 sl, .int .i64 al, .int .i64 me, .string key, .string ex, .string text]] w
      fun e w' => ∃ f', e = .returned (.bool true) ∧ Syn w' b1 d1 b2 d2 n f' ∧ FL [b1, d1, b2, d2] w w' := by
  have FI := fun y => Ft.fitted_any key M (by omega) (by omega) y
  have FJ := fun y => Ft.fitted_any key (24 - M) (by omega) (by omega) y
  have WK := fun y => weak_some M hM al hal y
  have WR := fun (k : ByteArray) N h1 h2 y => wrapped_any (f s) (fun h e => slots_ok hS.1 (s : Int) h (by rw [getO_in n s f hs]; exact e)) k N h1 h2 y
  obtain ⟨p, hp, PM⟩ := Ft.pick_nat me hme 8 (by decide) (by decide)
  obtain ⟨q, hq, PA⟩ := Ft.pick_nat al hal 5 (by decide) (by decide)
  rw [show ((5 : Nat) : Int) = 5 from rfl] at PA
  rw [show ((8 : Nat) : Int) = 8 from rfl] at PM
  have BN := fun (c : ByteArray) (h : c.size ≤ 100) y => bent_any c h al hal y
  rw [hd] at WR
  have e24 : ((24 - M : Nat) : Int) = 24 - (M : Int) := by omega
  rw [e24] at FJ
  have hm1 : (M : Int) ≤ 16 := by omega
  have hm0 : (8 : Int) ≤ (M : Int) := by omega
  have HN : ∀ k : ByteArray, k.size = M → Hid (∃ N, k.size = 8 * N ∧ (N = 1 ∨ N = 2)) := fun k h => by rcases hM with rfl | rfl; exact ⟨1, h, .inl rfl⟩; exact ⟨2, h, .inr rfl⟩
  have HM : ∀ k : ByteArray, k.size = 24 - M → Hid (∃ N, k.size = 8 * N ∧ (N = 1 ∨ N = 2)) := fun k h => by rcases hM with rfl | rfl; exact ⟨2, h, .inr rfl⟩; exact ⟨1, h, .inl rfl⟩
  have CA := fun wr ck y (h : Slots y b1 d1 n f) => Change_any b1 d1 n f (s : Int) (fun a e => slots_ok h (s : Int) a e) wr ck y h
  have CB := fun wr ck y (h : DSlots y b2 d2 n f) => Changer_any b2 d2 n f (s : Int) (fun a e => slots_ok hS.1 (s : Int) a e) wr ck y h
  have RA := fun f' y h => Round_any b1 d1 n f' (s : Int) y h
  have RB := fun f' y h => Roundr b2 d2 n f' (s : Int) y h
  have B1 := below_one w (Obj.cells #[.int .i64 8, .int .i64 on, .int .i64 sl, .int .i64 al, .int .i64 me, .string key, .string ex, .string text] 35)
  have B2 := keepB B1 (below_one _ (Obj.cells #[.bool B, .int .i64 i1, .int .i64 i2, .string t3, .string t4, .int .i64 i5] 67))
  have ho : ((w.alloc (Obj.cells #[.int .i64 8, .int .i64 on, .int .i64 sl, .int .i64 al, .int .i64 me, .string key, .string ex, .string text] 35)).alloc (Obj.cells #[.bool B, .int .i64 i1, .int .i64 i2, .string t3, .string t4, .int .i64 i5] 67)).heap[w.heap.size]? = _ := kept (below_one _ _) (h1_0 w _)
  have hx : ((w.alloc (Obj.cells #[.int .i64 8, .int .i64 on, .int .i64 sl, .int .i64 al, .int .i64 me, .string key, .string ex, .string text] 35)).alloc (Obj.cells #[.bool B, .int .i64 i1, .int .i64 i2, .string t3, .string t4, .int .i64 i5] 67)).heap[w.heap.size + 1]? = _ := at_one w _ _
  have F : FL [b1, d1, b2, d2] w ((w.alloc (Obj.cells #[.int .i64 8, .int .i64 on, .int .i64 sl, .int .i64 al, .int .i64 me, .string key, .string ex, .string text] 35)).alloc (Obj.cells #[.bool B, .int .i64 i1, .int .i64 i2, .string t3, .string t4, .int .i64 i5] 67)) := FL.of_below B2
  have hT := syn_below hS B2
  obtain ⟨⟨hmA, k1, k2, A1, hrA⟩, ⟨hm, n1, n2, A, hr⟩⟩ := id hS
  obtain ⟨c0, c1, c2, c3, c4, c5⟩ := six hr hs _ _ _ _ _ _ hd
  have cb := DMu.cell hm
  have lb : b2 < w.heap.size := Sd.lt_of_cell cb
  have ld : d2 < w.heap.size := Sd.lt_of_cell c0
  have q0 : (0 : Int) ≤ (s : Int) := by omega
  have q1 : (s : Int) < (n : Int) := by omega
  clear hmA k1 k2 hrA hm n1 hr hs
  clear hM hp hq hk B1 B2 hS
  go_enter Tryz.func19, Tryz.ntmps19
  go_wp2_with (first
    | (go_at_call_of 15 (Value.int .i64 (M : Int)); refine (FI _).mono ?_; rintro e y ⟨r, rfl, hr, g⟩; have hN := HN r hr; clear hr; replace hT := syn_below hT g; replace F := F.trans (FL.of_below g); replace ho := kept g ho; replace hx := kept g hx; obtain ⟨o0, o1, o2, o3, o4, o5, o6, o7⟩ := op_cells ho; obtain ⟨x0, x1, x2, x3, x4, x5⟩ := slot_cells hx; clear g)
    | (go_at_call 30; refine (WK _).mono ?_; rintro e y ⟨r, rfl, hr, g⟩; have hN := HN r hr; clear hr; replace hT := syn_below hT g; replace F := F.trans (FL.of_below g); replace ho := kept g ho; replace hx := kept g hx; obtain ⟨o0, o1, o2, o3, o4, o5, o6, o7⟩ := op_cells ho; obtain ⟨x0, x1, x2, x3, x4, x5⟩ := slot_cells hx; clear g)
    | (go_at_call 31; obtain ⟨N, hn1, hn2⟩ := hN.out; refine (WR _ N hn1 hn2 _).mono ?_; clear hn1 hn2; rintro e y ⟨r1, r2, rfl, hc, g⟩; replace hc : Hid (r2.size ≤ 100) := hc; replace hT := syn_below hT g; replace F := F.trans (FL.of_below g); replace ho := kept g ho; replace hx := kept g hx; obtain ⟨o0, o1, o2, o3, o4, o5, o6, o7⟩ := op_cells ho; obtain ⟨x0, x1, x2, x3, x4, x5⟩ := slot_cells hx; clear g)
    | (go_at_call 32; refine (CA _ _ _ hT.1).mono ?_; rintro e y1 ⟨rfl, hA1, g1⟩; have hB1 := syn_a hT hA1 g1; replace F := F.trans (fl_a g1))
    | (go_at_call 33; refine (CB _ _ _ hB1).mono ?_; rintro e y2 ⟨rfl, hB2, g2⟩; have hA2 := syn_b hA1 hB1 g2; replace F := F.trans (fl_b g2))
    | (go_at_call 10; refine (RA _ _ hA2).mono ?_; rintro e y3 ⟨rfl, hA3, g3⟩; have hB3 := syn_a ⟨hA2, hB2⟩ hA3 g3; replace F := F.trans (fl_a g3))
    | (go_at_call 11; refine (RB _ _ hB3).mono ?_; rintro e y4 ⟨rfl, g4⟩; have hS4 := syn_below ⟨hA3, hB3⟩ g4; replace F := F.trans (FL.of_below g4)))
  all_goals (
    go_ret
    exact ⟨_, by simp, hS4, F⟩)
set_option maxRecDepth 100000 in
set_option maxHeartbeats 1600000 in
theorem changes_in7 (b1 d1 b2 d2 n : Nat) (f : Nat → Option Held) (s : Nat) (hs : s < n) (B : Bool) (i1 i2 i5 : Int) (t3 t4 : ByteArray) (hd : dC (f s) = #[.bool B, .int .i64 i1, .int .i64 i2, .string t3, .string t4, .int .i64 i5]) (M : Nat) (hM : M = 8 ∨ M = 16) (hmx : max (t3.size : Int) 8 = (M : Int)) (on sl al me : Int) (hal : (Lit.int .i64 al).wf = true) (hme : (Lit.int .i64 me).wf = true) (key ex text : ByteArray) (hk : key.size ≤ 1048576) (w : World) (hS : Syn w b1 d1 b2 d2 n f) :
    Calls Tryz.prog 19 #[.pointer (some ⟨b1, 0, Option.none⟩), .pointer (some ⟨b2, 0, Option.none⟩), .int .i64 (s : Int), .agg #[.int .i64 7, .int .i64 on, .int .i64 sl, .int .i64 al, .int .i64 me, .string key, .string ex, .string text]] w
      fun e w' => ∃ f', e = .returned (.bool true) ∧ Syn w' b1 d1 b2 d2 n f' ∧ FL [b1, d1, b2, d2] w w' := by
  have FI := fun y => Ft.fitted_any key M (by omega) (by omega) y
  have FJ := fun y => Ft.fitted_any key (24 - M) (by omega) (by omega) y
  have WK := fun y => weak_some M hM al hal y
  have WR := fun (k : ByteArray) N h1 h2 y => wrapped_any (f s) (fun h e => slots_ok hS.1 (s : Int) h (by rw [getO_in n s f hs]; exact e)) k N h1 h2 y
  obtain ⟨p, hp, PM⟩ := Ft.pick_nat me hme 8 (by decide) (by decide)
  obtain ⟨q, hq, PA⟩ := Ft.pick_nat al hal 5 (by decide) (by decide)
  rw [show ((5 : Nat) : Int) = 5 from rfl] at PA
  rw [show ((8 : Nat) : Int) = 8 from rfl] at PM
  have BN := fun (c : ByteArray) (h : c.size ≤ 100) y => bent_any c h al hal y
  rw [hd] at WR
  have e24 : ((24 - M : Nat) : Int) = 24 - (M : Int) := by omega
  rw [e24] at FJ
  have hm1 : (M : Int) ≤ 16 := by omega
  have hm0 : (8 : Int) ≤ (M : Int) := by omega
  have HN : ∀ k : ByteArray, k.size = M → Hid (∃ N, k.size = 8 * N ∧ (N = 1 ∨ N = 2)) := fun k h => by rcases hM with rfl | rfl; exact ⟨1, h, .inl rfl⟩; exact ⟨2, h, .inr rfl⟩
  have HM : ∀ k : ByteArray, k.size = 24 - M → Hid (∃ N, k.size = 8 * N ∧ (N = 1 ∨ N = 2)) := fun k h => by rcases hM with rfl | rfl; exact ⟨2, h, .inr rfl⟩; exact ⟨1, h, .inl rfl⟩
  have CA := fun wr ck y (h : Slots y b1 d1 n f) => Change_any b1 d1 n f (s : Int) (fun a e => slots_ok h (s : Int) a e) wr ck y h
  have CB := fun wr ck y (h : DSlots y b2 d2 n f) => Changer_any b2 d2 n f (s : Int) (fun a e => slots_ok hS.1 (s : Int) a e) wr ck y h
  have RA := fun f' y h => Round_any b1 d1 n f' (s : Int) y h
  have RB := fun f' y h => Roundr b2 d2 n f' (s : Int) y h
  have B1 := below_one w (Obj.cells #[.int .i64 7, .int .i64 on, .int .i64 sl, .int .i64 al, .int .i64 me, .string key, .string ex, .string text] 35)
  have B2 := keepB B1 (below_one _ (Obj.cells #[.bool B, .int .i64 i1, .int .i64 i2, .string t3, .string t4, .int .i64 i5] 67))
  have ho : ((w.alloc (Obj.cells #[.int .i64 7, .int .i64 on, .int .i64 sl, .int .i64 al, .int .i64 me, .string key, .string ex, .string text] 35)).alloc (Obj.cells #[.bool B, .int .i64 i1, .int .i64 i2, .string t3, .string t4, .int .i64 i5] 67)).heap[w.heap.size]? = _ := kept (below_one _ _) (h1_0 w _)
  have hx : ((w.alloc (Obj.cells #[.int .i64 7, .int .i64 on, .int .i64 sl, .int .i64 al, .int .i64 me, .string key, .string ex, .string text] 35)).alloc (Obj.cells #[.bool B, .int .i64 i1, .int .i64 i2, .string t3, .string t4, .int .i64 i5] 67)).heap[w.heap.size + 1]? = _ := at_one w _ _
  have F : FL [b1, d1, b2, d2] w ((w.alloc (Obj.cells #[.int .i64 7, .int .i64 on, .int .i64 sl, .int .i64 al, .int .i64 me, .string key, .string ex, .string text] 35)).alloc (Obj.cells #[.bool B, .int .i64 i1, .int .i64 i2, .string t3, .string t4, .int .i64 i5] 67)) := FL.of_below B2
  have hT := syn_below hS B2
  obtain ⟨⟨hmA, k1, k2, A1, hrA⟩, ⟨hm, n1, n2, A, hr⟩⟩ := id hS
  obtain ⟨c0, c1, c2, c3, c4, c5⟩ := six hr hs _ _ _ _ _ _ hd
  have cb := DMu.cell hm
  have lb : b2 < w.heap.size := Sd.lt_of_cell cb
  have ld : d2 < w.heap.size := Sd.lt_of_cell c0
  have q0 : (0 : Int) ≤ (s : Int) := by omega
  have q1 : (s : Int) < (n : Int) := by omega
  clear hmA k1 k2 hrA hm n1 hr hs
  clear hM hp hq hk B1 B2 hS
  go_enter Tryz.func19, Tryz.ntmps19
  go_wp2_with (first
    | (go_at_call_of 15 (Value.int .i64 (M : Int)); refine (FI _).mono ?_; rintro e y ⟨r, rfl, hr, g⟩; have hN := HN r hr; clear hr; replace hT := syn_below hT g; replace F := F.trans (FL.of_below g); replace ho := kept g ho; replace hx := kept g hx; obtain ⟨o0, o1, o2, o3, o4, o5, o6, o7⟩ := op_cells ho; obtain ⟨x0, x1, x2, x3, x4, x5⟩ := slot_cells hx; clear g)
    | (go_at_call_of 6 (Value.int .i64 8); refine (PM _).mono ?_; rintro e y ⟨rfl, hy⟩; rw [hy])
    | (go_at_call_of 6 (Value.int .i64 5); refine (PA _).mono ?_; rintro e y ⟨rfl, hy⟩; rw [hy])
    | (go_at_call 15; refine (FJ _).mono ?_; rintro e y ⟨r, rfl, hr, g⟩; have hN := HM r hr; clear hr; replace hT := syn_below hT g; replace F := F.trans (FL.of_below g); replace ho := kept g ho; replace hx := kept g hx; obtain ⟨o0, o1, o2, o3, o4, o5, o6, o7⟩ := op_cells ho; obtain ⟨x0, x1, x2, x3, x4, x5⟩ := slot_cells hx; clear g)
    | (go_at_call 16; refine (BN _ hc.out _).mono ?_; rintro e y ⟨r, rfl, g⟩; replace hT := syn_below hT g; replace F := F.trans (FL.of_below g); replace ho := kept g ho; replace hx := kept g hx; obtain ⟨o0, o1, o2, o3, o4, o5, o6, o7⟩ := op_cells ho; obtain ⟨x0, x1, x2, x3, x4, x5⟩ := slot_cells hx; clear g)
    | (go_at_call 31; obtain ⟨N, hn1, hn2⟩ := hN.out; refine (WR _ N hn1 hn2 _).mono ?_; clear hn1 hn2; rintro e y ⟨r1, r2, rfl, hc, g⟩; replace hc : Hid (r2.size ≤ 100) := hc; replace hT := syn_below hT g; replace F := F.trans (FL.of_below g); replace ho := kept g ho; replace hx := kept g hx; obtain ⟨o0, o1, o2, o3, o4, o5, o6, o7⟩ := op_cells ho; obtain ⟨x0, x1, x2, x3, x4, x5⟩ := slot_cells hx; clear g)
    | (go_at_call 32; refine (CA _ _ _ hT.1).mono ?_; rintro e y1 ⟨rfl, hA1, g1⟩; have hB1 := syn_a hT hA1 g1; replace F := F.trans (fl_a g1))
    | (go_at_call 33; refine (CB _ _ _ hB1).mono ?_; rintro e y2 ⟨rfl, hB2, g2⟩; have hA2 := syn_b hA1 hB1 g2; replace F := F.trans (fl_b g2))
    | (go_at_call 10; refine (RA _ _ hA2).mono ?_; rintro e y3 ⟨rfl, hA3, g3⟩; have hB3 := syn_a ⟨hA2, hB2⟩ hA3 g3; replace F := F.trans (fl_a g3))
    | (go_at_call 11; refine (RB _ _ hB3).mono ?_; rintro e y4 ⟨rfl, g4⟩; have hS4 := syn_below ⟨hA3, hB3⟩ g4; replace F := F.trans (FL.of_below g4)))
  all_goals (
    go_ret
    exact ⟨_, by simp, hS4, F⟩)
set_option maxRecDepth 100000 in
set_option maxHeartbeats 1600000 in
theorem changes_out8 (b1 d1 b2 d2 n : Nat) (f : Nat → Option Held) (slot : Int) (hout : slot < 0 ∨ (n : Int) ≤ slot) (on sl al me : Int) (hal : (Lit.int .i64 al).wf = true) (hme : (Lit.int .i64 me).wf = true) (key ex text : ByteArray) (hk : key.size ≤ 1048576) (w : World) (hS : Syn w b1 d1 b2 d2 n f) :
    Calls Tryz.prog 19 #[.pointer (some ⟨b1, 0, Option.none⟩), .pointer (some ⟨b2, 0, Option.none⟩), .int .i64 slot, .agg #[.int .i64 8, .int .i64 on, .int .i64 sl, .int .i64 al, .int .i64 me, .string key, .string ex, .string text]] w
      fun e w' => ∃ f', e = .returned (.bool true) ∧ Syn w' b1 d1 b2 d2 n f' ∧ FL [b1, d1, b2, d2] w w' := by
  have FI := fun y => Ft.fitted_any key 8 (by decide) (by omega) y
  have FJ := fun y => Ft.fitted_any key 16 (by decide) (by omega) y
  have WK := fun y => weak_some 8 (.inl rfl) al hal y
  have WR := fun (k : ByteArray) N h1 h2 y => wrapped_any Option.none (fun h e => by cases e) k N h1 h2 y
  obtain ⟨p, hp, PM⟩ := Ft.pick_nat me hme 8 (by decide) (by decide)
  obtain ⟨q, hq, PA⟩ := Ft.pick_nat al hal 5 (by decide) (by decide)
  rw [show ((5 : Nat) : Int) = 5 from rfl] at PA
  rw [show ((8 : Nat) : Int) = 8 from rfl] at PM
  have BN := fun (c : ByteArray) (h : c.size ≤ 100) y => bent_any c h al hal y
  simp only [dC] at WR
  have hmx : max (0 : Int) 8 = 8 := by decide
  have HN : ∀ k : ByteArray, k.size = 8 → Hid (∃ N, k.size = 8 * N ∧ (N = 1 ∨ N = 2)) := fun k h => ⟨1, h, .inl rfl⟩
  have HM : ∀ k : ByteArray, k.size = 16 → Hid (∃ N, k.size = 8 * N ∧ (N = 1 ∨ N = 2)) := fun k h => ⟨2, h, .inr rfl⟩
  rw [show ((8 : Nat) : Int) = 8 from rfl] at FI WK
  rw [show ((16 : Nat) : Int) = 16 from rfl] at FJ
  have CA := fun wr ck y (h : Slots y b1 d1 n f) => Change_any b1 d1 n f slot (fun a e => slots_ok h slot a e) wr ck y h
  have CB := fun wr ck y (h : DSlots y b2 d2 n f) => Changer_any b2 d2 n f slot (fun a e => slots_ok hS.1 slot a e) wr ck y h
  have RA := fun f' y h => Round_any b1 d1 n f' slot y h
  have RB := fun f' y h => Roundr b2 d2 n f' slot y h
  have B1 := below_one w (Obj.cells #[.int .i64 8, .int .i64 on, .int .i64 sl, .int .i64 al, .int .i64 me, .string key, .string ex, .string text] 35)
  have B2 := keepB B1 (below_one _ (Obj.cells #[.bool false, .int .i64 0, .int .i64 0, .string ⟨#[]⟩, .string ⟨#[]⟩, .int .i64 0] 67))
  have ho : ((w.alloc (Obj.cells #[.int .i64 8, .int .i64 on, .int .i64 sl, .int .i64 al, .int .i64 me, .string key, .string ex, .string text] 35)).alloc (Obj.cells #[.bool false, .int .i64 0, .int .i64 0, .string ⟨#[]⟩, .string ⟨#[]⟩, .int .i64 0] 67)).heap[w.heap.size]? = _ := kept (below_one _ _) (h1_0 w _)
  have hx : ((w.alloc (Obj.cells #[.int .i64 8, .int .i64 on, .int .i64 sl, .int .i64 al, .int .i64 me, .string key, .string ex, .string text] 35)).alloc (Obj.cells #[.bool false, .int .i64 0, .int .i64 0, .string ⟨#[]⟩, .string ⟨#[]⟩, .int .i64 0] 67)).heap[w.heap.size + 1]? = _ := at_one w _ _
  have F : FL [b1, d1, b2, d2] w ((w.alloc (Obj.cells #[.int .i64 8, .int .i64 on, .int .i64 sl, .int .i64 al, .int .i64 me, .string key, .string ex, .string text] 35)).alloc (Obj.cells #[.bool false, .int .i64 0, .int .i64 0, .string ⟨#[]⟩, .string ⟨#[]⟩, .int .i64 0] 67)) := FL.of_below B2
  have hT := syn_below hS B2
  obtain ⟨⟨hmA, k1, k2, A1, hrA⟩, ⟨hm, n1, n2, A, hr⟩⟩ := id hS
  have cb := DMu.cell hm
  have lb : b2 < w.heap.size := Sd.lt_of_cell cb
  clear hmA k1 k2 hrA hm n1 hr
  clear hp hq hk B1 B2 hS
  go_enter Tryz.func19, Tryz.ntmps19
  go_wp2_with (first
    | (go_at_call_of 15 (Value.int .i64 8); refine (FI _).mono ?_; rintro e y ⟨r, rfl, hr, g⟩; have hN := HN r hr; clear hr; replace hT := syn_below hT g; replace F := F.trans (FL.of_below g); replace ho := kept g ho; replace hx := kept g hx; obtain ⟨o0, o1, o2, o3, o4, o5, o6, o7⟩ := op_cells ho; obtain ⟨x0, x1, x2, x3, x4, x5⟩ := slot_cells hx; clear g)
    | (go_at_call 30; refine (WK _).mono ?_; rintro e y ⟨r, rfl, hr, g⟩; have hN := HN r hr; clear hr; replace hT := syn_below hT g; replace F := F.trans (FL.of_below g); replace ho := kept g ho; replace hx := kept g hx; obtain ⟨o0, o1, o2, o3, o4, o5, o6, o7⟩ := op_cells ho; obtain ⟨x0, x1, x2, x3, x4, x5⟩ := slot_cells hx; clear g)
    | (go_at_call 31; obtain ⟨N, hn1, hn2⟩ := hN.out; refine (WR _ N hn1 hn2 _).mono ?_; clear hn1 hn2; rintro e y ⟨r1, r2, rfl, hc, g⟩; replace hc : Hid (r2.size ≤ 100) := hc; replace hT := syn_below hT g; replace F := F.trans (FL.of_below g); replace ho := kept g ho; replace hx := kept g hx; obtain ⟨o0, o1, o2, o3, o4, o5, o6, o7⟩ := op_cells ho; obtain ⟨x0, x1, x2, x3, x4, x5⟩ := slot_cells hx; clear g)
    | (go_at_call 32; refine (CA _ _ _ hT.1).mono ?_; rintro e y1 ⟨rfl, hA1, g1⟩; have hB1 := syn_a hT hA1 g1; replace F := F.trans (fl_a g1))
    | (go_at_call 33; refine (CB _ _ _ hB1).mono ?_; rintro e y2 ⟨rfl, hB2, g2⟩; have hA2 := syn_b hA1 hB1 g2; replace F := F.trans (fl_b g2))
    | (go_at_call 10; refine (RA _ _ hA2).mono ?_; rintro e y3 ⟨rfl, hA3, g3⟩; have hB3 := syn_a ⟨hA2, hB2⟩ hA3 g3; replace F := F.trans (fl_a g3))
    | (go_at_call 11; refine (RB _ _ hB3).mono ?_; rintro e y4 ⟨rfl, g4⟩; have hS4 := syn_below ⟨hA3, hB3⟩ g4; replace F := F.trans (FL.of_below g4)))
  all_goals (
    go_ret
    exact ⟨_, by simp, hS4, F⟩)
set_option maxRecDepth 100000 in
set_option maxHeartbeats 1600000 in
theorem changes_out7 (b1 d1 b2 d2 n : Nat) (f : Nat → Option Held) (slot : Int) (hout : slot < 0 ∨ (n : Int) ≤ slot) (on sl al me : Int) (hal : (Lit.int .i64 al).wf = true) (hme : (Lit.int .i64 me).wf = true) (key ex text : ByteArray) (hk : key.size ≤ 1048576) (w : World) (hS : Syn w b1 d1 b2 d2 n f) :
    Calls Tryz.prog 19 #[.pointer (some ⟨b1, 0, Option.none⟩), .pointer (some ⟨b2, 0, Option.none⟩), .int .i64 slot, .agg #[.int .i64 7, .int .i64 on, .int .i64 sl, .int .i64 al, .int .i64 me, .string key, .string ex, .string text]] w
      fun e w' => ∃ f', e = .returned (.bool true) ∧ Syn w' b1 d1 b2 d2 n f' ∧ FL [b1, d1, b2, d2] w w' := by
  have FI := fun y => Ft.fitted_any key 8 (by decide) (by omega) y
  have FJ := fun y => Ft.fitted_any key 16 (by decide) (by omega) y
  have WK := fun y => weak_some 8 (.inl rfl) al hal y
  have WR := fun (k : ByteArray) N h1 h2 y => wrapped_any Option.none (fun h e => by cases e) k N h1 h2 y
  obtain ⟨p, hp, PM⟩ := Ft.pick_nat me hme 8 (by decide) (by decide)
  obtain ⟨q, hq, PA⟩ := Ft.pick_nat al hal 5 (by decide) (by decide)
  rw [show ((5 : Nat) : Int) = 5 from rfl] at PA
  rw [show ((8 : Nat) : Int) = 8 from rfl] at PM
  have BN := fun (c : ByteArray) (h : c.size ≤ 100) y => bent_any c h al hal y
  simp only [dC] at WR
  have hmx : max (0 : Int) 8 = 8 := by decide
  have HN : ∀ k : ByteArray, k.size = 8 → Hid (∃ N, k.size = 8 * N ∧ (N = 1 ∨ N = 2)) := fun k h => ⟨1, h, .inl rfl⟩
  have HM : ∀ k : ByteArray, k.size = 16 → Hid (∃ N, k.size = 8 * N ∧ (N = 1 ∨ N = 2)) := fun k h => ⟨2, h, .inr rfl⟩
  rw [show ((8 : Nat) : Int) = 8 from rfl] at FI WK
  rw [show ((16 : Nat) : Int) = 16 from rfl] at FJ
  have CA := fun wr ck y (h : Slots y b1 d1 n f) => Change_any b1 d1 n f slot (fun a e => slots_ok h slot a e) wr ck y h
  have CB := fun wr ck y (h : DSlots y b2 d2 n f) => Changer_any b2 d2 n f slot (fun a e => slots_ok hS.1 slot a e) wr ck y h
  have RA := fun f' y h => Round_any b1 d1 n f' slot y h
  have RB := fun f' y h => Roundr b2 d2 n f' slot y h
  have B1 := below_one w (Obj.cells #[.int .i64 7, .int .i64 on, .int .i64 sl, .int .i64 al, .int .i64 me, .string key, .string ex, .string text] 35)
  have B2 := keepB B1 (below_one _ (Obj.cells #[.bool false, .int .i64 0, .int .i64 0, .string ⟨#[]⟩, .string ⟨#[]⟩, .int .i64 0] 67))
  have ho : ((w.alloc (Obj.cells #[.int .i64 7, .int .i64 on, .int .i64 sl, .int .i64 al, .int .i64 me, .string key, .string ex, .string text] 35)).alloc (Obj.cells #[.bool false, .int .i64 0, .int .i64 0, .string ⟨#[]⟩, .string ⟨#[]⟩, .int .i64 0] 67)).heap[w.heap.size]? = _ := kept (below_one _ _) (h1_0 w _)
  have hx : ((w.alloc (Obj.cells #[.int .i64 7, .int .i64 on, .int .i64 sl, .int .i64 al, .int .i64 me, .string key, .string ex, .string text] 35)).alloc (Obj.cells #[.bool false, .int .i64 0, .int .i64 0, .string ⟨#[]⟩, .string ⟨#[]⟩, .int .i64 0] 67)).heap[w.heap.size + 1]? = _ := at_one w _ _
  have F : FL [b1, d1, b2, d2] w ((w.alloc (Obj.cells #[.int .i64 7, .int .i64 on, .int .i64 sl, .int .i64 al, .int .i64 me, .string key, .string ex, .string text] 35)).alloc (Obj.cells #[.bool false, .int .i64 0, .int .i64 0, .string ⟨#[]⟩, .string ⟨#[]⟩, .int .i64 0] 67)) := FL.of_below B2
  have hT := syn_below hS B2
  obtain ⟨⟨hmA, k1, k2, A1, hrA⟩, ⟨hm, n1, n2, A, hr⟩⟩ := id hS
  have cb := DMu.cell hm
  have lb : b2 < w.heap.size := Sd.lt_of_cell cb
  clear hmA k1 k2 hrA hm n1 hr
  clear hp hq hk B1 B2 hS
  go_enter Tryz.func19, Tryz.ntmps19
  go_wp2_with (first
    | (go_at_call_of 15 (Value.int .i64 8); refine (FI _).mono ?_; rintro e y ⟨r, rfl, hr, g⟩; have hN := HN r hr; clear hr; replace hT := syn_below hT g; replace F := F.trans (FL.of_below g); replace ho := kept g ho; replace hx := kept g hx; obtain ⟨o0, o1, o2, o3, o4, o5, o6, o7⟩ := op_cells ho; obtain ⟨x0, x1, x2, x3, x4, x5⟩ := slot_cells hx; clear g)
    | (go_at_call_of 6 (Value.int .i64 8); refine (PM _).mono ?_; rintro e y ⟨rfl, hy⟩; rw [hy])
    | (go_at_call_of 6 (Value.int .i64 5); refine (PA _).mono ?_; rintro e y ⟨rfl, hy⟩; rw [hy])
    | (go_at_call 15; refine (FJ _).mono ?_; rintro e y ⟨r, rfl, hr, g⟩; have hN := HM r hr; clear hr; replace hT := syn_below hT g; replace F := F.trans (FL.of_below g); replace ho := kept g ho; replace hx := kept g hx; obtain ⟨o0, o1, o2, o3, o4, o5, o6, o7⟩ := op_cells ho; obtain ⟨x0, x1, x2, x3, x4, x5⟩ := slot_cells hx; clear g)
    | (go_at_call 16; refine (BN _ hc.out _).mono ?_; rintro e y ⟨r, rfl, g⟩; replace hT := syn_below hT g; replace F := F.trans (FL.of_below g); replace ho := kept g ho; replace hx := kept g hx; obtain ⟨o0, o1, o2, o3, o4, o5, o6, o7⟩ := op_cells ho; obtain ⟨x0, x1, x2, x3, x4, x5⟩ := slot_cells hx; clear g)
    | (go_at_call 31; obtain ⟨N, hn1, hn2⟩ := hN.out; refine (WR _ N hn1 hn2 _).mono ?_; clear hn1 hn2; rintro e y ⟨r1, r2, rfl, hc, g⟩; replace hc : Hid (r2.size ≤ 100) := hc; replace hT := syn_below hT g; replace F := F.trans (FL.of_below g); replace ho := kept g ho; replace hx := kept g hx; obtain ⟨o0, o1, o2, o3, o4, o5, o6, o7⟩ := op_cells ho; obtain ⟨x0, x1, x2, x3, x4, x5⟩ := slot_cells hx; clear g)
    | (go_at_call 32; refine (CA _ _ _ hT.1).mono ?_; rintro e y1 ⟨rfl, hA1, g1⟩; have hB1 := syn_a hT hA1 g1; replace F := F.trans (fl_a g1))
    | (go_at_call 33; refine (CB _ _ _ hB1).mono ?_; rintro e y2 ⟨rfl, hB2, g2⟩; have hA2 := syn_b hA1 hB1 g2; replace F := F.trans (fl_b g2))
    | (go_at_call 10; refine (RA _ _ hA2).mono ?_; rintro e y3 ⟨rfl, hA3, g3⟩; have hB3 := syn_a ⟨hA2, hB2⟩ hA3 g3; replace F := F.trans (fl_a g3))
    | (go_at_call 11; refine (RB _ _ hB3).mono ?_; rintro e y4 ⟨rfl, g4⟩; have hS4 := syn_below ⟨hA3, hB3⟩ g4; replace F := F.trans (FL.of_below g4)))
  all_goals (
    go_ret
    exact ⟨_, by simp, hS4, F⟩)
theorem changes_any (b1 d1 b2 d2 n : Nat) (f : Nat → Option Held) (slot k on sl al me : Int) (hk3 : k = 6 ∨ k = 7 ∨ k = 8) (hal : (Lit.int .i64 al).wf = true) (hme : (Lit.int .i64 me).wf = true) (key ex text : ByteArray) (hk : key.size ≤ 1048576) (w : World) (hS : Syn w b1 d1 b2 d2 n f) :
    Calls Tryz.prog 19 #[.pointer (some ⟨b1, 0, Option.none⟩), .pointer (some ⟨b2, 0, Option.none⟩), .int .i64 slot, .agg #[.int .i64 k, .int .i64 on, .int .i64 sl, .int .i64 al, .int .i64 me, .string key, .string ex, .string text]] w
      fun e w' => ∃ f', e = .returned (.bool true) ∧ Syn w' b1 d1 b2 d2 n f' ∧ FL [b1, d1, b2, d2] w w' := by
  rcases hk3 with rfl | rfl | rfl
  · exact changes_six b1 d1 b2 d2 n f slot on sl al me key ex text w hS
  · rcases in_or n slot with ⟨s, rfl, hs⟩ | ho
    · cases hf : f s with
      | none => exact changes_in7 b1 d1 b2 d2 n f s hs _ _ _ _ _ _ (by rw [hf]; rfl) 8 (.inl rfl) (by decide) on sl al me hal hme key ex text hk w hS
      | some h =>
        have ok := slots_ok hS.1 (s : Int) h (by rw [getO_in n s f hs]; exact hf)
        have hM : h.key.size = 8 ∨ h.key.size = 16 := by have := ok.key; rcases ok.alg with e | e <;> rw [e] at this <;> omega
        exact changes_in7 b1 d1 b2 d2 n f s hs _ _ _ _ _ _ (by rw [hf]; rfl) h.key.size hM (by omega) on sl al me hal hme key ex text hk w hS
    · exact changes_out7 b1 d1 b2 d2 n f slot ho on sl al me hal hme key ex text hk w hS
  · rcases in_or n slot with ⟨s, rfl, hs⟩ | ho
    · cases hf : f s with
      | none => exact changes_in8 b1 d1 b2 d2 n f s hs _ _ _ _ _ _ (by rw [hf]; rfl) 8 (.inl rfl) (by decide) on sl al me hal hme key ex text hk w hS
      | some h =>
        have ok := slots_ok hS.1 (s : Int) h (by rw [getO_in n s f hs]; exact hf)
        have hM : h.key.size = 8 ∨ h.key.size = 16 := by have := ok.key; rcases ok.alg with e | e <;> rw [e] at this <;> omega
        exact changes_in8 b1 d1 b2 d2 n f s hs _ _ _ _ _ _ (by rw [hf]; rfl) h.key.size hM (by omega) on sl al me hal hme key ex text hk w hS
    · exact changes_out8 b1 d1 b2 d2 n f slot ho on sl al me hal hme key ex text hk w hS
end Go.Proofs.YtpifebapodfeaaaGreat.Dm
/- play: one step of a script. -/
namespace Go.Proofs.YtpifebapodfeaaaGreat.Dn
set_option linter.unusedVariables false
open Go.RowKit Pla Cb Sm Wd Nw Bk Eb Et Cc Ch Pm Fp Sp Pe Se Tg Sd Sq Sr Dd De Rg Df Wk Sx Sy Dg Dh Sw Di Dj Dk Dl Dm
theorem near_num (c : Int) (hc : (Lit.int .i64 c).wf = true) (n : Nat) (h1 : 1 ≤ n) (hn : n ≤ 1000) : ∃ r : Int, ∀ w, Calls Tryz.prog 12 #[.int .i64 c, .int .i64 (n : Int)] w fun e w' => e = .returned (.int .i64 r) ∧ w' = w := by
  obtain ⟨p, hp, PK⟩ := Ft.pick_nat c hc (n + 2) (by omega) (by omega)
  rw [show ((n + 2 : Nat) : Int) = (n : Int) + 2 by omega] at PK
  have q : (p : Int) ≤ 1001 := by omega
  refine ⟨(p : Int) - 1, fun w => ?_⟩
  go_enter Tryz.func12, Tryz.ntmps12
  go_wp2_with (go_at_call 6; refine (PK _).mono ?_; rintro e x ⟨rfl, hx⟩; rw [hx])
  go_ret
  exact ⟨rfl, rfl⟩
theorem tagO_small (o : Option Held) (t : ByteArray) : (tagO o t).size ≤ 100 := by
  cases o with
  | none => show (ByteArray.mk #[]).size ≤ 100; decide
  | some h => show (tagB h.alg h.m h.key t).size ≤ 100; rw [tagB_size]; decide
theorem ne_emp (s : ByteArray) (h0 : ¬ s.size = 0) : s.toList.isEmpty = false := by
  have h : (s.toList == (ByteArray.mk #[]).toList) = false := (Lib.bytes_beq_false_iff s _).2 fun e => h0 (by rw [e]; rfl)
  simpa using h
end Go.Proofs.YtpifebapodfeaaaGreat.Dn
/- play: one step of a script. -/
namespace Go.Proofs.YtpifebapodfeaaaGreat.Dna
set_option linter.unusedVariables false
open Go.RowKit Pla Cb Sm Wd Nw Bk Eb Et Cc Ch Pm Fp Sp Pe Se Tg Sd Sq Sr Dd De Rg Df Wk Sx Sy Dg Dh Sw Di Dj Dk Dl Dm Dn
set_option maxRecDepth 100000 in
set_option maxHeartbeats 1600000 in
theorem play_put (b1 d1 b2 d2 n : Nat) (f : Nat → Option Held) (on sl al me : Int) (hsl : (Lit.int .i64 sl).wf = true) (hal : (Lit.int .i64 al).wf = true) (hme : (Lit.int .i64 me).wf = true) (key ex text : ByteArray) (hk : key.size ≤ 1048576) (hx : ex.size ≤ 1048576) (ht : text.size ≤ 1048576) (w : World) (hS : Syn w b1 d1 b2 d2 n f) :
    Calls Tryz.prog 7 #[.pointer (some ⟨b1, 0, Option.none⟩), .pointer (some ⟨b2, 0, Option.none⟩), .agg #[.int .i64 1, .int .i64 on, .int .i64 sl, .int .i64 al, .int .i64 me, .string key, .string ex, .string text]] w
      fun e w' => ∃ f', e = .returned (.bool true) ∧ Syn w' b1 d1 b2 d2 n f' ∧ FL [b1, d1, b2, d2] w w' := by
  obtain ⟨⟨hmA, k1, k2, A1, hrA⟩, ⟨hm, n1, n2, A, hr⟩⟩ := id hS
  have cb := DMu.cell hm
  have lb : b2 < w.heap.size := Sd.lt_of_cell cb
  obtain ⟨slot, NR⟩ := near_num sl hsl n n1 (by omega)
  have n3 : (n : Int) ≤ 32 := by omega
  have B1 := (below_one w (Obj.cells #[.int .i64 1, .int .i64 on, .int .i64 sl, .int .i64 al, .int .i64 me, .string key, .string ex, .string text] 35)).drew
  have ho : (w.alloc (Obj.cells #[.int .i64 1, .int .i64 on, .int .i64 sl, .int .i64 al, .int .i64 me, .string key, .string ex, .string text] 35)).drew.heap[w.heap.size]? = _ := h1_0 w _
  have hT := syn_below hS B1
  have Hg := syn_nm hT ho (.inl rfl)
  have F : FL [b1, d1, b2, d2] w (w.alloc (Obj.cells #[.int .i64 1, .int .i64 on, .int .i64 sl, .int .i64 al, .int .i64 me, .string key, .string ex, .string text] 35)).drew := FL.of_below B1
  have SO := fun {y : World} {f : Nat → Option Held} (h : Slots y b1 d1 n f) (a : Int) (hd : Held) e => slots_ok h a hd e
  clear hmA k1 k2 hrA hm n1 hr hS B1 hk hx ht hsl hal hme
  go_enter Tryz.func7, Tryz.ntmps7
  go_wp2
  go_region_with (go_at_call 12; refine (NR _).mono ?_; rintro e y ⟨rfl, rfl⟩)
  all_goals (go_wp2_with (first
    | (go_at_call 13; refine (Put_any b1 d1 n f _ _ _ _ _ _ hT.1).mono ?_; rintro e y ⟨rfl, hA, g⟩; have hB := syn_a hT hA g; replace F := F.trans (fl_a g); replace ho := (fl_a g).keep ho Hg; obtain ⟨o0, o1, o2, o3, o4, o5, o6, o7⟩ := op_cells ho; clear g)
    | (go_at_call 14; refine (Putr_any b2 d2 n f _ _ _ _ _ _ hB).mono ?_; rintro e y ⟨rfl, hB2, g⟩; replace hT := And.intro (syn_b hA hB g) hB2; replace F := F.trans (fl_b g); clear g)))
  all_goals (
    go_ret
    exact ⟨_, by simp, hT, F⟩)
set_option maxRecDepth 100000 in
set_option maxHeartbeats 1600000 in
theorem play_right (b1 d1 b2 d2 n : Nat) (f : Nat → Option Held) (on sl al me : Int) (hsl : (Lit.int .i64 sl).wf = true) (hal : (Lit.int .i64 al).wf = true) (hme : (Lit.int .i64 me).wf = true) (key ex text : ByteArray) (hk : key.size ≤ 1048576) (hx : ex.size ≤ 1048576) (ht : text.size ≤ 1048576) (w : World) (hS : Syn w b1 d1 b2 d2 n f) :
    Calls Tryz.prog 7 #[.pointer (some ⟨b1, 0, Option.none⟩), .pointer (some ⟨b2, 0, Option.none⟩), .agg #[.int .i64 4, .int .i64 on, .int .i64 sl, .int .i64 al, .int .i64 me, .string key, .string ex, .string text]] w
      fun e w' => ∃ f', e = .returned (.bool true) ∧ Syn w' b1 d1 b2 d2 n f' ∧ FL [b1, d1, b2, d2] w w' := by
  obtain ⟨⟨hmA, k1, k2, A1, hrA⟩, ⟨hm, n1, n2, A, hr⟩⟩ := id hS
  have cb := DMu.cell hm
  have lb : b2 < w.heap.size := Sd.lt_of_cell cb
  obtain ⟨slot, NR⟩ := near_num sl hsl n n1 (by omega)
  have n3 : (n : Int) ≤ 32 := by omega
  have B1 := (below_one w (Obj.cells #[.int .i64 4, .int .i64 on, .int .i64 sl, .int .i64 al, .int .i64 me, .string key, .string ex, .string text] 35)).drew
  have ho : (w.alloc (Obj.cells #[.int .i64 4, .int .i64 on, .int .i64 sl, .int .i64 al, .int .i64 me, .string key, .string ex, .string text] 35)).drew.heap[w.heap.size]? = _ := h1_0 w _
  have hT := syn_below hS B1
  have Hg := syn_nm hT ho (.inl rfl)
  have F : FL [b1, d1, b2, d2] w (w.alloc (Obj.cells #[.int .i64 4, .int .i64 on, .int .i64 sl, .int .i64 al, .int .i64 me, .string key, .string ex, .string text] 35)).drew := FL.of_below B1
  have SO := fun {y : World} {f : Nat → Option Held} (h : Slots y b1 d1 n f) (a : Int) (hd : Held) e => slots_ok h a hd e
  have TB := fun slot y (h : Syn y b1 d1 b2 d2 n f) => Tagr b2 d2 n f slot (fun hd e => slots_ok h.1 slot hd e) text (by omega) y h.2
  have GA := fun slot tag y h => Right_any b1 d1 n f slot text tag (by omega) y h
  have GB := fun slot tag y (h : Syn y b1 d1 b2 d2 n f) => Rightr b2 d2 n f slot (fun hd e => slots_ok h.1 slot hd e) text tag (by omega) y h.2
  clear hmA k1 k2 hrA hm n1 hr hS B1 hk hx ht hsl hal hme
  go_enter Tryz.func7, Tryz.ntmps7
  go_wp2
  go_region_with (go_at_call 12; refine (NR _).mono ?_; rintro e y ⟨rfl, rfl⟩)
  all_goals (go_wp2_with (first
    | (go_at_call 17; refine (GA _ _ _ hT.1).mono ?_; rintro e y ⟨rfl, hA, g⟩; replace hT := And.intro hA (syn_a hT hA g); replace F := F.trans (fl_a g); replace ho := (fl_a g).keep ho Hg; obtain ⟨o0, o1, o2, o3, o4, o5, o6, o7⟩ := op_cells ho; clear g hA)
    | (go_at_call 18; refine (GB _ _ _ hT).mono ?_; rintro e y ⟨rfl, g⟩; replace hT := syn_below hT g; replace F := F.trans (FL.of_below g); replace ho := kept g ho; obtain ⟨o0, o1, o2, o3, o4, o5, o6, o7⟩ := op_cells ho; clear g)))
  all_goals (
    go_ret
    exact ⟨_, by simp, hT, F⟩)
set_option maxRecDepth 100000 in
set_option maxHeartbeats 1600000 in
theorem play_other (b1 d1 b2 d2 n : Nat) (f : Nat → Option Held) (k : Int) (on sl al me : Int) (hk9 : k < 1 ∨ 8 < k) (hsl : (Lit.int .i64 sl).wf = true) (hal : (Lit.int .i64 al).wf = true) (hme : (Lit.int .i64 me).wf = true) (key ex text : ByteArray) (hk : key.size ≤ 1048576) (hx : ex.size ≤ 1048576) (ht : text.size ≤ 1048576) (w : World) (hS : Syn w b1 d1 b2 d2 n f) :
    Calls Tryz.prog 7 #[.pointer (some ⟨b1, 0, Option.none⟩), .pointer (some ⟨b2, 0, Option.none⟩), .agg #[.int .i64 k, .int .i64 on, .int .i64 sl, .int .i64 al, .int .i64 me, .string key, .string ex, .string text]] w
      fun e w' => ∃ f', e = .returned (.bool true) ∧ Syn w' b1 d1 b2 d2 n f' ∧ FL [b1, d1, b2, d2] w w' := by
  obtain ⟨⟨hmA, k1, k2, A1, hrA⟩, ⟨hm, n1, n2, A, hr⟩⟩ := id hS
  have cb := DMu.cell hm
  have lb : b2 < w.heap.size := Sd.lt_of_cell cb
  obtain ⟨slot, NR⟩ := near_num sl hsl n n1 (by omega)
  have n3 : (n : Int) ≤ 32 := by omega
  have B1 := (below_one w (Obj.cells #[.int .i64 k, .int .i64 on, .int .i64 sl, .int .i64 al, .int .i64 me, .string key, .string ex, .string text] 35)).drew
  have ho : (w.alloc (Obj.cells #[.int .i64 k, .int .i64 on, .int .i64 sl, .int .i64 al, .int .i64 me, .string key, .string ex, .string text] 35)).drew.heap[w.heap.size]? = _ := h1_0 w _
  have hT := syn_below hS B1
  have Hg := syn_nm hT ho (.inl rfl)
  have F : FL [b1, d1, b2, d2] w (w.alloc (Obj.cells #[.int .i64 k, .int .i64 on, .int .i64 sl, .int .i64 al, .int .i64 me, .string key, .string ex, .string text] 35)).drew := FL.of_below B1
  have SO := fun {y : World} {f : Nat → Option Held} (h : Slots y b1 d1 n f) (a : Int) (hd : Held) e => slots_ok h a hd e
  have z1 : (k == 1) = false := by simp only [beq_eq_false_iff_ne]; omega
  have z2 : (k == 2) = false := by simp only [beq_eq_false_iff_ne]; omega
  have z3 : (k == 3) = false := by simp only [beq_eq_false_iff_ne]; omega
  have z4 : (k == 4) = false := by simp only [beq_eq_false_iff_ne]; omega
  have z5 : (k == 5) = false := by simp only [beq_eq_false_iff_ne]; omega
  have z6 : (k == 6) = false := by simp only [beq_eq_false_iff_ne]; omega
  have z7 : (k == 7) = false := by simp only [beq_eq_false_iff_ne]; omega
  have z8 : (k == 8) = false := by simp only [beq_eq_false_iff_ne]; omega
  clear hmA k1 k2 hrA hm n1 hr hS B1 hk hx ht hsl hal hme hk9
  go_enter Tryz.func7, Tryz.ntmps7
  go_wp2
  go_region_with (go_at_call 12; refine (NR _).mono ?_; rintro e y ⟨rfl, rfl⟩)
  all_goals (go_wp2_with (first
    | fail))
  all_goals (
    go_ret
    exact ⟨_, by simp, hT, F⟩)
end Go.Proofs.YtpifebapodfeaaaGreat.Dna
