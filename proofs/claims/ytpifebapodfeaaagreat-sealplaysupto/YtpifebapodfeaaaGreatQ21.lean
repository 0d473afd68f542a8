import Derived.Test.YtpifebapodfeaaaGreatQ20
import Derived.Deep.RegionHeld3
/- play: one step of a script. -/
namespace Go.Proofs.YtpifebapodfeaaaGreat.Dnb
set_option linter.unusedVariables false
open Go.RowKit Pla Cb Sm Wd Nw Bk Eb Et Cc Ch Pm Fp Sp Pe Se Tg Sd Sq Sr Dd De Rg Df Wk Sx Sy Dg Dh Sw Di Dj Dk Dl Dm Dn
set_option maxRecDepth 100000 in
set_option maxHeartbeats 1600000 in
theorem play_fit (b1 d1 b2 d2 n : Nat) (f : Nat → Option Held) (on sl al me : Int) (hsl : (Lit.int .i64 sl).wf = true) (hal : (Lit.int .i64 al).wf = true) (hme : (Lit.int .i64 me).wf = true) (key ex text : ByteArray) (hk : key.size ≤ 1048576) (hx : ex.size ≤ 1048576) (h0 : ¬ ex.size = 0) (ht : text.size ≤ 1048576) (w : World) (hS : Syn w b1 d1 b2 d2 n f) :
    Calls Tryz.prog 7 #[.pointer (some ⟨b1, 0, Option.none⟩), .pointer (some ⟨b2, 0, Option.none⟩), .agg #[.int .i64 2, .int .i64 on, .int .i64 sl, .int .i64 al, .int .i64 me, .string key, .string ex, .string text]] w
      fun e w' => ∃ f', e = .returned (.bool true) ∧ Syn w' b1 d1 b2 d2 n f' ∧ FL [b1, d1, b2, d2] w w' := by
  obtain ⟨⟨hmA, k1, k2, A1, hrA⟩, ⟨hm, n1, n2, A, hr⟩⟩ := id hS
  have cb := DMu.cell hm
  have lb : b2 < w.heap.size := Sd.lt_of_cell cb
  obtain ⟨slot, NR⟩ := near_num sl hsl n n1 (by omega)
  have n3 : (n : Int) ≤ 32 := by omega
  have B1 := (below_one w (Obj.cells #[.int .i64 2, .int .i64 on, .int .i64 sl, .int .i64 al, .int .i64 me, .string key, .string ex, .string text] 35)).drew
  have ho : (w.alloc (Obj.cells #[.int .i64 2, .int .i64 on, .int .i64 sl, .int .i64 al, .int .i64 me, .string key, .string ex, .string text] 35)).drew.heap[w.heap.size]? = _ := h1_0 w _
  have hT := syn_below hS B1
  have Hg := syn_nm hT ho (.inl rfl)
  have F : FL [b1, d1, b2, d2] w (w.alloc (Obj.cells #[.int .i64 2, .int .i64 on, .int .i64 sl, .int .i64 al, .int .i64 me, .string key, .string ex, .string text] 35)).drew := FL.of_below B1
  have SO := fun {y : World} {f : Nat → Option Held} (h : Slots y b1 d1 n f) (a : Int) (hd : Held) e => slots_ok h a hd e
  obtain ⟨p, hp, PA⟩ := Ft.pick_nat al hal 2 (by decide) (by decide)
  obtain ⟨q, hq, PM⟩ := Ft.pick_nat me hme 2 (by decide) (by decide)
  rw [show ((2 : Nat) : Int) = 2 from rfl] at PA PM
  have FK := fun y => Ft.fitted_any key (4 + 4 * (1 + 2 * p)) (by omega) (by omega) y
  have FX := fun y => Ft.fitted_any ex 16 (by decide) (by omega) y
  rw [show ((16 : Nat) : Int) = 16 from rfl] at FX
  obtain ⟨Al, hAl⟩ : ∃ Al : Int, Al = 1 + 2 * (p : Int) := ⟨_, rfl⟩
  rw [show ((4 + 4 * (1 + 2 * p) : Nat) : Int) = 4 + 4 * Al by omega] at FK
  have l0 : (0 : Int) ≤ (p : Int) := by omega
  have l1 : (p : Int) ≤ 1 := by omega
  have m0 : (0 : Int) ≤ (q : Int) := by omega
  have m1 : (q : Int) ≤ 1 := by omega
  have g1 : (1 : Int) ≤ Al := by omega
  have g2 : Al ≤ 3 := by omega
  have hA' := hAl.symm
  have e1 := ne_emp ex h0
  clear hmA k1 k2 hrA hm n1 hr hS B1 hk hx ht hsl hal hme hAl hp hq h0
  go_enter Tryz.func7, Tryz.ntmps7
  go_wp2
  go_region_with (go_at_call 12; refine (NR _).mono ?_; rintro e y ⟨rfl, rfl⟩)
  all_goals (go_wp2_with (first
    | (go_at_call_of 6 (Value.int .i64 al); refine (PA _).mono ?_; rintro e y ⟨rfl, hy⟩; rw [hy])
    | (go_at_call_of 6 (Value.int .i64 me); refine (PM _).mono ?_; rintro e y ⟨rfl, hy⟩; rw [hy])
    | (go_at_call_of 15 (Value.string key); refine (FK _).mono ?_; rintro e y ⟨r, rfl, hr, g⟩; clear hr; replace hT := syn_below hT g; replace F := F.trans (FL.of_below g); replace ho := kept g ho; obtain ⟨o0, o1, o2, o3, o4, o5, o6, o7⟩ := op_cells ho; clear g)
    | (go_at_call 15; refine (FX _).mono ?_; rintro e y ⟨r, rfl, hr, g⟩; clear hr; replace hT := syn_below hT g; replace F := F.trans (FL.of_below g); replace ho := kept g ho; obtain ⟨o0, o1, o2, o3, o4, o5, o6, o7⟩ := op_cells ho; clear g)
    | (go_at_call 13; refine (Put_any b1 d1 n f _ _ _ _ _ _ hT.1).mono ?_; rintro e y ⟨rfl, hA, g⟩; have hB := syn_a hT hA g; replace F := F.trans (fl_a g); replace ho := (fl_a g).keep ho Hg; obtain ⟨o0, o1, o2, o3, o4, o5, o6, o7⟩ := op_cells ho; clear g)
    | (go_at_call 14; refine (Putr_any b2 d2 n f _ _ _ _ _ _ hB).mono ?_; rintro e y ⟨rfl, hB2, g⟩; replace hT := And.intro (syn_b hA hB g) hB2; replace F := F.trans (fl_b g); clear g)))
  all_goals (
    go_ret
    exact ⟨_, by simp, hT, F⟩)
set_option maxRecDepth 100000 in
set_option maxHeartbeats 1600000 in
theorem play_fit0 (b1 d1 b2 d2 n : Nat) (f : Nat → Option Held) (on sl al me : Int) (hsl : (Lit.int .i64 sl).wf = true) (hal : (Lit.int .i64 al).wf = true) (hme : (Lit.int .i64 me).wf = true) (key text : ByteArray) (hk : key.size ≤ 1048576) (ht : text.size ≤ 1048576) (w : World) (hS : Syn w b1 d1 b2 d2 n f) :
    Calls Tryz.prog 7 #[.pointer (some ⟨b1, 0, Option.none⟩), .pointer (some ⟨b2, 0, Option.none⟩), .agg #[.int .i64 2, .int .i64 on, .int .i64 sl, .int .i64 al, .int .i64 me, .string key, .string ⟨#[]⟩, .string text]] w
      fun e w' => ∃ f', e = .returned (.bool true) ∧ Syn w' b1 d1 b2 d2 n f' ∧ FL [b1, d1, b2, d2] w w' := by
  obtain ⟨⟨hmA, k1, k2, A1, hrA⟩, ⟨hm, n1, n2, A, hr⟩⟩ := id hS
  have cb := DMu.cell hm
  have lb : b2 < w.heap.size := Sd.lt_of_cell cb
  obtain ⟨slot, NR⟩ := near_num sl hsl n n1 (by omega)
  have n3 : (n : Int) ≤ 32 := by omega
  have B1 := (below_one w (Obj.cells #[.int .i64 2, .int .i64 on, .int .i64 sl, .int .i64 al, .int .i64 me, .string key, .string ⟨#[]⟩, .string text] 35)).drew
  have ho : (w.alloc (Obj.cells #[.int .i64 2, .int .i64 on, .int .i64 sl, .int .i64 al, .int .i64 me, .string key, .string ⟨#[]⟩, .string text] 35)).drew.heap[w.heap.size]? = _ := h1_0 w _
  have hT := syn_below hS B1
  have Hg := syn_nm hT ho (.inl rfl)
  have F : FL [b1, d1, b2, d2] w (w.alloc (Obj.cells #[.int .i64 2, .int .i64 on, .int .i64 sl, .int .i64 al, .int .i64 me, .string key, .string ⟨#[]⟩, .string text] 35)).drew := FL.of_below B1
  have SO := fun {y : World} {f : Nat → Option Held} (h : Slots y b1 d1 n f) (a : Int) (hd : Held) e => slots_ok h a hd e
  obtain ⟨p, hp, PA⟩ := Ft.pick_nat al hal 2 (by decide) (by decide)
  obtain ⟨q, hq, PM⟩ := Ft.pick_nat me hme 2 (by decide) (by decide)
  rw [show ((2 : Nat) : Int) = 2 from rfl] at PA PM
  have FK := fun y => Ft.fitted_any key (4 + 4 * (1 + 2 * p)) (by omega) (by omega) y
  obtain ⟨Al, hAl⟩ : ∃ Al : Int, Al = 1 + 2 * (p : Int) := ⟨_, rfl⟩
  rw [show ((4 + 4 * (1 + 2 * p) : Nat) : Int) = 4 + 4 * Al by omega] at FK
  have l0 : (0 : Int) ≤ (p : Int) := by omega
  have l1 : (p : Int) ≤ 1 := by omega
  have m0 : (0 : Int) ≤ (q : Int) := by omega
  have m1 : (q : Int) ≤ 1 := by omega
  have g1 : (1 : Int) ≤ Al := by omega
  have g2 : Al ≤ 3 := by omega
  have hA' := hAl.symm
  clear hmA k1 k2 hrA hm n1 hr hS B1 hk ht hsl hal hme hAl hp hq
  go_enter Tryz.func7, Tryz.ntmps7
  go_wp2
  go_region_with (go_at_call 12; refine (NR _).mono ?_; rintro e y ⟨rfl, rfl⟩)
  all_goals (go_wp2_with (first
    | (go_at_call_of 6 (Value.int .i64 al); refine (PA _).mono ?_; rintro e y ⟨rfl, hy⟩; rw [hy])
    | (go_at_call_of 6 (Value.int .i64 me); refine (PM _).mono ?_; rintro e y ⟨rfl, hy⟩; rw [hy])
    | (go_at_call_of 15 (Value.string key); refine (FK _).mono ?_; rintro e y ⟨r, rfl, hr, g⟩; clear hr; replace hT := syn_below hT g; replace F := F.trans (FL.of_below g); replace ho := kept g ho; obtain ⟨o0, o1, o2, o3, o4, o5, o6, o7⟩ := op_cells ho; clear g)
    | (go_at_call 13; refine (Put_any b1 d1 n f _ _ _ _ _ _ hT.1).mono ?_; rintro e y ⟨rfl, hA, g⟩; have hB := syn_a hT hA g; replace F := F.trans (fl_a g); replace ho := (fl_a g).keep ho Hg; obtain ⟨o0, o1, o2, o3, o4, o5, o6, o7⟩ := op_cells ho; clear g)
    | (go_at_call 14; refine (Putr_any b2 d2 n f _ _ _ _ _ _ hB).mono ?_; rintro e y ⟨rfl, hB2, g⟩; replace hT := And.intro (syn_b hA hB g) hB2; replace F := F.trans (fl_b g); clear g)))
  all_goals (
    go_ret
    exact ⟨_, by simp, hT, F⟩)
end Go.Proofs.YtpifebapodfeaaaGreat.Dnb
/- play: one step of a script. -/
namespace Go.Proofs.YtpifebapodfeaaaGreat.Dnc
set_option linter.unusedVariables false
open Go.RowKit Pla Cb Sm Wd Nw Bk Eb Et Cc Ch Pm Fp Sp Pe Se Tg Sd Sq Sr Dd De Rg Df Wk Sx Sy Dg Dh Sw Di Dj Dk Dl Dm Dn
set_option maxRecDepth 100000 in
set_option maxHeartbeats 1600000 in
theorem play_tag (b1 d1 b2 d2 n : Nat) (f : Nat → Option Held) (on sl al me : Int) (hsl : (Lit.int .i64 sl).wf = true) (hal : (Lit.int .i64 al).wf = true) (hme : (Lit.int .i64 me).wf = true) (key ex text : ByteArray) (hk : key.size ≤ 1048576) (hx : ex.size ≤ 1048576) (ht : text.size ≤ 1048576) (w : World) (hS : Syn w b1 d1 b2 d2 n f) :
    Calls Tryz.prog 7 #[.pointer (some ⟨b1, 0, Option.none⟩), .pointer (some ⟨b2, 0, Option.none⟩), .agg #[.int .i64 3, .int .i64 on, .int .i64 sl, .int .i64 al, .int .i64 me, .string key, .string ex, .string text]] w
      fun e w' => ∃ f', e = .returned (.bool true) ∧ Syn w' b1 d1 b2 d2 n f' ∧ FL [b1, d1, b2, d2] w w' := by
  obtain ⟨⟨hmA, k1, k2, A1, hrA⟩, ⟨hm, n1, n2, A, hr⟩⟩ := id hS
  have cb := DMu.cell hm
  have lb : b2 < w.heap.size := Sd.lt_of_cell cb
  obtain ⟨slot, NR⟩ := near_num sl hsl n n1 (by omega)
  have n3 : (n : Int) ≤ 32 := by omega
  have B1 := (below_one w (Obj.cells #[.int .i64 3, .int .i64 on, .int .i64 sl, .int .i64 al, .int .i64 me, .string key, .string ex, .string text] 35)).drew
  have ho : (w.alloc (Obj.cells #[.int .i64 3, .int .i64 on, .int .i64 sl, .int .i64 al, .int .i64 me, .string key, .string ex, .string text] 35)).drew.heap[w.heap.size]? = _ := h1_0 w _
  have hT := syn_below hS B1
  have Hg := syn_nm hT ho (.inl rfl)
  have F : FL [b1, d1, b2, d2] w (w.alloc (Obj.cells #[.int .i64 3, .int .i64 on, .int .i64 sl, .int .i64 al, .int .i64 me, .string key, .string ex, .string text] 35)).drew := FL.of_below B1
  have SO := fun {y : World} {f : Nat → Option Held} (h : Slots y b1 d1 n f) (a : Int) (hd : Held) e => slots_ok h a hd e
  have TA := fun slot y h => Tag_any b1 d1 n f slot text (by omega) y h
  have TB := fun slot y (h : Syn y b1 d1 b2 d2 n f) => Tagr b2 d2 n f slot (fun hd e => slots_ok h.1 slot hd e) text (by omega) y h.2
  have RA := fun slot y h => Round_any b1 d1 n f slot y h
  have RB := fun slot y h => Roundr b2 d2 n f slot y h
  clear hmA k1 k2 hrA hm n1 hr hS B1 hk hx ht hsl hal hme
  go_enter Tryz.func7, Tryz.ntmps7
  go_wp2
  go_region_with (go_at_call 12; refine (NR _).mono ?_; rintro e y ⟨rfl, rfl⟩)
  all_goals (go_wp2_with (first
    | (go_at_call 8; refine (TA _ _ hT.1).mono ?_; rintro e y ⟨rfl, hA, g⟩; replace hT := And.intro hA (syn_a hT hA g); replace F := F.trans (fl_a g); replace ho := (fl_a g).keep ho Hg; obtain ⟨o0, o1, o2, o3, o4, o5, o6, o7⟩ := op_cells ho; clear g hA)
    | (go_at_call 9; refine (TB _ _ hT).mono ?_; rintro e y ⟨rfl, g⟩; replace hT := syn_below hT g; replace F := F.trans (FL.of_below g); replace ho := kept g ho; obtain ⟨o0, o1, o2, o3, o4, o5, o6, o7⟩ := op_cells ho; clear g)))
  all_goals (
    have g := (Below.refl y.heap.size y).drew
    replace hT := syn_below hT g; replace F := F.trans (FL.of_below g); replace ho := kept g ho; obtain ⟨o0, o1, o2, o3, o4, o5, o6, o7⟩ := op_cells ho; clear g
    generalize tagO (getO n f slot) text = TT at *
    generalize tagE (getO n f slot) = TE at *
    generalize (roundOf (getO n f slot) : Int) = R1 at *
    generalize (roundOf (getO n f sl) : Int) = R2 at *
    go_region_held3 (fun z => z.cell? ⟨w.heap.size, 2, Option.none⟩ = some (.int .i64 sl)) (exact o2) (first
    | (go_at_call 10; refine (RA _ _ hT.1).mono ?_; rintro e y ⟨rfl, hA, g⟩; replace hT := And.intro hA (syn_a hT hA g); replace F := F.trans (fl_a g); replace ho := (fl_a g).keep ho Hg; obtain ⟨o0, o1, o2, o3, o4, o5, o6, o7⟩ := op_cells ho; clear g hA)
    | (go_at_call 11; refine (RB _ _ hT.2).mono ?_; rintro e y ⟨rfl, g⟩; replace hT := syn_below hT g; replace F := F.trans (FL.of_below g); replace ho := kept g ho; obtain ⟨o0, o1, o2, o3, o4, o5, o6, o7⟩ := op_cells ho; clear g))
    go_wp2)
  all_goals (
    go_ret
    exact ⟨_, by simp, hT, F⟩)
end Go.Proofs.YtpifebapodfeaaaGreat.Dnc
/- play: one step of a script. -/
namespace Go.Proofs.YtpifebapodfeaaaGreat.Dnd
set_option linter.unusedVariables false
open Go.RowKit Pla Cb Sm Wd Nw Bk Eb Et Cc Ch Pm Fp Sp Pe Se Tg Sd Sq Sr Dd De Rg Df Wk Sx Sy Dg Dh Sw Di Dj Dk Dl Dm Dn
set_option maxRecDepth 100000 in
set_option maxHeartbeats 1600000 in
theorem play_own (b1 d1 b2 d2 n : Nat) (f : Nat → Option Held) (on sl al me : Int) (hsl : (Lit.int .i64 sl).wf = true) (hal : (Lit.int .i64 al).wf = true) (hme : (Lit.int .i64 me).wf = true) (key ex text : ByteArray) (hk : key.size ≤ 1048576) (hx : ex.size ≤ 1048576) (ht : text.size ≤ 1048576) (w : World) (hS : Syn w b1 d1 b2 d2 n f) :
    Calls Tryz.prog 7 #[.pointer (some ⟨b1, 0, Option.none⟩), .pointer (some ⟨b2, 0, Option.none⟩), .agg #[.int .i64 5, .int .i64 on, .int .i64 sl, .int .i64 al, .int .i64 me, .string key, .string ex, .string text]] w
      fun e w' => ∃ f', e = .returned (.bool true) ∧ Syn w' b1 d1 b2 d2 n f' ∧ FL [b1, d1, b2, d2] w w' := by
  obtain ⟨⟨hmA, k1, k2, A1, hrA⟩, ⟨hm, n1, n2, A, hr⟩⟩ := id hS
  have cb := DMu.cell hm
  have lb : b2 < w.heap.size := Sd.lt_of_cell cb
  obtain ⟨slot, NR⟩ := near_num sl hsl n n1 (by omega)
  have n3 : (n : Int) ≤ 32 := by omega
  have B1 := (below_one w (Obj.cells #[.int .i64 5, .int .i64 on, .int .i64 sl, .int .i64 al, .int .i64 me, .string key, .string ex, .string text] 35)).drew
  have ho : (w.alloc (Obj.cells #[.int .i64 5, .int .i64 on, .int .i64 sl, .int .i64 al, .int .i64 me, .string key, .string ex, .string text] 35)).drew.heap[w.heap.size]? = _ := h1_0 w _
  have hT := syn_below hS B1
  have Hg := syn_nm hT ho (.inl rfl)
  have F : FL [b1, d1, b2, d2] w (w.alloc (Obj.cells #[.int .i64 5, .int .i64 on, .int .i64 sl, .int .i64 al, .int .i64 me, .string key, .string ex, .string text] 35)).drew := FL.of_below B1
  have SO := fun {y : World} {f : Nat → Option Held} (h : Slots y b1 d1 n f) (a : Int) (hd : Held) e => slots_ok h a hd e
  have TB := fun slot y (h : Syn y b1 d1 b2 d2 n f) => Tagr b2 d2 n f slot (fun hd e => slots_ok h.1 slot hd e) text (by omega) y h.2
  have GA := fun slot tag y h => Right_any b1 d1 n f slot text tag (by omega) y h
  have GB := fun slot tag y (h : Syn y b1 d1 b2 d2 n f) => Rightr b2 d2 n f slot (fun hd e => slots_ok h.1 slot hd e) text tag (by omega) y h.2
  obtain ⟨q, hq, PA⟩ := Ft.pick_nat al hal 3 (by decide) (by decide)
  rw [show ((3 : Nat) : Int) = 3 from rfl] at PA
  have BN := fun (c : ByteArray) (h : c.size ≤ 100) y => bent_any c h al hal y
  clear hmA k1 k2 hrA hm n1 hr hS B1 hk hx ht hsl hal hme hq
  go_enter Tryz.func7, Tryz.ntmps7
  go_wp2
  go_region_with (go_at_call 12; refine (NR _).mono ?_; rintro e y ⟨rfl, rfl⟩)
  all_goals (go_wp2_with (first
    | (go_at_call 9; refine (TB _ _ hT).mono ?_; rintro e y ⟨rfl, g⟩; replace hT := syn_below hT g; replace F := F.trans (FL.of_below g); replace ho := kept g ho; obtain ⟨o0, o1, o2, o3, o4, o5, o6, o7⟩ := op_cells ho; clear g)
    | (go_at_call 6; refine (PA _).mono ?_; rintro e y ⟨rfl, hy⟩; rw [hy])
    | (go_at_call 16; refine (BN _ (tagO_small _ _) _).mono ?_; rintro e y ⟨r, rfl, g⟩; replace hT := syn_below hT g; replace F := F.trans (FL.of_below g); replace ho := kept g ho; obtain ⟨o0, o1, o2, o3, o4, o5, o6, o7⟩ := op_cells ho; clear g)
    | (go_at_call 17; refine (GA _ _ _ hT.1).mono ?_; rintro e y ⟨rfl, hA, g⟩; replace hT := And.intro hA (syn_a hT hA g); replace F := F.trans (fl_a g); replace ho := (fl_a g).keep ho Hg; obtain ⟨o0, o1, o2, o3, o4, o5, o6, o7⟩ := op_cells ho; clear g hA)
    | (go_at_call 18; refine (GB _ _ _ hT).mono ?_; rintro e y ⟨rfl, g⟩; replace hT := syn_below hT g; replace F := F.trans (FL.of_below g); replace ho := kept g ho; obtain ⟨o0, o1, o2, o3, o4, o5, o6, o7⟩ := op_cells ho; clear g)))
  all_goals (
    go_ret
    exact ⟨_, by simp, hT, F⟩)
set_option maxRecDepth 100000 in
set_option maxHeartbeats 1600000 in
theorem play_change (b1 d1 b2 d2 n : Nat) (f : Nat → Option Held) (k : Int) (on sl al me : Int) (hk3 : k = 6 ∨ k = 7 ∨ k = 8) (hsl : (Lit.int .i64 sl).wf = true) (hal : (Lit.int .i64 al).wf = true) (hme : (Lit.int .i64 me).wf = true) (key ex text : ByteArray) (hk : key.size ≤ 1048576) (hx : ex.size ≤ 1048576) (ht : text.size ≤ 1048576) (w : World) (hS : Syn w b1 d1 b2 d2 n f) :
    Calls Tryz.prog 7 #[.pointer (some ⟨b1, 0, Option.none⟩), .pointer (some ⟨b2, 0, Option.none⟩), .agg #[.int .i64 k, .int .i64 on, .int .i64 sl, .int .i64 al, .int .i64 me, .string key, .string ex, .string text]] w
      fun e w' => ∃ f', e = .returned (.bool true) ∧ Syn w' b1 d1 b2 d2 n f' ∧ FL [b1, d1, b2, d2] w w' := by
  obtain ⟨⟨hmA, k1, k2, A1, hrA⟩, ⟨hm, n1, n2, A, hr⟩⟩ := id hS
  have cb := DMu.cell hm
  have lb : b2 < w.heap.size := Sd.lt_of_cell cb
  obtain ⟨slot, NR⟩ := near_num sl hsl n n1 (by omega)
  have n3 : (n : Int) ≤ 32 := by omega
  have B1 := (below_one w (Obj.cells #[.int .i64 k, .int .i64 on, .int .i64 sl, .int .i64 al, .int .i64 me, .string key, .string ex, .string text] 35)).drew
  have ho : (w.alloc (Obj.cells #[.int .i64 k, .int .i64 on, .int .i64 sl, .int .i64 al, .int .i64 me, .string key, .string ex, .string text] 35)).drew.heap[w.heap.size]? = _ := h1_0 w _
  have hT := syn_below hS B1
  have Hg := syn_nm hT ho (.inl rfl)
  have F : FL [b1, d1, b2, d2] w (w.alloc (Obj.cells #[.int .i64 k, .int .i64 on, .int .i64 sl, .int .i64 al, .int .i64 me, .string key, .string ex, .string text] 35)).drew := FL.of_below B1
  have SO := fun {y : World} {f : Nat → Option Held} (h : Slots y b1 d1 n f) (a : Int) (hd : Held) e => slots_ok h a hd e
  have CH := fun slot y h => changes_any b1 d1 b2 d2 n f slot k on sl al me hk3 hal hme key ex text hk y h
  rcases hk3 with rfl | rfl | rfl
  · clear hmA k1 k2 hrA hm n1 hr hS B1 hk hx ht hsl hal hme
    go_enter Tryz.func7, Tryz.ntmps7
    go_wp2
    go_region_with (go_at_call 12; refine (NR _).mono ?_; rintro e y ⟨rfl, rfl⟩)
    all_goals (go_wp2_with (first
      | (go_at_call 19; refine (CH _ _ hT).mono ?_; rintro e y ⟨f2, rfl, hT2, g⟩; replace F := F.trans g)))
    all_goals (
      go_ret
      exact ⟨_, by simp, hT2, F⟩)
  · clear hmA k1 k2 hrA hm n1 hr hS B1 hk hx ht hsl hal hme
    go_enter Tryz.func7, Tryz.ntmps7
    go_wp2
    go_region_with (go_at_call 12; refine (NR _).mono ?_; rintro e y ⟨rfl, rfl⟩)
    all_goals (go_wp2_with (first
      | (go_at_call 19; refine (CH _ _ hT).mono ?_; rintro e y ⟨f2, rfl, hT2, g⟩; replace F := F.trans g)))
    all_goals (
      go_ret
      exact ⟨_, by simp, hT2, F⟩)
  · clear hmA k1 k2 hrA hm n1 hr hS B1 hk hx ht hsl hal hme
    go_enter Tryz.func7, Tryz.ntmps7
    go_wp2
    go_region_with (go_at_call 12; refine (NR _).mono ?_; rintro e y ⟨rfl, rfl⟩)
    all_goals (go_wp2_with (first
      | (go_at_call 19; refine (CH _ _ hT).mono ?_; rintro e y ⟨f2, rfl, hT2, g⟩; replace F := F.trans g)))
    all_goals (
      go_ret
      exact ⟨_, by simp, hT2, F⟩)
end Go.Proofs.YtpifebapodfeaaaGreat.Dnd
/- play: one step of a script. -/
namespace Go.Proofs.YtpifebapodfeaaaGreat.Do
set_option linter.unusedVariables false
open Go.RowKit Pla Cb Sm Wd Nw Bk Eb Et Cc Ch Pm Fp Sp Pe Se Tg Sd Sq Sr Dd De Rg Df Wk Sx Sy Dg Dh Sw Di Dj Dk Dl Dm Dn
theorem play_any (b1 d1 b2 d2 n : Nat) (f : Nat → Option Held) (k on sl al me : Int) (hsl : (Lit.int .i64 sl).wf = true) (hal : (Lit.int .i64 al).wf = true) (hme : (Lit.int .i64 me).wf = true) (key ex text : ByteArray) (hk : key.size ≤ 1048576) (hx : ex.size ≤ 1048576) (ht : text.size ≤ 1048576) (w : World) (hS : Syn w b1 d1 b2 d2 n f) :
    Calls Tryz.prog 7 #[.pointer (some ⟨b1, 0, Option.none⟩), .pointer (some ⟨b2, 0, Option.none⟩), .agg #[.int .i64 k, .int .i64 on, .int .i64 sl, .int .i64 al, .int .i64 me, .string key, .string ex, .string text]] w
      fun e w' => ∃ f', e = .returned (.bool true) ∧ Syn w' b1 d1 b2 d2 n f' ∧ FL [b1, d1, b2, d2] w w' := by
  have h : k = 1 ∨ k = 2 ∨ k = 3 ∨ k = 4 ∨ k = 5 ∨ (k = 6 ∨ k = 7 ∨ k = 8) ∨ (k < 1 ∨ 8 < k) := by omega
  rcases h with rfl | rfl | rfl | rfl | rfl | h | h
  · exact Dna.play_put b1 d1 b2 d2 n f on sl al me hsl hal hme key ex text hk hx ht w hS
  · by_cases h0 : ex.size = 0
    · have e := emp_ba ex h0
      subst e
      exact Dnb.play_fit0 b1 d1 b2 d2 n f on sl al me hsl hal hme key text hk ht w hS
    · exact Dnb.play_fit b1 d1 b2 d2 n f on sl al me hsl hal hme key ex text hk hx h0 ht w hS
  · exact Dnc.play_tag b1 d1 b2 d2 n f on sl al me hsl hal hme key ex text hk hx ht w hS
  · exact Dna.play_right b1 d1 b2 d2 n f on sl al me hsl hal hme key ex text hk hx ht w hS
  · exact Dnd.play_own b1 d1 b2 d2 n f on sl al me hsl hal hme key ex text hk hx ht w hS
  · exact Dnd.play_change b1 d1 b2 d2 n f k on sl al me h hsl hal hme key ex text hk hx ht w hS
  · exact Dna.play_other b1 d1 b2 d2 n f k on sl al me h hsl hal hme key ex text hk hx ht w hS
end Go.Proofs.YtpifebapodfeaaaGreat.Do
