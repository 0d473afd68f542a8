/- The law's deal. -/
import Derived.Test.YteaanenhefbkjaaDoorTk
import Derived.Test.YteaanenhefbkjaaDoorPick
namespace Go.Proofs.YteaanenhefbkjaaDoor.Tl
set_option linter.unusedVariables false
set_option linter.unusedSimpArgs false
open Go.RowKit Lib0 Kb Xp Ic Ta Hp Hr Ht Hu Hx Tb Tc Td Te Tf Tg Tn Num Chars Tj Tk
attribute [local go_sem] Oper.semAt_some
theorem res_row_row {P : Program} {fn : Func} {p q : Tmp} {ty : TypeId} (h : fn.results = #[.cell p ty, .cell q ty]) (tmps : Array Value) (w : World) (g g2 : Nat) (t t2 : TypeId) (cs cs2 : Array Value) (fr fr2 : Nat × Nat) (d : TypeDesc)
    (hp : tmps.getD p undef = .pointer (some ⟨g, 0, none⟩)) (hg : w.heap[g]? = some (.cells cs t fr)) (hq : tmps.getD q undef = .pointer (some ⟨g2, 0, none⟩)) (hg2 : w.heap[g2]? = some (.cells cs2 t2 fr2))
    (hu : P.underlying ty = some d) (hd : (match d with | .struct _ | .array _ _ => true | _ => false) = true) (hi : (P.info? ty).map (·.size) = some cs.size) (hi2 : (P.info? ty).map (·.size) = some cs2.size) :
    (results fn tmps).run P w = .ok (.tuple #[.agg cs, .agg cs2]) w := by
  have e1 := run_loadVar_row w g t ty cs fr d hg hu hd hi
  have e2 := run_loadVar_row w g2 t2 ty cs2 fr2 d hg2 hu hd hi2
  have hp' : tmps[p]?.getD undef = .pointer (some ⟨g, 0, none⟩) := by simpa using hp
  have hq' : tmps[q]?.getD undef = .pointer (some ⟨g2, 0, none⟩) := by simpa using hq
  simp only [results, h]
  simp [Sem.run_bind, Result.andThen, hp', hq', asAddr, e1, e2]
theorem cell_of {x : World} {g : Nat} {cs : Array Value} {t : TypeId} (h : x.heap[g]? = some (.cells cs t (0, 0))) (j : Nat) : x.cell? ⟨g, j, none⟩ = cs[j]? := by simp [World.cell?, h]
theorem infoMs : (Tryd.prog.info? tMs).map (·.size) = some 2 := by kernel_rfl
theorem mti_cell {x : World} {g : Nat} (h : x.heap[g]? = some (.cells #[.string (mtiK 0), .string (mtiK 1), .string (mtiK 2), .string (mtiK 3), .string (mtiK 4), .string (mtiK 5)] 9 (0, 0))) (k : Nat) (hk : k < 6) : x.cell? ⟨g, k, none⟩ = some (.string (mtiK k)) := by
  rcases six hk with rfl | rfl | rfl | rfl | rfl | rfl <;> simp [World.cell?, h]
set_option maxRecDepth 100000 in
set_option maxHeartbeats 3200000 in
theorem deal_any (lk wh am : Int) (cr ys : Bool) (h1 : -9223372036854775808 ≤ wh ∧ wh ≤ 9223372036854775807) (h2 : -9223372036854775808 ≤ am ∧ am ≤ 9223372036854775807) (w : World) : Calls Tryd.prog 10 #[.agg #[.int .i64 lk, .int .i64 wh, .int .i64 am, .bool cr, .bool ys]] w fun e w' => ∃ v v2, e = .returned (.tuple #[.agg #[.string (mtiK (Pick.pickOf wh 6).toNat), v], .agg #[.string (anS (mtiK (Pick.pickOf wh 6).toNat)), v2]]) ∧ RowF w' v [(3, if cr then p2 else p0), (4, ⟨(dgs 12 (Pick.pickOf am 1000000000).toNat).toArray⟩)] ∧ RowF w' v2 [(39, if ys then c0 else c5)] ∧ Below w.heap.size w w' := by
  have P1 : Hid (∀ y, Calls Tryd.prog 5 #[.int .i64 wh, .int .i64 6] y fun e w' => e = .returned (.int .i64 (Pick.pickOf wh 6)) ∧ w' = y) := fun y => Pick.pick_any wh 6 y h1.1 h1.2 (by omega) (by omega)
  have P2 : Hid (∀ y, Calls Tryd.prog 5 #[.int .i64 am, .int .i64 1000000000] y fun e w' => e = .returned (.int .i64 (Pick.pickOf am 1000000000)) ∧ w' = y) := fun y => Pick.pick_any am 1000000000 y h2.1 h2.2 (by omega) (by omega)
  have a0 := Pick.pick_lo wh 6 (by omega)
  have a1 := Pick.pick_hi wh 6 (by omega)
  have b0 := Pick.pick_lo am 1000000000 (by omega)
  have b1 := Pick.pick_hi am 1000000000 (by omega)
  obtain ⟨K, hK⟩ : ∃ K : Nat, Pick.pickOf wh 6 = (K : Int) := ⟨(Pick.pickOf wh 6).toNat, by omega⟩
  obtain ⟨M, hM⟩ : ∃ M : Nat, Pick.pickOf am 1000000000 = (M : Int) := ⟨(Pick.pickOf am 1000000000).toNat, by omega⟩
  rw [hK] at P1 a0 a1
  rw [hM] at P2 b0 b1
  rw [hK, hM, Int.toNat_natCast, Int.toNat_natCast]
  have HK : Hid (K < 6) := by show K < 6; omega
  have HD : Hid (∀ y, Calls Tryd.prog 17 #[.int .i64 (M : Int)] y fun e w' => e = .returned (.string ⟨(dgs 12 M).toArray⟩) ∧ Below y.heap.size y w') := fun y => digits_any M (by omega) y
  have hmk := mti_ok K HK.out
  have HA : Hid (∀ y, Calls Tryd.prog 18 #[.string (mtiK K)] y fun e w' => e = .returned (.tuple #[.string (anS (mtiK K)), .int .i64 (anE (mtiK K))]) ∧ Below y.heap.size y w') := fun y => answer_any _ (by unfold maxLen; omega) y
  generalize (⟨(dgs 12 M).toArray⟩ : ByteArray) = DG at *
  clear hmk a0 b0 b1 hK hM h1 h2
  go_enter Tryd.func10, Tryd.ntmps10
  go_wp2_with fail
  have B1 := below_one w (.cells #[.int .i64 lk, .int .i64 wh, .int .i64 am, .bool cr, .bool ys] 47)
  have B2 := below_one (w.alloc (.cells #[.int .i64 lk, .int .i64 wh, .int .i64 am, .bool cr, .bool ys] 47)) (.cells #[.string ⟨#[]⟩, .slice none 0 0] tMs)
  have B3 := below_one ((w.alloc (.cells #[.int .i64 lk, .int .i64 wh, .int .i64 am, .bool cr, .bool ys] 47)).alloc (.cells #[.string ⟨#[]⟩, .slice none 0 0] tMs)) (.cells #[.string ⟨#[]⟩, .slice none 0 0] tMs)
  have B4 := below_one (((w.alloc (.cells #[.int .i64 lk, .int .i64 wh, .int .i64 am, .bool cr, .bool ys] 47)).alloc (.cells #[.string ⟨#[]⟩, .slice none 0 0] tMs)).alloc (.cells #[.string ⟨#[]⟩, .slice none 0 0] tMs)) (.cells #[.string (mtiK 0), .string (mtiK 1), .string (mtiK 2), .string (mtiK 3), .string (mtiK 4), .string (mtiK 5)] 9)
  have k0 := kept B4 (kept B3 (kept B2 (h1_0 w (.cells #[.int .i64 lk, .int .i64 wh, .int .i64 am, .bool cr, .bool ys] 47))))
  have k1 := kept B4 (kept B3 (h1_0 (w.alloc (.cells #[.int .i64 lk, .int .i64 wh, .int .i64 am, .bool cr, .bool ys] 47)) (.cells #[.string ⟨#[]⟩, .slice none 0 0] tMs)))
  have k2 := kept B4 (h1_0 ((w.alloc (.cells #[.int .i64 lk, .int .i64 wh, .int .i64 am, .bool cr, .bool ys] 47)).alloc (.cells #[.string ⟨#[]⟩, .slice none 0 0] tMs)) (.cells #[.string ⟨#[]⟩, .slice none 0 0] tMs))
  have k3 := h1_0 (((w.alloc (.cells #[.int .i64 lk, .int .i64 wh, .int .i64 am, .bool cr, .bool ys] 47)).alloc (.cells #[.string ⟨#[]⟩, .slice none 0 0] tMs)).alloc (.cells #[.string ⟨#[]⟩, .slice none 0 0] tMs)) (.cells #[.string (mtiK 0), .string (mtiK 1), .string (mtiK 2), .string (mtiK 3), .string (mtiK 4), .string (mtiK 5)] 9)
  have BX := keepB (keepB (keepB B1 B2) B3) B4
  rw [show (w.alloc (.cells #[.int .i64 lk, .int .i64 wh, .int .i64 am, .bool cr, .bool ys] 47)).heap.size = w.heap.size + 1 by simp] at k1
  rw [show ((w.alloc (.cells #[.int .i64 lk, .int .i64 wh, .int .i64 am, .bool cr, .bool ys] 47)).alloc (.cells #[.string ⟨#[]⟩, .slice none 0 0] tMs)).heap.size = w.heap.size + 2 by simp] at k2
  rw [show (((w.alloc (.cells #[.int .i64 lk, .int .i64 wh, .int .i64 am, .bool cr, .bool ys] 47)).alloc (.cells #[.string ⟨#[]⟩, .slice none 0 0] tMs)).alloc (.cells #[.string ⟨#[]⟩, .slice none 0 0] tMs)).heap.size = w.heap.size + 3 by simp] at k3
  have kc := mti_cell k3 K HK.out
  refine (P1.out _).mono ?_
  rintro e y1 ⟨rfl, hy1⟩
  change y1 = ((((w.alloc (.cells #[.int .i64 lk, .int .i64 wh, .int .i64 am, .bool cr, .bool ys] 47)).alloc (.cells #[.string ⟨#[]⟩, .slice none 0 0] tMs)).alloc (.cells #[.string ⟨#[]⟩, .slice none 0 0] tMs)).alloc (.cells #[.string (mtiK 0), .string (mtiK 1), .string (mtiK 2), .string (mtiK 3), .string (mtiK 4), .string (mtiK 5)] 9)) at hy1
  rw [← hy1] at k0 k1 k2 kc BX
  have HK0 : Hid (Below w.heap.size w y1 ∧ y1.heap[w.heap.size]? = some (.cells #[.int .i64 lk, .int .i64 wh, .int .i64 am, .bool cr, .bool ys] 47 (0, 0)) ∧ y1.heap[w.heap.size + 1]? = some (.cells #[.string ⟨#[]⟩, .slice none 0 0] tMs (0, 0)) ∧ y1.heap[w.heap.size + 2]? = some (.cells #[.string ⟨#[]⟩, .slice none 0 0] tMs (0, 0))) := ⟨BX, k0, k1, k2⟩
  have d2 : y1.cell? ⟨w.heap.size, 2, none⟩ = some (.int .i64 am) := by simp [World.cell?, k0]
  have d3 : y1.cell? ⟨w.heap.size, 3, none⟩ = some (.bool cr) := by simp [World.cell?, k0]
  have d4 : y1.cell? ⟨w.heap.size, 4, none⟩ = some (.bool ys) := by simp [World.cell?, k0]
  have q0 : (0 : Int) ≤ (K : Int) := by omega
  clear B1 B2 B3 B4 k0 k1 k2 k3 BX hy1
  obtain ⟨MT, HMT⟩ : ∃ MT, Hid (mtiK K = MT) := ⟨_, rfl⟩
  rw [HMT.out] at kc HA
  cases cr <;> cases ys
  all_goals (go_wp2_with fail)
  · refine (P2.out _).mono ?_
    rintro e y2 ⟨rfl, rfl⟩
    go_wp2_with fail
    refine (HD.out _).mono ?_
    rintro e y3 ⟨rfl, hy3⟩
    have H3 : Hid (Below y2.heap.size y2 y3) := hy3
    clear hy3
    go_wp2_with fail
    have BW : Below y3.heap.size y3 ((y3.alloc (.cells #[.int .i64 3, .string ⟨#[48, 48, 48, 48, 48, 48]⟩, .slice none 0 0, .int .i64 4, .string DG, .slice none 0 0] tF)).alloc (.cells #[.string MT, .slice (some ⟨y3.heap.size, 0, none⟩) 2 2] tMs)) := below_two _ _ _
    have hm7 : ((y3.alloc (.cells #[.int .i64 3, .string ⟨#[48, 48, 48, 48, 48, 48]⟩, .slice none 0 0, .int .i64 4, .string DG, .slice none 0 0] tF)).alloc (.cells #[.string MT, .slice (some ⟨y3.heap.size, 0, none⟩) 2 2] tMs)).heap[y3.heap.size + 1]? = some (.cells #[.string MT, .slice (some ⟨y3.heap.size, 0, none⟩) 2 2] tMs (0, 0)) := h2_1 _ _ _
    have hf7 : ((y3.alloc (.cells #[.int .i64 3, .string ⟨#[48, 48, 48, 48, 48, 48]⟩, .slice none 0 0, .int .i64 4, .string DG, .slice none 0 0] tF)).alloc (.cells #[.string MT, .slice (some ⟨y3.heap.size, 0, none⟩) 2 2] tMs)).heap[y3.heap.size]? = some (.cells #[.int .i64 3, .string ⟨#[48, 48, 48, 48, 48, 48]⟩, .slice none 0 0, .int .i64 4, .string DG, .slice none 0 0] tF (0, 0)) := h2_0 _ _ _
    refine (HA.out _).mono ?_
    rintro e y4 ⟨rfl, hy4⟩
    have m4 : y4.heap[y3.heap.size + 1]? = some (.cells #[.string MT, .slice (some ⟨y3.heap.size, 0, none⟩) 2 2] tMs (0, 0)) := kept hy4 hm7
    have f4 : y4.heap[y3.heap.size]? = some (.cells #[.int .i64 3, .string ⟨#[48, 48, 48, 48, 48, 48]⟩, .slice none 0 0, .int .i64 4, .string DG, .slice none 0 0] tF (0, 0)) := kept hy4 hf7
    have B4 : Below y2.heap.size y2 y4 := keepB (keepB H3.out BW) hy4
    have l3 : y3.heap.size < y4.heap.size := (Array.getElem?_eq_some_iff.1 f4).1
    have l2 : y2.heap.size ≤ y3.heap.size := H3.out.size
    have l1 : w.heap.size + 2 < y2.heap.size := (Array.getElem?_eq_some_iff.1 HK0.out.2.2.2).1
    have BA := below_one y4 (.cells #[.int .i64 39, .string ⟨#[48, 53]⟩, .slice none 0 0] tF)
    have r1 := kept BA (kept B4 HK0.out.2.2.1)
    have r2 := kept BA (kept B4 HK0.out.2.2.2)
    have r2' : ((y4.alloc (.cells #[.int .i64 39, .string ⟨#[48, 53]⟩, .slice none 0 0] tF)).setRow (w.heap.size + 1) #[.string MT, .slice (some ⟨y3.heap.size, 0, none⟩) 2 2]).heap[w.heap.size + 2]? = some (.cells #[.string ⟨#[]⟩, .slice none 0 0] tMs (0, 0)) := (setRow_ne (by omega) _).trans r2
    have g0 : y4.cell? ⟨y3.heap.size + 1, 0, none⟩ = some (.string MT) := by simp [World.cell?, m4]
    have g1 : y4.cell? ⟨y3.heap.size + 1, 1, none⟩ = some (.slice (some ⟨y3.heap.size, 0, none⟩) 2 2) := by simp [World.cell?, m4]
    have HE : Hid ((((y4.alloc (.cells #[.int .i64 39, .string ⟨#[48, 53]⟩, .slice none 0 0] tF)).setRow (w.heap.size + 1) #[.string MT, .slice (some ⟨y3.heap.size, 0, none⟩) 2 2]).setRow (w.heap.size + 2) #[.string (anS MT), .slice (some ⟨y4.heap.size, 0, none⟩) 1 1]).heap[w.heap.size + 1]? = some (.cells #[.string MT, .slice (some ⟨y3.heap.size, 0, none⟩) 2 2] tMs (0, 0)) ∧ (((y4.alloc (.cells #[.int .i64 39, .string ⟨#[48, 53]⟩, .slice none 0 0] tF)).setRow (w.heap.size + 1) #[.string MT, .slice (some ⟨y3.heap.size, 0, none⟩) 2 2]).setRow (w.heap.size + 2) #[.string (anS MT), .slice (some ⟨y4.heap.size, 0, none⟩) 1 1]).heap[w.heap.size + 2]? = some (.cells #[.string (anS MT), .slice (some ⟨y4.heap.size, 0, none⟩) 1 1] tMs (0, 0)) ∧ Below w.heap.size w (((y4.alloc (.cells #[.int .i64 39, .string ⟨#[48, 53]⟩, .slice none 0 0] tF)).setRow (w.heap.size + 1) #[.string MT, .slice (some ⟨y3.heap.size, 0, none⟩) 2 2]).setRow (w.heap.size + 2) #[.string (anS MT), .slice (some ⟨y4.heap.size, 0, none⟩) 1 1])
      ∧ (((y4.alloc (.cells #[.int .i64 39, .string ⟨#[48, 53]⟩, .slice none 0 0] tF)).setRow (w.heap.size + 1) #[.string MT, .slice (some ⟨y3.heap.size, 0, none⟩) 2 2]).setRow (w.heap.size + 2) #[.string (anS MT), .slice (some ⟨y4.heap.size, 0, none⟩) 1 1]).heap[y3.heap.size]? = some (.cells #[.int .i64 3, .string ⟨#[48, 48, 48, 48, 48, 48]⟩, .slice none 0 0, .int .i64 4, .string DG, .slice none 0 0] tF (0, 0)) ∧ (((y4.alloc (.cells #[.int .i64 39, .string ⟨#[48, 53]⟩, .slice none 0 0] tF)).setRow (w.heap.size + 1) #[.string MT, .slice (some ⟨y3.heap.size, 0, none⟩) 2 2]).setRow (w.heap.size + 2) #[.string (anS MT), .slice (some ⟨y4.heap.size, 0, none⟩) 1 1]).heap[y4.heap.size]? = some (.cells #[.int .i64 39, .string ⟨#[48, 53]⟩, .slice none 0 0] tF)) :=
      ⟨(setRow_ne (by omega) _).trans (setRow_at r1 _), setRow_at r2' _, below_setRow (below_setRow (keepB (keepB HK0.out.1 B4) BA) (by omega) _) (by omega) _, (setRow_ne (by omega) _).trans ((setRow_ne (by omega) _).trans (kept BA f4)), (setRow_ne (by omega) _).trans ((setRow_ne (by omega) _).trans (h1_0 _ _))⟩
    clear BW hm7 hf7 hy4 m4 f4 B4 BA l1 l2 l3
    go_wp2_with (first
      | (refine wpList_store_row rfl tMs _ _ rfl (w.heap.size + 1) #[.string MT, .slice (some ⟨y3.heap.size, 0, none⟩) 2 2] (by rfl) (by rfl) _ _ r1 infoMs (by rfl) (by simp [Value.oneCell']) ?_; refine wpList_store_row rfl tMs _ _ rfl (w.heap.size + 2) #[.string (anS MT), .slice (some ⟨y4.heap.size, 0, none⟩) 1 1] (by rfl) (by rfl) _ _ r2' infoMs (by rfl) (by simp [Value.oneCell']) ?_)
      | fail)
    refine bodyPost_ret (v := .tuple #[.agg #[.string MT, .slice (some ⟨y3.heap.size, 0, none⟩) 2 2], .agg #[.string (anS MT), .slice (some ⟨y4.heap.size, 0, none⟩) 1 1]]) (res_row_row (fn := Tryd.f10) (p := 2) (q := 3) rfl _ _ (w.heap.size + 1) (w.heap.size + 2) tMs tMs _ _ _ _ _ rfl HE.out.1 rfl HE.out.2.1 Tryd.underlying42 rfl infoMs infoMs) rfl ?_
    obtain ⟨-, -, hb, hf, hg⟩ := HE.out
    rw [HMT.out]
    refine ⟨_, _, rfl, ⟨_, _, rfl, fun i hi => ?_⟩, ⟨_, _, rfl, fun i hi => ?_⟩, hb⟩
    · refine ⟨⟨y3.heap.size, 0, none⟩, rfl, ?_⟩
      match i, hi with
      | 0, _ => exact ⟨(cell_of hf 0).trans rfl, (cell_of hf 1).trans rfl, (cell_of hf 2).trans rfl⟩
      | 1, _ => exact ⟨(cell_of hf 3).trans rfl, (cell_of hf 4).trans rfl, (cell_of hf 5).trans rfl⟩
    · refine ⟨⟨y4.heap.size, 0, none⟩, rfl, ?_⟩
      match i, hi with
      | 0, _ => exact ⟨(cell_of hg 0).trans rfl, (cell_of hg 1).trans rfl, (cell_of hg 2).trans rfl⟩
  · refine (P2.out _).mono ?_
    rintro e y2 ⟨rfl, rfl⟩
    go_wp2_with fail
    refine (HD.out _).mono ?_
    rintro e y3 ⟨rfl, hy3⟩
    have H3 : Hid (Below y2.heap.size y2 y3) := hy3
    clear hy3
    go_wp2_with fail
    have BW : Below y3.heap.size y3 ((y3.alloc (.cells #[.int .i64 3, .string ⟨#[48, 48, 48, 48, 48, 48]⟩, .slice none 0 0, .int .i64 4, .string DG, .slice none 0 0] tF)).alloc (.cells #[.string MT, .slice (some ⟨y3.heap.size, 0, none⟩) 2 2] tMs)) := below_two _ _ _
    have hm7 : ((y3.alloc (.cells #[.int .i64 3, .string ⟨#[48, 48, 48, 48, 48, 48]⟩, .slice none 0 0, .int .i64 4, .string DG, .slice none 0 0] tF)).alloc (.cells #[.string MT, .slice (some ⟨y3.heap.size, 0, none⟩) 2 2] tMs)).heap[y3.heap.size + 1]? = some (.cells #[.string MT, .slice (some ⟨y3.heap.size, 0, none⟩) 2 2] tMs (0, 0)) := h2_1 _ _ _
    have hf7 : ((y3.alloc (.cells #[.int .i64 3, .string ⟨#[48, 48, 48, 48, 48, 48]⟩, .slice none 0 0, .int .i64 4, .string DG, .slice none 0 0] tF)).alloc (.cells #[.string MT, .slice (some ⟨y3.heap.size, 0, none⟩) 2 2] tMs)).heap[y3.heap.size]? = some (.cells #[.int .i64 3, .string ⟨#[48, 48, 48, 48, 48, 48]⟩, .slice none 0 0, .int .i64 4, .string DG, .slice none 0 0] tF (0, 0)) := h2_0 _ _ _
    refine (HA.out _).mono ?_
    rintro e y4 ⟨rfl, hy4⟩
    have m4 : y4.heap[y3.heap.size + 1]? = some (.cells #[.string MT, .slice (some ⟨y3.heap.size, 0, none⟩) 2 2] tMs (0, 0)) := kept hy4 hm7
    have f4 : y4.heap[y3.heap.size]? = some (.cells #[.int .i64 3, .string ⟨#[48, 48, 48, 48, 48, 48]⟩, .slice none 0 0, .int .i64 4, .string DG, .slice none 0 0] tF (0, 0)) := kept hy4 hf7
    have B4 : Below y2.heap.size y2 y4 := keepB (keepB H3.out BW) hy4
    have l3 : y3.heap.size < y4.heap.size := (Array.getElem?_eq_some_iff.1 f4).1
    have l2 : y2.heap.size ≤ y3.heap.size := H3.out.size
    have l1 : w.heap.size + 2 < y2.heap.size := (Array.getElem?_eq_some_iff.1 HK0.out.2.2.2).1
    have BA := below_one y4 (.cells #[.int .i64 39, .string ⟨#[48, 48]⟩, .slice none 0 0] tF)
    have r1 := kept BA (kept B4 HK0.out.2.2.1)
    have r2 := kept BA (kept B4 HK0.out.2.2.2)
    have r2' : ((y4.alloc (.cells #[.int .i64 39, .string ⟨#[48, 48]⟩, .slice none 0 0] tF)).setRow (w.heap.size + 1) #[.string MT, .slice (some ⟨y3.heap.size, 0, none⟩) 2 2]).heap[w.heap.size + 2]? = some (.cells #[.string ⟨#[]⟩, .slice none 0 0] tMs (0, 0)) := (setRow_ne (by omega) _).trans r2
    have g0 : y4.cell? ⟨y3.heap.size + 1, 0, none⟩ = some (.string MT) := by simp [World.cell?, m4]
    have g1 : y4.cell? ⟨y3.heap.size + 1, 1, none⟩ = some (.slice (some ⟨y3.heap.size, 0, none⟩) 2 2) := by simp [World.cell?, m4]
    have HE : Hid ((((y4.alloc (.cells #[.int .i64 39, .string ⟨#[48, 48]⟩, .slice none 0 0] tF)).setRow (w.heap.size + 1) #[.string MT, .slice (some ⟨y3.heap.size, 0, none⟩) 2 2]).setRow (w.heap.size + 2) #[.string (anS MT), .slice (some ⟨y4.heap.size, 0, none⟩) 1 1]).heap[w.heap.size + 1]? = some (.cells #[.string MT, .slice (some ⟨y3.heap.size, 0, none⟩) 2 2] tMs (0, 0)) ∧ (((y4.alloc (.cells #[.int .i64 39, .string ⟨#[48, 48]⟩, .slice none 0 0] tF)).setRow (w.heap.size + 1) #[.string MT, .slice (some ⟨y3.heap.size, 0, none⟩) 2 2]).setRow (w.heap.size + 2) #[.string (anS MT), .slice (some ⟨y4.heap.size, 0, none⟩) 1 1]).heap[w.heap.size + 2]? = some (.cells #[.string (anS MT), .slice (some ⟨y4.heap.size, 0, none⟩) 1 1] tMs (0, 0)) ∧ Below w.heap.size w (((y4.alloc (.cells #[.int .i64 39, .string ⟨#[48, 48]⟩, .slice none 0 0] tF)).setRow (w.heap.size + 1) #[.string MT, .slice (some ⟨y3.heap.size, 0, none⟩) 2 2]).setRow (w.heap.size + 2) #[.string (anS MT), .slice (some ⟨y4.heap.size, 0, none⟩) 1 1])
      ∧ (((y4.alloc (.cells #[.int .i64 39, .string ⟨#[48, 48]⟩, .slice none 0 0] tF)).setRow (w.heap.size + 1) #[.string MT, .slice (some ⟨y3.heap.size, 0, none⟩) 2 2]).setRow (w.heap.size + 2) #[.string (anS MT), .slice (some ⟨y4.heap.size, 0, none⟩) 1 1]).heap[y3.heap.size]? = some (.cells #[.int .i64 3, .string ⟨#[48, 48, 48, 48, 48, 48]⟩, .slice none 0 0, .int .i64 4, .string DG, .slice none 0 0] tF (0, 0)) ∧ (((y4.alloc (.cells #[.int .i64 39, .string ⟨#[48, 48]⟩, .slice none 0 0] tF)).setRow (w.heap.size + 1) #[.string MT, .slice (some ⟨y3.heap.size, 0, none⟩) 2 2]).setRow (w.heap.size + 2) #[.string (anS MT), .slice (some ⟨y4.heap.size, 0, none⟩) 1 1]).heap[y4.heap.size]? = some (.cells #[.int .i64 39, .string ⟨#[48, 48]⟩, .slice none 0 0] tF)) :=
      ⟨(setRow_ne (by omega) _).trans (setRow_at r1 _), setRow_at r2' _, below_setRow (below_setRow (keepB (keepB HK0.out.1 B4) BA) (by omega) _) (by omega) _, (setRow_ne (by omega) _).trans ((setRow_ne (by omega) _).trans (kept BA f4)), (setRow_ne (by omega) _).trans ((setRow_ne (by omega) _).trans (h1_0 _ _))⟩
    clear BW hm7 hf7 hy4 m4 f4 B4 BA l1 l2 l3
    go_wp2_with (first
      | (refine wpList_store_row rfl tMs _ _ rfl (w.heap.size + 1) #[.string MT, .slice (some ⟨y3.heap.size, 0, none⟩) 2 2] (by rfl) (by rfl) _ _ r1 infoMs (by rfl) (by simp [Value.oneCell']) ?_; refine wpList_store_row rfl tMs _ _ rfl (w.heap.size + 2) #[.string (anS MT), .slice (some ⟨y4.heap.size, 0, none⟩) 1 1] (by rfl) (by rfl) _ _ r2' infoMs (by rfl) (by simp [Value.oneCell']) ?_)
      | fail)
    refine bodyPost_ret (v := .tuple #[.agg #[.string MT, .slice (some ⟨y3.heap.size, 0, none⟩) 2 2], .agg #[.string (anS MT), .slice (some ⟨y4.heap.size, 0, none⟩) 1 1]]) (res_row_row (fn := Tryd.f10) (p := 2) (q := 3) rfl _ _ (w.heap.size + 1) (w.heap.size + 2) tMs tMs _ _ _ _ _ rfl HE.out.1 rfl HE.out.2.1 Tryd.underlying42 rfl infoMs infoMs) rfl ?_
    obtain ⟨-, -, hb, hf, hg⟩ := HE.out
    rw [HMT.out]
    refine ⟨_, _, rfl, ⟨_, _, rfl, fun i hi => ?_⟩, ⟨_, _, rfl, fun i hi => ?_⟩, hb⟩
    · refine ⟨⟨y3.heap.size, 0, none⟩, rfl, ?_⟩
      match i, hi with
      | 0, _ => exact ⟨(cell_of hf 0).trans rfl, (cell_of hf 1).trans rfl, (cell_of hf 2).trans rfl⟩
      | 1, _ => exact ⟨(cell_of hf 3).trans rfl, (cell_of hf 4).trans rfl, (cell_of hf 5).trans rfl⟩
    · refine ⟨⟨y4.heap.size, 0, none⟩, rfl, ?_⟩
      match i, hi with
      | 0, _ => exact ⟨(cell_of hg 0).trans rfl, (cell_of hg 1).trans rfl, (cell_of hg 2).trans rfl⟩
  · refine (P2.out _).mono ?_
    rintro e y2 ⟨rfl, rfl⟩
    go_wp2_with fail
    refine (HD.out _).mono ?_
    rintro e y3 ⟨rfl, hy3⟩
    have H3 : Hid (Below y2.heap.size y2 y3) := hy3
    clear hy3
    go_wp2_with fail
    have BW : Below y3.heap.size y3 ((y3.alloc (.cells #[.int .i64 3, .string ⟨#[50, 48, 48, 48, 48, 48]⟩, .slice none 0 0, .int .i64 4, .string DG, .slice none 0 0] tF)).alloc (.cells #[.string MT, .slice (some ⟨y3.heap.size, 0, none⟩) 2 2] tMs)) := below_two _ _ _
    have hm7 : ((y3.alloc (.cells #[.int .i64 3, .string ⟨#[50, 48, 48, 48, 48, 48]⟩, .slice none 0 0, .int .i64 4, .string DG, .slice none 0 0] tF)).alloc (.cells #[.string MT, .slice (some ⟨y3.heap.size, 0, none⟩) 2 2] tMs)).heap[y3.heap.size + 1]? = some (.cells #[.string MT, .slice (some ⟨y3.heap.size, 0, none⟩) 2 2] tMs (0, 0)) := h2_1 _ _ _
    have hf7 : ((y3.alloc (.cells #[.int .i64 3, .string ⟨#[50, 48, 48, 48, 48, 48]⟩, .slice none 0 0, .int .i64 4, .string DG, .slice none 0 0] tF)).alloc (.cells #[.string MT, .slice (some ⟨y3.heap.size, 0, none⟩) 2 2] tMs)).heap[y3.heap.size]? = some (.cells #[.int .i64 3, .string ⟨#[50, 48, 48, 48, 48, 48]⟩, .slice none 0 0, .int .i64 4, .string DG, .slice none 0 0] tF (0, 0)) := h2_0 _ _ _
    refine (HA.out _).mono ?_
    rintro e y4 ⟨rfl, hy4⟩
    have m4 : y4.heap[y3.heap.size + 1]? = some (.cells #[.string MT, .slice (some ⟨y3.heap.size, 0, none⟩) 2 2] tMs (0, 0)) := kept hy4 hm7
    have f4 : y4.heap[y3.heap.size]? = some (.cells #[.int .i64 3, .string ⟨#[50, 48, 48, 48, 48, 48]⟩, .slice none 0 0, .int .i64 4, .string DG, .slice none 0 0] tF (0, 0)) := kept hy4 hf7
    have B4 : Below y2.heap.size y2 y4 := keepB (keepB H3.out BW) hy4
    have l3 : y3.heap.size < y4.heap.size := (Array.getElem?_eq_some_iff.1 f4).1
    have l2 : y2.heap.size ≤ y3.heap.size := H3.out.size
    have l1 : w.heap.size + 2 < y2.heap.size := (Array.getElem?_eq_some_iff.1 HK0.out.2.2.2).1
    have BA := below_one y4 (.cells #[.int .i64 39, .string ⟨#[48, 53]⟩, .slice none 0 0] tF)
    have r1 := kept BA (kept B4 HK0.out.2.2.1)
    have r2 := kept BA (kept B4 HK0.out.2.2.2)
    have r2' : ((y4.alloc (.cells #[.int .i64 39, .string ⟨#[48, 53]⟩, .slice none 0 0] tF)).setRow (w.heap.size + 1) #[.string MT, .slice (some ⟨y3.heap.size, 0, none⟩) 2 2]).heap[w.heap.size + 2]? = some (.cells #[.string ⟨#[]⟩, .slice none 0 0] tMs (0, 0)) := (setRow_ne (by omega) _).trans r2
    have g0 : y4.cell? ⟨y3.heap.size + 1, 0, none⟩ = some (.string MT) := by simp [World.cell?, m4]
    have g1 : y4.cell? ⟨y3.heap.size + 1, 1, none⟩ = some (.slice (some ⟨y3.heap.size, 0, none⟩) 2 2) := by simp [World.cell?, m4]
    have HE : Hid ((((y4.alloc (.cells #[.int .i64 39, .string ⟨#[48, 53]⟩, .slice none 0 0] tF)).setRow (w.heap.size + 1) #[.string MT, .slice (some ⟨y3.heap.size, 0, none⟩) 2 2]).setRow (w.heap.size + 2) #[.string (anS MT), .slice (some ⟨y4.heap.size, 0, none⟩) 1 1]).heap[w.heap.size + 1]? = some (.cells #[.string MT, .slice (some ⟨y3.heap.size, 0, none⟩) 2 2] tMs (0, 0)) ∧ (((y4.alloc (.cells #[.int .i64 39, .string ⟨#[48, 53]⟩, .slice none 0 0] tF)).setRow (w.heap.size + 1) #[.string MT, .slice (some ⟨y3.heap.size, 0, none⟩) 2 2]).setRow (w.heap.size + 2) #[.string (anS MT), .slice (some ⟨y4.heap.size, 0, none⟩) 1 1]).heap[w.heap.size + 2]? = some (.cells #[.string (anS MT), .slice (some ⟨y4.heap.size, 0, none⟩) 1 1] tMs (0, 0)) ∧ Below w.heap.size w (((y4.alloc (.cells #[.int .i64 39, .string ⟨#[48, 53]⟩, .slice none 0 0] tF)).setRow (w.heap.size + 1) #[.string MT, .slice (some ⟨y3.heap.size, 0, none⟩) 2 2]).setRow (w.heap.size + 2) #[.string (anS MT), .slice (some ⟨y4.heap.size, 0, none⟩) 1 1])
      ∧ (((y4.alloc (.cells #[.int .i64 39, .string ⟨#[48, 53]⟩, .slice none 0 0] tF)).setRow (w.heap.size + 1) #[.string MT, .slice (some ⟨y3.heap.size, 0, none⟩) 2 2]).setRow (w.heap.size + 2) #[.string (anS MT), .slice (some ⟨y4.heap.size, 0, none⟩) 1 1]).heap[y3.heap.size]? = some (.cells #[.int .i64 3, .string ⟨#[50, 48, 48, 48, 48, 48]⟩, .slice none 0 0, .int .i64 4, .string DG, .slice none 0 0] tF (0, 0)) ∧ (((y4.alloc (.cells #[.int .i64 39, .string ⟨#[48, 53]⟩, .slice none 0 0] tF)).setRow (w.heap.size + 1) #[.string MT, .slice (some ⟨y3.heap.size, 0, none⟩) 2 2]).setRow (w.heap.size + 2) #[.string (anS MT), .slice (some ⟨y4.heap.size, 0, none⟩) 1 1]).heap[y4.heap.size]? = some (.cells #[.int .i64 39, .string ⟨#[48, 53]⟩, .slice none 0 0] tF)) :=
      ⟨(setRow_ne (by omega) _).trans (setRow_at r1 _), setRow_at r2' _, below_setRow (below_setRow (keepB (keepB HK0.out.1 B4) BA) (by omega) _) (by omega) _, (setRow_ne (by omega) _).trans ((setRow_ne (by omega) _).trans (kept BA f4)), (setRow_ne (by omega) _).trans ((setRow_ne (by omega) _).trans (h1_0 _ _))⟩
    clear BW hm7 hf7 hy4 m4 f4 B4 BA l1 l2 l3
    go_wp2_with (first
      | (refine wpList_store_row rfl tMs _ _ rfl (w.heap.size + 1) #[.string MT, .slice (some ⟨y3.heap.size, 0, none⟩) 2 2] (by rfl) (by rfl) _ _ r1 infoMs (by rfl) (by simp [Value.oneCell']) ?_; refine wpList_store_row rfl tMs _ _ rfl (w.heap.size + 2) #[.string (anS MT), .slice (some ⟨y4.heap.size, 0, none⟩) 1 1] (by rfl) (by rfl) _ _ r2' infoMs (by rfl) (by simp [Value.oneCell']) ?_)
      | fail)
    refine bodyPost_ret (v := .tuple #[.agg #[.string MT, .slice (some ⟨y3.heap.size, 0, none⟩) 2 2], .agg #[.string (anS MT), .slice (some ⟨y4.heap.size, 0, none⟩) 1 1]]) (res_row_row (fn := Tryd.f10) (p := 2) (q := 3) rfl _ _ (w.heap.size + 1) (w.heap.size + 2) tMs tMs _ _ _ _ _ rfl HE.out.1 rfl HE.out.2.1 Tryd.underlying42 rfl infoMs infoMs) rfl ?_
    obtain ⟨-, -, hb, hf, hg⟩ := HE.out
    rw [HMT.out]
    refine ⟨_, _, rfl, ⟨_, _, rfl, fun i hi => ?_⟩, ⟨_, _, rfl, fun i hi => ?_⟩, hb⟩
    · refine ⟨⟨y3.heap.size, 0, none⟩, rfl, ?_⟩
      match i, hi with
      | 0, _ => exact ⟨(cell_of hf 0).trans rfl, (cell_of hf 1).trans rfl, (cell_of hf 2).trans rfl⟩
      | 1, _ => exact ⟨(cell_of hf 3).trans rfl, (cell_of hf 4).trans rfl, (cell_of hf 5).trans rfl⟩
    · refine ⟨⟨y4.heap.size, 0, none⟩, rfl, ?_⟩
      match i, hi with
      | 0, _ => exact ⟨(cell_of hg 0).trans rfl, (cell_of hg 1).trans rfl, (cell_of hg 2).trans rfl⟩
  · refine (P2.out _).mono ?_
    rintro e y2 ⟨rfl, rfl⟩
    go_wp2_with fail
    refine (HD.out _).mono ?_
    rintro e y3 ⟨rfl, hy3⟩
    have H3 : Hid (Below y2.heap.size y2 y3) := hy3
    clear hy3
    go_wp2_with fail
    have BW : Below y3.heap.size y3 ((y3.alloc (.cells #[.int .i64 3, .string ⟨#[50, 48, 48, 48, 48, 48]⟩, .slice none 0 0, .int .i64 4, .string DG, .slice none 0 0] tF)).alloc (.cells #[.string MT, .slice (some ⟨y3.heap.size, 0, none⟩) 2 2] tMs)) := below_two _ _ _
    have hm7 : ((y3.alloc (.cells #[.int .i64 3, .string ⟨#[50, 48, 48, 48, 48, 48]⟩, .slice none 0 0, .int .i64 4, .string DG, .slice none 0 0] tF)).alloc (.cells #[.string MT, .slice (some ⟨y3.heap.size, 0, none⟩) 2 2] tMs)).heap[y3.heap.size + 1]? = some (.cells #[.string MT, .slice (some ⟨y3.heap.size, 0, none⟩) 2 2] tMs (0, 0)) := h2_1 _ _ _
    have hf7 : ((y3.alloc (.cells #[.int .i64 3, .string ⟨#[50, 48, 48, 48, 48, 48]⟩, .slice none 0 0, .int .i64 4, .string DG, .slice none 0 0] tF)).alloc (.cells #[.string MT, .slice (some ⟨y3.heap.size, 0, none⟩) 2 2] tMs)).heap[y3.heap.size]? = some (.cells #[.int .i64 3, .string ⟨#[50, 48, 48, 48, 48, 48]⟩, .slice none 0 0, .int .i64 4, .string DG, .slice none 0 0] tF (0, 0)) := h2_0 _ _ _
    refine (HA.out _).mono ?_
    rintro e y4 ⟨rfl, hy4⟩
    have m4 : y4.heap[y3.heap.size + 1]? = some (.cells #[.string MT, .slice (some ⟨y3.heap.size, 0, none⟩) 2 2] tMs (0, 0)) := kept hy4 hm7
    have f4 : y4.heap[y3.heap.size]? = some (.cells #[.int .i64 3, .string ⟨#[50, 48, 48, 48, 48, 48]⟩, .slice none 0 0, .int .i64 4, .string DG, .slice none 0 0] tF (0, 0)) := kept hy4 hf7
    have B4 : Below y2.heap.size y2 y4 := keepB (keepB H3.out BW) hy4
    have l3 : y3.heap.size < y4.heap.size := (Array.getElem?_eq_some_iff.1 f4).1
    have l2 : y2.heap.size ≤ y3.heap.size := H3.out.size
    have l1 : w.heap.size + 2 < y2.heap.size := (Array.getElem?_eq_some_iff.1 HK0.out.2.2.2).1
    have BA := below_one y4 (.cells #[.int .i64 39, .string ⟨#[48, 48]⟩, .slice none 0 0] tF)
    have r1 := kept BA (kept B4 HK0.out.2.2.1)
    have r2 := kept BA (kept B4 HK0.out.2.2.2)
    have r2' : ((y4.alloc (.cells #[.int .i64 39, .string ⟨#[48, 48]⟩, .slice none 0 0] tF)).setRow (w.heap.size + 1) #[.string MT, .slice (some ⟨y3.heap.size, 0, none⟩) 2 2]).heap[w.heap.size + 2]? = some (.cells #[.string ⟨#[]⟩, .slice none 0 0] tMs (0, 0)) := (setRow_ne (by omega) _).trans r2
    have g0 : y4.cell? ⟨y3.heap.size + 1, 0, none⟩ = some (.string MT) := by simp [World.cell?, m4]
    have g1 : y4.cell? ⟨y3.heap.size + 1, 1, none⟩ = some (.slice (some ⟨y3.heap.size, 0, none⟩) 2 2) := by simp [World.cell?, m4]
    have HE : Hid ((((y4.alloc (.cells #[.int .i64 39, .string ⟨#[48, 48]⟩, .slice none 0 0] tF)).setRow (w.heap.size + 1) #[.string MT, .slice (some ⟨y3.heap.size, 0, none⟩) 2 2]).setRow (w.heap.size + 2) #[.string (anS MT), .slice (some ⟨y4.heap.size, 0, none⟩) 1 1]).heap[w.heap.size + 1]? = some (.cells #[.string MT, .slice (some ⟨y3.heap.size, 0, none⟩) 2 2] tMs (0, 0)) ∧ (((y4.alloc (.cells #[.int .i64 39, .string ⟨#[48, 48]⟩, .slice none 0 0] tF)).setRow (w.heap.size + 1) #[.string MT, .slice (some ⟨y3.heap.size, 0, none⟩) 2 2]).setRow (w.heap.size + 2) #[.string (anS MT), .slice (some ⟨y4.heap.size, 0, none⟩) 1 1]).heap[w.heap.size + 2]? = some (.cells #[.string (anS MT), .slice (some ⟨y4.heap.size, 0, none⟩) 1 1] tMs (0, 0)) ∧ Below w.heap.size w (((y4.alloc (.cells #[.int .i64 39, .string ⟨#[48, 48]⟩, .slice none 0 0] tF)).setRow (w.heap.size + 1) #[.string MT, .slice (some ⟨y3.heap.size, 0, none⟩) 2 2]).setRow (w.heap.size + 2) #[.string (anS MT), .slice (some ⟨y4.heap.size, 0, none⟩) 1 1])
      ∧ (((y4.alloc (.cells #[.int .i64 39, .string ⟨#[48, 48]⟩, .slice none 0 0] tF)).setRow (w.heap.size + 1) #[.string MT, .slice (some ⟨y3.heap.size, 0, none⟩) 2 2]).setRow (w.heap.size + 2) #[.string (anS MT), .slice (some ⟨y4.heap.size, 0, none⟩) 1 1]).heap[y3.heap.size]? = some (.cells #[.int .i64 3, .string ⟨#[50, 48, 48, 48, 48, 48]⟩, .slice none 0 0, .int .i64 4, .string DG, .slice none 0 0] tF (0, 0)) ∧ (((y4.alloc (.cells #[.int .i64 39, .string ⟨#[48, 48]⟩, .slice none 0 0] tF)).setRow (w.heap.size + 1) #[.string MT, .slice (some ⟨y3.heap.size, 0, none⟩) 2 2]).setRow (w.heap.size + 2) #[.string (anS MT), .slice (some ⟨y4.heap.size, 0, none⟩) 1 1]).heap[y4.heap.size]? = some (.cells #[.int .i64 39, .string ⟨#[48, 48]⟩, .slice none 0 0] tF)) :=
      ⟨(setRow_ne (by omega) _).trans (setRow_at r1 _), setRow_at r2' _, below_setRow (below_setRow (keepB (keepB HK0.out.1 B4) BA) (by omega) _) (by omega) _, (setRow_ne (by omega) _).trans ((setRow_ne (by omega) _).trans (kept BA f4)), (setRow_ne (by omega) _).trans ((setRow_ne (by omega) _).trans (h1_0 _ _))⟩
    clear BW hm7 hf7 hy4 m4 f4 B4 BA l1 l2 l3
    go_wp2_with (first
      | (refine wpList_store_row rfl tMs _ _ rfl (w.heap.size + 1) #[.string MT, .slice (some ⟨y3.heap.size, 0, none⟩) 2 2] (by rfl) (by rfl) _ _ r1 infoMs (by rfl) (by simp [Value.oneCell']) ?_; refine wpList_store_row rfl tMs _ _ rfl (w.heap.size + 2) #[.string (anS MT), .slice (some ⟨y4.heap.size, 0, none⟩) 1 1] (by rfl) (by rfl) _ _ r2' infoMs (by rfl) (by simp [Value.oneCell']) ?_)
      | fail)
    refine bodyPost_ret (v := .tuple #[.agg #[.string MT, .slice (some ⟨y3.heap.size, 0, none⟩) 2 2], .agg #[.string (anS MT), .slice (some ⟨y4.heap.size, 0, none⟩) 1 1]]) (res_row_row (fn := Tryd.f10) (p := 2) (q := 3) rfl _ _ (w.heap.size + 1) (w.heap.size + 2) tMs tMs _ _ _ _ _ rfl HE.out.1 rfl HE.out.2.1 Tryd.underlying42 rfl infoMs infoMs) rfl ?_
    obtain ⟨-, -, hb, hf, hg⟩ := HE.out
    rw [HMT.out]
    refine ⟨_, _, rfl, ⟨_, _, rfl, fun i hi => ?_⟩, ⟨_, _, rfl, fun i hi => ?_⟩, hb⟩
    · refine ⟨⟨y3.heap.size, 0, none⟩, rfl, ?_⟩
      match i, hi with
      | 0, _ => exact ⟨(cell_of hf 0).trans rfl, (cell_of hf 1).trans rfl, (cell_of hf 2).trans rfl⟩
      | 1, _ => exact ⟨(cell_of hf 3).trans rfl, (cell_of hf 4).trans rfl, (cell_of hf 5).trans rfl⟩
    · refine ⟨⟨y4.heap.size, 0, none⟩, rfl, ?_⟩
      match i, hi with
      | 0, _ => exact ⟨(cell_of hg 0).trans rfl, (cell_of hg 1).trans rfl, (cell_of hg 2).trans rfl⟩
end Go.Proofs.YteaanenhefbkjaaDoor.Tl
