/- The law's counted. -/
import Derived.Test.YteaanenhefbkjaaTp
namespace Go.Proofs.Yteaanenhefbkjaa.Tq
set_option linter.unusedVariables false
set_option linter.unusedSimpArgs false
open Go.RowKit Lib0 Kb Xp Ic Ta Tb Tc Td Te Tf Tg Tn Num Chars Tj Tk Tp
attribute [local go_sem] Oper.semAt_some
abbrev tCo : TypeId := 30
abbrev tDe : TypeId := 28
def dc (d : D) : Array Value := #[.int .i64 d.lk, .int .i64 d.wh, .int .i64 d.am, .bool d.cr, .bool d.ys]
structure CuM (w : World) (dd : Array Value) (F : Nat → Int) (x : World) : Prop where
  t : x.heap[w.heap.size]? = some (.cells (ta F) tCo (0, 0))
  d : x.heap[w.heap.size + 1]? = some (.cells dd tDe (0, 0))
  r : x.heap[w.heap.size + 2]? = some (.cells (ta fun _ => 0) tCo (0, 0))
  bel : Below w.heap.size w x
theorem CuM.set {w x : World} {dd : Array Value} {F : Nat → Int} (h : CuM w dd F x) (k : Nat) (hk : k < 12) (u : Int) : CuM w dd (upd F k u) (x.setCell ⟨w.heap.size, k, none⟩ (.int .i64 u)) :=
  ⟨ta_put h.t k hk u, by rw [setCell_ne (p := ⟨w.heap.size, k, none⟩) (by show w.heap.size ≠ w.heap.size + 1; omega)]; exact h.d, by rw [setCell_ne (p := ⟨w.heap.size, k, none⟩) (by show w.heap.size ≠ w.heap.size + 2; omega)]; exact h.r, h.bel.setCell (Nat.le_refl _) _⟩
theorem cu_start (w : World) (f : Nat → Int) (dd : Array Value) : CuM w dd f (((w.alloc (.cells (ta f) tCo)).alloc (.cells dd tDe)).alloc (.cells (ta fun _ => 0) tCo)) := by
  have b1 := below_one w (.cells (ta f) tCo)
  have b2 := below_one (w.alloc (.cells (ta f) tCo)) (.cells dd tDe)
  have b3 := below_one ((w.alloc (.cells (ta f) tCo)).alloc (.cells dd tDe)) (.cells (ta fun _ => 0) tCo)
  refine ⟨kept b3 (kept b2 (h1_0 _ _)), ?_, ?_, keepB (keepB b1 b2) b3⟩
  · have h9 := kept b3 (h1_0 (w.alloc (.cells (ta f) tCo)) (.cells dd tDe))
    rw [show (w.alloc (.cells (ta f) tCo)).heap.size = w.heap.size + 1 by simp] at h9
    exact h9
  · have h9 := h1_0 ((w.alloc (.cells (ta f) tCo)).alloc (.cells dd tDe)) (.cells (ta fun _ => 0) tCo)
    rw [show ((w.alloc (.cells (ta f) tCo)).alloc (.cells dd tDe)).heap.size = w.heap.size + 2 by simp] at h9
    exact h9
set_option maxRecDepth 100000 in
set_option maxHeartbeats 12800000 in
theorem counted_any (f : Nat → Int) (lk wh am : Int) (cr ys : Bool) (h1 : -9223372036854775808 ≤ wh ∧ wh ≤ 9223372036854775807) (h2 : -9223372036854775808 ≤ am ∧ am ≤ 9223372036854775807) (hf : ∀ j, j < 12 → 0 ≤ f j ∧ f j ≤ 1000000000000) (w : World) :
    Calls Try.prog 6 #[.agg (ta f), .agg #[.int .i64 lk, .int .i64 wh, .int .i64 am, .bool cr, .bool ys]] w fun e w' => e = .returned (.agg (ta (sumT f (brD ⟨lk, wh, am, cr, ys⟩)))) ∧ Below w.heap.size w w' := by
  have P1 : Hid (∀ y, Calls Try.prog 4 #[.int .i64 wh, .int .i64 6] y fun e w' => e = .returned (.int .i64 (Pick.pickOf wh 6)) ∧ w' = y) := fun y => Pick.pick_any wh 6 y h1.1 h1.2 (by omega) (by omega)
  have P2 : Hid (∀ y, Calls Try.prog 4 #[.int .i64 am, .int .i64 1000000000] y fun e w' => e = .returned (.int .i64 (Pick.pickOf am 1000000000)) ∧ w' = y) := fun y => Pick.pick_any am 1000000000 y h2.1 h2.2 (by omega) (by omega)
  have a0 := Pick.pick_lo wh 6 (by omega)
  have a1 := Pick.pick_hi wh 6 (by omega)
  have b0 := Pick.pick_lo am 1000000000 (by omega)
  have b1 := Pick.pick_hi am 1000000000 (by omega)
  obtain ⟨K, hK⟩ : ∃ K : Nat, Pick.pickOf wh 6 = (K : Int) := ⟨(Pick.pickOf wh 6).toNat, by omega⟩
  obtain ⟨M, hM⟩ : ∃ M : Nat, Pick.pickOf am 1000000000 = (M : Int) := ⟨(Pick.pickOf am 1000000000).toNat, by omega⟩
  have hbr : brD ⟨lk, wh, am, cr, ys⟩ = br (decide (3 < K)) (decide (2 < K)) cr ys (M : Int) := by
    unfold brD kd md
    simp only [hK, hM, Int.toNat_natCast]
  rw [hbr]
  rw [hK] at P1 a0 a1
  rw [hM] at P2 b0 b1
  have HK : Hid (K < 6) := by show K < 6; omega
  have HM : Hid ((M : Int) < 1000000000) := b1
  have HF : Hid (∀ j, j < 12 → 0 ≤ f j ∧ f j ≤ 1000000000000) := hf
  have HS : Hid (CuM w #[.int .i64 lk, .int .i64 wh, .int .i64 am, .bool cr, .bool ys] f (((w.alloc (.cells #[.int .i64 (f 0), .int .i64 (f 1), .int .i64 (f 2), .int .i64 (f 3), .int .i64 (f 4), .int .i64 (f 5), .int .i64 (f 6), .int .i64 (f 7), .int .i64 (f 8), .int .i64 (f 9), .int .i64 (f 10), .int .i64 (f 11)] tCo)).alloc (.cells #[.int .i64 lk, .int .i64 wh, .int .i64 am, .bool cr, .bool ys] tDe)).alloc (.cells #[.int .i64 0, .int .i64 0, .int .i64 0, .int .i64 0, .int .i64 0, .int .i64 0, .int .i64 0, .int .i64 0, .int .i64 0, .int .i64 0, .int .i64 0, .int .i64 0] tCo))) := cu_start w f _
  clear a0 b0 a1 b1 hK hM h1 h2 hf hbr
  unfold ta
  go_enter Try.func6, Try.ntmps6
  go_wp2_with fail
  refine (P2.out _).mono ?_
  rintro e y ⟨rfl, hy⟩
  change y = (((w.alloc (.cells #[.int .i64 (f 0), .int .i64 (f 1), .int .i64 (f 2), .int .i64 (f 3), .int .i64 (f 4), .int .i64 (f 5), .int .i64 (f 6), .int .i64 (f 7), .int .i64 (f 8), .int .i64 (f 9), .int .i64 (f 10), .int .i64 (f 11)] tCo)).alloc (.cells #[.int .i64 lk, .int .i64 wh, .int .i64 am, .bool cr, .bool ys] tDe)).alloc (.cells #[.int .i64 0, .int .i64 0, .int .i64 0, .int .i64 0, .int .i64 0, .int .i64 0, .int .i64 0, .int .i64 0, .int .i64 0, .int .i64 0, .int .i64 0, .int .i64 0] tCo)) at hy
  have HY : Hid (CuM w #[.int .i64 lk, .int .i64 wh, .int .i64 am, .bool cr, .bool ys] f y) := by rw [hy]; exact HS.out
  have hd := HY.out.d
  have d1 : y.cell? ⟨w.heap.size + 1, 1, none⟩ = some (.int .i64 wh) := by simp [World.cell?, hd]
  have d3 : y.cell? ⟨w.heap.size + 1, 3, none⟩ = some (.bool cr) := by simp [World.cell?, hd]
  have d4 : y.cell? ⟨w.heap.size + 1, 4, none⟩ = some (.bool ys) := by simp [World.cell?, hd]
  clear hd hy HS
  go_wp2_with fail
  refine (P1.out _).mono ?_
  rintro e y2 ⟨rfl, rfl⟩
  go_wp2_with fail
  refine (P1.out _).mono ?_
  rintro e y3 ⟨rfl, rfl⟩
  rcases six HK.out with rfl | rfl | rfl | rfl | rfl | rfl <;> cases cr <;> cases ys
  · have S0 := HY.out
    obtain ⟨p0, q0⟩ : y3.cell? ⟨w.heap.size, 0, none⟩ = some (.int .i64 (f 0)) ∧ y3.frozen? ⟨w.heap.size, 0, none⟩ = false := by simpa [upd] using ta_cell S0.t 0 (by omega)
    obtain ⟨z0, HZ0⟩ : ∃ z, Hid (y3.setCell ⟨w.heap.size, 0, none⟩ (.int .i64 (f 0 + 1)) = z) := ⟨_, rfl⟩
    have S1 : CuM w #[.int .i64 lk, .int .i64 wh, .int .i64 am, .bool false, .bool false] (upd f 0 (f 0 + 1)) z0 := by rw [← HZ0.out]; exact S0.set 0 (by omega) _
    have d30 : z0.cell? ⟨w.heap.size + 1, 3, none⟩ = some (.bool false) := by have := S1.d; simp [World.cell?, this]
    have d40 : z0.cell? ⟨w.heap.size + 1, 4, none⟩ = some (.bool false) := by have := S1.d; simp [World.cell?, this]
    have m0 : -9223372036854775808 ≤ f 0 + 1 := by have := HF.out 0 (by omega); have := HM.out; omega
    have n0 : f 0 + 1 ≤ 9223372036854775807 := by have := HF.out 0 (by omega); have := HM.out; omega
    obtain ⟨p1, q1⟩ : z0.cell? ⟨w.heap.size, 2, none⟩ = some (.int .i64 (f 2)) ∧ z0.frozen? ⟨w.heap.size, 2, none⟩ = false := by simpa [upd] using ta_cell S1.t 2 (by omega)
    obtain ⟨z1, HZ1⟩ : ∃ z, Hid (z0.setCell ⟨w.heap.size, 2, none⟩ (.int .i64 (f 2 + 1)) = z) := ⟨_, rfl⟩
    have S2 : CuM w #[.int .i64 lk, .int .i64 wh, .int .i64 am, .bool false, .bool false] (upd (upd f 0 (f 0 + 1)) 2 (f 2 + 1)) z1 := by rw [← HZ1.out]; exact S1.set 2 (by omega) _
    have d31 : z1.cell? ⟨w.heap.size + 1, 3, none⟩ = some (.bool false) := by have := S2.d; simp [World.cell?, this]
    have d41 : z1.cell? ⟨w.heap.size + 1, 4, none⟩ = some (.bool false) := by have := S2.d; simp [World.cell?, this]
    have m1 : -9223372036854775808 ≤ f 2 + 1 := by have := HF.out 2 (by omega); have := HM.out; omega
    have n1 : f 2 + 1 ≤ 9223372036854775807 := by have := HF.out 2 (by omega); have := HM.out; omega
    have R2 := S2.r
    have T2 := S2.t
    have HE : Hid (ta (upd (upd f 0 (f 0 + 1)) 2 (f 2 + 1)) = ta (sumT f (br false false false false (M : Int)))) := ta_congr fun j hj => by rcases twelve hj with rfl | rfl | rfl | rfl | rfl | rfl | rfl | rfl | rfl | rfl | rfl | rfl <;> simp [sumT, br, mov, nmI, upd]
    have HFIN : Hid ((z1.setRow (w.heap.size + 2) (ta (upd (upd f 0 (f 0 + 1)) 2 (f 2 + 1)))).heap[w.heap.size + 2]? = some (.cells (ta (upd (upd f 0 (f 0 + 1)) 2 (f 2 + 1))) tCo (0, 0)) ∧ Below w.heap.size w (z1.setRow (w.heap.size + 2) (ta (upd (upd f 0 (f 0 + 1)) 2 (f 2 + 1))))) := ⟨setRow_at R2 _, below_setRow S2.bel (by omega) _⟩
    obtain ⟨TT, HTT⟩ : ∃ TT, Hid (ta (upd (upd f 0 (f 0 + 1)) 2 (f 2 + 1)) = TT) := ⟨_, rfl⟩
    rw [HTT.out] at T2
    have hsz : TT.size = 12 := by rw [← HTT.out]; rfl
    have hinf : (Try.prog.info? tCo).map (·.size) = some TT.size := by rw [hsz]; exact infoCo
    have hone : TT.all (·.oneCell') = true := by rw [← HTT.out]; simp [ta, Value.oneCell']
    have hold : (ta fun _ => 0).size = TT.size := by rw [hsz]; rfl
    clear S0 S1 S2 hsz
    rw [HTT.out] at HFIN HE
    go_wp2_with (first
      | (refine wpList_load_row rfl tCo _ rfl w.heap.size rfl _ _ _ _ T2 Try.underlying30 rfl hinf ?_; refine wpList_store_row rfl tCo _ _ rfl (w.heap.size + 2) TT (by rfl) (by rfl) _ _ R2 hinf hold hone ?_)
      | (rw [HZ0.out])
      | (rw [HZ1.out])
      | fail)
    refine bodyPost_ret (v := .agg TT) (results_cell_row (fn := Try.f6) (p := 4) rfl _ _ (w.heap.size + 2) tCo _ _ _ rfl HFIN.out.1 Try.underlying30 rfl hinf) rfl ?_
    exact ⟨congrArg _ (congrArg _ HE.out), HFIN.out.2⟩
  · have S0 := HY.out
    obtain ⟨p0, q0⟩ : y3.cell? ⟨w.heap.size, 0, none⟩ = some (.int .i64 (f 0)) ∧ y3.frozen? ⟨w.heap.size, 0, none⟩ = false := by simpa [upd] using ta_cell S0.t 0 (by omega)
    obtain ⟨z0, HZ0⟩ : ∃ z, Hid (y3.setCell ⟨w.heap.size, 0, none⟩ (.int .i64 (f 0 + 1)) = z) := ⟨_, rfl⟩
    have S1 : CuM w #[.int .i64 lk, .int .i64 wh, .int .i64 am, .bool false, .bool true] (upd f 0 (f 0 + 1)) z0 := by rw [← HZ0.out]; exact S0.set 0 (by omega) _
    have d30 : z0.cell? ⟨w.heap.size + 1, 3, none⟩ = some (.bool false) := by have := S1.d; simp [World.cell?, this]
    have d40 : z0.cell? ⟨w.heap.size + 1, 4, none⟩ = some (.bool true) := by have := S1.d; simp [World.cell?, this]
    have m0 : -9223372036854775808 ≤ f 0 + 1 := by have := HF.out 0 (by omega); have := HM.out; omega
    have n0 : f 0 + 1 ≤ 9223372036854775807 := by have := HF.out 0 (by omega); have := HM.out; omega
    obtain ⟨p1, q1⟩ : z0.cell? ⟨w.heap.size, 1, none⟩ = some (.int .i64 (f 1)) ∧ z0.frozen? ⟨w.heap.size, 1, none⟩ = false := by simpa [upd] using ta_cell S1.t 1 (by omega)
    obtain ⟨z1, HZ1⟩ : ∃ z, Hid (z0.setCell ⟨w.heap.size, 1, none⟩ (.int .i64 (f 1 + 1)) = z) := ⟨_, rfl⟩
    have S2 : CuM w #[.int .i64 lk, .int .i64 wh, .int .i64 am, .bool false, .bool true] (upd (upd f 0 (f 0 + 1)) 1 (f 1 + 1)) z1 := by rw [← HZ1.out]; exact S1.set 1 (by omega) _
    have d31 : z1.cell? ⟨w.heap.size + 1, 3, none⟩ = some (.bool false) := by have := S2.d; simp [World.cell?, this]
    have d41 : z1.cell? ⟨w.heap.size + 1, 4, none⟩ = some (.bool true) := by have := S2.d; simp [World.cell?, this]
    have m1 : -9223372036854775808 ≤ f 1 + 1 := by have := HF.out 1 (by omega); have := HM.out; omega
    have n1 : f 1 + 1 ≤ 9223372036854775807 := by have := HF.out 1 (by omega); have := HM.out; omega
    obtain ⟨p2, q2⟩ : z1.cell? ⟨w.heap.size, 6, none⟩ = some (.int .i64 (f 6)) ∧ z1.frozen? ⟨w.heap.size, 6, none⟩ = false := by simpa [upd] using ta_cell S2.t 6 (by omega)
    obtain ⟨z2, HZ2⟩ : ∃ z, Hid (z1.setCell ⟨w.heap.size, 6, none⟩ (.int .i64 (f 6 + 1)) = z) := ⟨_, rfl⟩
    have S3 : CuM w #[.int .i64 lk, .int .i64 wh, .int .i64 am, .bool false, .bool true] (upd (upd (upd f 0 (f 0 + 1)) 1 (f 1 + 1)) 6 (f 6 + 1)) z2 := by rw [← HZ2.out]; exact S2.set 6 (by omega) _
    have d32 : z2.cell? ⟨w.heap.size + 1, 3, none⟩ = some (.bool false) := by have := S3.d; simp [World.cell?, this]
    have d42 : z2.cell? ⟨w.heap.size + 1, 4, none⟩ = some (.bool true) := by have := S3.d; simp [World.cell?, this]
    have m2 : -9223372036854775808 ≤ f 6 + 1 := by have := HF.out 6 (by omega); have := HM.out; omega
    have n2 : f 6 + 1 ≤ 9223372036854775807 := by have := HF.out 6 (by omega); have := HM.out; omega
    obtain ⟨p3, q3⟩ : z2.cell? ⟨w.heap.size, 10, none⟩ = some (.int .i64 (f 10)) ∧ z2.frozen? ⟨w.heap.size, 10, none⟩ = false := by simpa [upd] using ta_cell S3.t 10 (by omega)
    obtain ⟨z3, HZ3⟩ : ∃ z, Hid (z2.setCell ⟨w.heap.size, 10, none⟩ (.int .i64 (f 10 + (M : Int))) = z) := ⟨_, rfl⟩
    have S4 : CuM w #[.int .i64 lk, .int .i64 wh, .int .i64 am, .bool false, .bool true] (upd (upd (upd (upd f 0 (f 0 + 1)) 1 (f 1 + 1)) 6 (f 6 + 1)) 10 (f 10 + (M : Int))) z3 := by rw [← HZ3.out]; exact S3.set 10 (by omega) _
    have d33 : z3.cell? ⟨w.heap.size + 1, 3, none⟩ = some (.bool false) := by have := S4.d; simp [World.cell?, this]
    have d43 : z3.cell? ⟨w.heap.size + 1, 4, none⟩ = some (.bool true) := by have := S4.d; simp [World.cell?, this]
    have m3 : -9223372036854775808 ≤ f 10 + (M : Int) := by have := HF.out 10 (by omega); have := HM.out; omega
    have n3 : f 10 + (M : Int) ≤ 9223372036854775807 := by have := HF.out 10 (by omega); have := HM.out; omega
    have R4 := S4.r
    have T4 := S4.t
    have HE : Hid (ta (upd (upd (upd (upd f 0 (f 0 + 1)) 1 (f 1 + 1)) 6 (f 6 + 1)) 10 (f 10 + (M : Int))) = ta (sumT f (br false false false true (M : Int)))) := ta_congr fun j hj => by rcases twelve hj with rfl | rfl | rfl | rfl | rfl | rfl | rfl | rfl | rfl | rfl | rfl | rfl <;> simp [sumT, br, mov, nmI, upd]
    have HFIN : Hid ((z3.setRow (w.heap.size + 2) (ta (upd (upd (upd (upd f 0 (f 0 + 1)) 1 (f 1 + 1)) 6 (f 6 + 1)) 10 (f 10 + (M : Int))))).heap[w.heap.size + 2]? = some (.cells (ta (upd (upd (upd (upd f 0 (f 0 + 1)) 1 (f 1 + 1)) 6 (f 6 + 1)) 10 (f 10 + (M : Int)))) tCo (0, 0)) ∧ Below w.heap.size w (z3.setRow (w.heap.size + 2) (ta (upd (upd (upd (upd f 0 (f 0 + 1)) 1 (f 1 + 1)) 6 (f 6 + 1)) 10 (f 10 + (M : Int)))))) := ⟨setRow_at R4 _, below_setRow S4.bel (by omega) _⟩
    obtain ⟨TT, HTT⟩ : ∃ TT, Hid (ta (upd (upd (upd (upd f 0 (f 0 + 1)) 1 (f 1 + 1)) 6 (f 6 + 1)) 10 (f 10 + (M : Int))) = TT) := ⟨_, rfl⟩
    rw [HTT.out] at T4
    have hsz : TT.size = 12 := by rw [← HTT.out]; rfl
    have hinf : (Try.prog.info? tCo).map (·.size) = some TT.size := by rw [hsz]; exact infoCo
    have hone : TT.all (·.oneCell') = true := by rw [← HTT.out]; simp [ta, Value.oneCell']
    have hold : (ta fun _ => 0).size = TT.size := by rw [hsz]; rfl
    clear S0 S1 S2 S3 S4 hsz
    rw [HTT.out] at HFIN HE
    go_wp2_with (first
      | (refine wpList_load_row rfl tCo _ rfl w.heap.size rfl _ _ _ _ T4 Try.underlying30 rfl hinf ?_; refine wpList_store_row rfl tCo _ _ rfl (w.heap.size + 2) TT (by rfl) (by rfl) _ _ R4 hinf hold hone ?_)
      | (rw [HZ0.out])
      | (rw [HZ1.out])
      | (rw [HZ2.out])
      | (rw [HZ3.out])
      | fail)
    refine bodyPost_ret (v := .agg TT) (results_cell_row (fn := Try.f6) (p := 4) rfl _ _ (w.heap.size + 2) tCo _ _ _ rfl HFIN.out.1 Try.underlying30 rfl hinf) rfl ?_
    exact ⟨congrArg _ (congrArg _ HE.out), HFIN.out.2⟩
  · have S0 := HY.out
    obtain ⟨p0, q0⟩ : y3.cell? ⟨w.heap.size, 0, none⟩ = some (.int .i64 (f 0)) ∧ y3.frozen? ⟨w.heap.size, 0, none⟩ = false := by simpa [upd] using ta_cell S0.t 0 (by omega)
    obtain ⟨z0, HZ0⟩ : ∃ z, Hid (y3.setCell ⟨w.heap.size, 0, none⟩ (.int .i64 (f 0 + 1)) = z) := ⟨_, rfl⟩
    have S1 : CuM w #[.int .i64 lk, .int .i64 wh, .int .i64 am, .bool true, .bool false] (upd f 0 (f 0 + 1)) z0 := by rw [← HZ0.out]; exact S0.set 0 (by omega) _
    have d30 : z0.cell? ⟨w.heap.size + 1, 3, none⟩ = some (.bool true) := by have := S1.d; simp [World.cell?, this]
    have d40 : z0.cell? ⟨w.heap.size + 1, 4, none⟩ = some (.bool false) := by have := S1.d; simp [World.cell?, this]
    have m0 : -9223372036854775808 ≤ f 0 + 1 := by have := HF.out 0 (by omega); have := HM.out; omega
    have n0 : f 0 + 1 ≤ 9223372036854775807 := by have := HF.out 0 (by omega); have := HM.out; omega
    obtain ⟨p1, q1⟩ : z0.cell? ⟨w.heap.size, 2, none⟩ = some (.int .i64 (f 2)) ∧ z0.frozen? ⟨w.heap.size, 2, none⟩ = false := by simpa [upd] using ta_cell S1.t 2 (by omega)
    obtain ⟨z1, HZ1⟩ : ∃ z, Hid (z0.setCell ⟨w.heap.size, 2, none⟩ (.int .i64 (f 2 + 1)) = z) := ⟨_, rfl⟩
    have S2 : CuM w #[.int .i64 lk, .int .i64 wh, .int .i64 am, .bool true, .bool false] (upd (upd f 0 (f 0 + 1)) 2 (f 2 + 1)) z1 := by rw [← HZ1.out]; exact S1.set 2 (by omega) _
    have d31 : z1.cell? ⟨w.heap.size + 1, 3, none⟩ = some (.bool true) := by have := S2.d; simp [World.cell?, this]
    have d41 : z1.cell? ⟨w.heap.size + 1, 4, none⟩ = some (.bool false) := by have := S2.d; simp [World.cell?, this]
    have m1 : -9223372036854775808 ≤ f 2 + 1 := by have := HF.out 2 (by omega); have := HM.out; omega
    have n1 : f 2 + 1 ≤ 9223372036854775807 := by have := HF.out 2 (by omega); have := HM.out; omega
    have R2 := S2.r
    have T2 := S2.t
    have HE : Hid (ta (upd (upd f 0 (f 0 + 1)) 2 (f 2 + 1)) = ta (sumT f (br false false true false (M : Int)))) := ta_congr fun j hj => by rcases twelve hj with rfl | rfl | rfl | rfl | rfl | rfl | rfl | rfl | rfl | rfl | rfl | rfl <;> simp [sumT, br, mov, nmI, upd]
    have HFIN : Hid ((z1.setRow (w.heap.size + 2) (ta (upd (upd f 0 (f 0 + 1)) 2 (f 2 + 1)))).heap[w.heap.size + 2]? = some (.cells (ta (upd (upd f 0 (f 0 + 1)) 2 (f 2 + 1))) tCo (0, 0)) ∧ Below w.heap.size w (z1.setRow (w.heap.size + 2) (ta (upd (upd f 0 (f 0 + 1)) 2 (f 2 + 1))))) := ⟨setRow_at R2 _, below_setRow S2.bel (by omega) _⟩
    obtain ⟨TT, HTT⟩ : ∃ TT, Hid (ta (upd (upd f 0 (f 0 + 1)) 2 (f 2 + 1)) = TT) := ⟨_, rfl⟩
    rw [HTT.out] at T2
    have hsz : TT.size = 12 := by rw [← HTT.out]; rfl
    have hinf : (Try.prog.info? tCo).map (·.size) = some TT.size := by rw [hsz]; exact infoCo
    have hone : TT.all (·.oneCell') = true := by rw [← HTT.out]; simp [ta, Value.oneCell']
    have hold : (ta fun _ => 0).size = TT.size := by rw [hsz]; rfl
    clear S0 S1 S2 hsz
    rw [HTT.out] at HFIN HE
    go_wp2_with (first
      | (refine wpList_load_row rfl tCo _ rfl w.heap.size rfl _ _ _ _ T2 Try.underlying30 rfl hinf ?_; refine wpList_store_row rfl tCo _ _ rfl (w.heap.size + 2) TT (by rfl) (by rfl) _ _ R2 hinf hold hone ?_)
      | (rw [HZ0.out])
      | (rw [HZ1.out])
      | fail)
    refine bodyPost_ret (v := .agg TT) (results_cell_row (fn := Try.f6) (p := 4) rfl _ _ (w.heap.size + 2) tCo _ _ _ rfl HFIN.out.1 Try.underlying30 rfl hinf) rfl ?_
    exact ⟨congrArg _ (congrArg _ HE.out), HFIN.out.2⟩
  · have S0 := HY.out
    obtain ⟨p0, q0⟩ : y3.cell? ⟨w.heap.size, 0, none⟩ = some (.int .i64 (f 0)) ∧ y3.frozen? ⟨w.heap.size, 0, none⟩ = false := by simpa [upd] using ta_cell S0.t 0 (by omega)
    obtain ⟨z0, HZ0⟩ : ∃ z, Hid (y3.setCell ⟨w.heap.size, 0, none⟩ (.int .i64 (f 0 + 1)) = z) := ⟨_, rfl⟩
    have S1 : CuM w #[.int .i64 lk, .int .i64 wh, .int .i64 am, .bool true, .bool true] (upd f 0 (f 0 + 1)) z0 := by rw [← HZ0.out]; exact S0.set 0 (by omega) _
    have d30 : z0.cell? ⟨w.heap.size + 1, 3, none⟩ = some (.bool true) := by have := S1.d; simp [World.cell?, this]
    have d40 : z0.cell? ⟨w.heap.size + 1, 4, none⟩ = some (.bool true) := by have := S1.d; simp [World.cell?, this]
    have m0 : -9223372036854775808 ≤ f 0 + 1 := by have := HF.out 0 (by omega); have := HM.out; omega
    have n0 : f 0 + 1 ≤ 9223372036854775807 := by have := HF.out 0 (by omega); have := HM.out; omega
    obtain ⟨p1, q1⟩ : z0.cell? ⟨w.heap.size, 1, none⟩ = some (.int .i64 (f 1)) ∧ z0.frozen? ⟨w.heap.size, 1, none⟩ = false := by simpa [upd] using ta_cell S1.t 1 (by omega)
    obtain ⟨z1, HZ1⟩ : ∃ z, Hid (z0.setCell ⟨w.heap.size, 1, none⟩ (.int .i64 (f 1 + 1)) = z) := ⟨_, rfl⟩
    have S2 : CuM w #[.int .i64 lk, .int .i64 wh, .int .i64 am, .bool true, .bool true] (upd (upd f 0 (f 0 + 1)) 1 (f 1 + 1)) z1 := by rw [← HZ1.out]; exact S1.set 1 (by omega) _
    have d31 : z1.cell? ⟨w.heap.size + 1, 3, none⟩ = some (.bool true) := by have := S2.d; simp [World.cell?, this]
    have d41 : z1.cell? ⟨w.heap.size + 1, 4, none⟩ = some (.bool true) := by have := S2.d; simp [World.cell?, this]
    have m1 : -9223372036854775808 ≤ f 1 + 1 := by have := HF.out 1 (by omega); have := HM.out; omega
    have n1 : f 1 + 1 ≤ 9223372036854775807 := by have := HF.out 1 (by omega); have := HM.out; omega
    obtain ⟨p2, q2⟩ : z1.cell? ⟨w.heap.size, 4, none⟩ = some (.int .i64 (f 4)) ∧ z1.frozen? ⟨w.heap.size, 4, none⟩ = false := by simpa [upd] using ta_cell S2.t 4 (by omega)
    obtain ⟨z2, HZ2⟩ : ∃ z, Hid (z1.setCell ⟨w.heap.size, 4, none⟩ (.int .i64 (f 4 + 1)) = z) := ⟨_, rfl⟩
    have S3 : CuM w #[.int .i64 lk, .int .i64 wh, .int .i64 am, .bool true, .bool true] (upd (upd (upd f 0 (f 0 + 1)) 1 (f 1 + 1)) 4 (f 4 + 1)) z2 := by rw [← HZ2.out]; exact S2.set 4 (by omega) _
    have d32 : z2.cell? ⟨w.heap.size + 1, 3, none⟩ = some (.bool true) := by have := S3.d; simp [World.cell?, this]
    have d42 : z2.cell? ⟨w.heap.size + 1, 4, none⟩ = some (.bool true) := by have := S3.d; simp [World.cell?, this]
    have m2 : -9223372036854775808 ≤ f 4 + 1 := by have := HF.out 4 (by omega); have := HM.out; omega
    have n2 : f 4 + 1 ≤ 9223372036854775807 := by have := HF.out 4 (by omega); have := HM.out; omega
    obtain ⟨p3, q3⟩ : z2.cell? ⟨w.heap.size, 8, none⟩ = some (.int .i64 (f 8)) ∧ z2.frozen? ⟨w.heap.size, 8, none⟩ = false := by simpa [upd] using ta_cell S3.t 8 (by omega)
    obtain ⟨z3, HZ3⟩ : ∃ z, Hid (z2.setCell ⟨w.heap.size, 8, none⟩ (.int .i64 (f 8 + (M : Int))) = z) := ⟨_, rfl⟩
    have S4 : CuM w #[.int .i64 lk, .int .i64 wh, .int .i64 am, .bool true, .bool true] (upd (upd (upd (upd f 0 (f 0 + 1)) 1 (f 1 + 1)) 4 (f 4 + 1)) 8 (f 8 + (M : Int))) z3 := by rw [← HZ3.out]; exact S3.set 8 (by omega) _
    have d33 : z3.cell? ⟨w.heap.size + 1, 3, none⟩ = some (.bool true) := by have := S4.d; simp [World.cell?, this]
    have d43 : z3.cell? ⟨w.heap.size + 1, 4, none⟩ = some (.bool true) := by have := S4.d; simp [World.cell?, this]
    have m3 : -9223372036854775808 ≤ f 8 + (M : Int) := by have := HF.out 8 (by omega); have := HM.out; omega
    have n3 : f 8 + (M : Int) ≤ 9223372036854775807 := by have := HF.out 8 (by omega); have := HM.out; omega
    have R4 := S4.r
    have T4 := S4.t
    have HE : Hid (ta (upd (upd (upd (upd f 0 (f 0 + 1)) 1 (f 1 + 1)) 4 (f 4 + 1)) 8 (f 8 + (M : Int))) = ta (sumT f (br false false true true (M : Int)))) := ta_congr fun j hj => by rcases twelve hj with rfl | rfl | rfl | rfl | rfl | rfl | rfl | rfl | rfl | rfl | rfl | rfl <;> simp [sumT, br, mov, nmI, upd]
    have HFIN : Hid ((z3.setRow (w.heap.size + 2) (ta (upd (upd (upd (upd f 0 (f 0 + 1)) 1 (f 1 + 1)) 4 (f 4 + 1)) 8 (f 8 + (M : Int))))).heap[w.heap.size + 2]? = some (.cells (ta (upd (upd (upd (upd f 0 (f 0 + 1)) 1 (f 1 + 1)) 4 (f 4 + 1)) 8 (f 8 + (M : Int)))) tCo (0, 0)) ∧ Below w.heap.size w (z3.setRow (w.heap.size + 2) (ta (upd (upd (upd (upd f 0 (f 0 + 1)) 1 (f 1 + 1)) 4 (f 4 + 1)) 8 (f 8 + (M : Int)))))) := ⟨setRow_at R4 _, below_setRow S4.bel (by omega) _⟩
    obtain ⟨TT, HTT⟩ : ∃ TT, Hid (ta (upd (upd (upd (upd f 0 (f 0 + 1)) 1 (f 1 + 1)) 4 (f 4 + 1)) 8 (f 8 + (M : Int))) = TT) := ⟨_, rfl⟩
    rw [HTT.out] at T4
    have hsz : TT.size = 12 := by rw [← HTT.out]; rfl
    have hinf : (Try.prog.info? tCo).map (·.size) = some TT.size := by rw [hsz]; exact infoCo
    have hone : TT.all (·.oneCell') = true := by rw [← HTT.out]; simp [ta, Value.oneCell']
    have hold : (ta fun _ => 0).size = TT.size := by rw [hsz]; rfl
    clear S0 S1 S2 S3 S4 hsz
    rw [HTT.out] at HFIN HE
    go_wp2_with (first
      | (refine wpList_load_row rfl tCo _ rfl w.heap.size rfl _ _ _ _ T4 Try.underlying30 rfl hinf ?_; refine wpList_store_row rfl tCo _ _ rfl (w.heap.size + 2) TT (by rfl) (by rfl) _ _ R4 hinf hold hone ?_)
      | (rw [HZ0.out])
      | (rw [HZ1.out])
      | (rw [HZ2.out])
      | (rw [HZ3.out])
      | fail)
    refine bodyPost_ret (v := .agg TT) (results_cell_row (fn := Try.f6) (p := 4) rfl _ _ (w.heap.size + 2) tCo _ _ _ rfl HFIN.out.1 Try.underlying30 rfl hinf) rfl ?_
    exact ⟨congrArg _ (congrArg _ HE.out), HFIN.out.2⟩
  · have S0 := HY.out
    obtain ⟨p0, q0⟩ : y3.cell? ⟨w.heap.size, 0, none⟩ = some (.int .i64 (f 0)) ∧ y3.frozen? ⟨w.heap.size, 0, none⟩ = false := by simpa [upd] using ta_cell S0.t 0 (by omega)
    obtain ⟨z0, HZ0⟩ : ∃ z, Hid (y3.setCell ⟨w.heap.size, 0, none⟩ (.int .i64 (f 0 + 1)) = z) := ⟨_, rfl⟩
    have S1 : CuM w #[.int .i64 lk, .int .i64 wh, .int .i64 am, .bool false, .bool false] (upd f 0 (f 0 + 1)) z0 := by rw [← HZ0.out]; exact S0.set 0 (by omega) _
    have d30 : z0.cell? ⟨w.heap.size + 1, 3, none⟩ = some (.bool false) := by have := S1.d; simp [World.cell?, this]
    have d40 : z0.cell? ⟨w.heap.size + 1, 4, none⟩ = some (.bool false) := by have := S1.d; simp [World.cell?, this]
    have m0 : -9223372036854775808 ≤ f 0 + 1 := by have := HF.out 0 (by omega); have := HM.out; omega
    have n0 : f 0 + 1 ≤ 9223372036854775807 := by have := HF.out 0 (by omega); have := HM.out; omega
    obtain ⟨p1, q1⟩ : z0.cell? ⟨w.heap.size, 2, none⟩ = some (.int .i64 (f 2)) ∧ z0.frozen? ⟨w.heap.size, 2, none⟩ = false := by simpa [upd] using ta_cell S1.t 2 (by omega)
    obtain ⟨z1, HZ1⟩ : ∃ z, Hid (z0.setCell ⟨w.heap.size, 2, none⟩ (.int .i64 (f 2 + 1)) = z) := ⟨_, rfl⟩
    have S2 : CuM w #[.int .i64 lk, .int .i64 wh, .int .i64 am, .bool false, .bool false] (upd (upd f 0 (f 0 + 1)) 2 (f 2 + 1)) z1 := by rw [← HZ1.out]; exact S1.set 2 (by omega) _
    have d31 : z1.cell? ⟨w.heap.size + 1, 3, none⟩ = some (.bool false) := by have := S2.d; simp [World.cell?, this]
    have d41 : z1.cell? ⟨w.heap.size + 1, 4, none⟩ = some (.bool false) := by have := S2.d; simp [World.cell?, this]
    have m1 : -9223372036854775808 ≤ f 2 + 1 := by have := HF.out 2 (by omega); have := HM.out; omega
    have n1 : f 2 + 1 ≤ 9223372036854775807 := by have := HF.out 2 (by omega); have := HM.out; omega
    have R2 := S2.r
    have T2 := S2.t
    have HE : Hid (ta (upd (upd f 0 (f 0 + 1)) 2 (f 2 + 1)) = ta (sumT f (br false false false false (M : Int)))) := ta_congr fun j hj => by rcases twelve hj with rfl | rfl | rfl | rfl | rfl | rfl | rfl | rfl | rfl | rfl | rfl | rfl <;> simp [sumT, br, mov, nmI, upd]
    have HFIN : Hid ((z1.setRow (w.heap.size + 2) (ta (upd (upd f 0 (f 0 + 1)) 2 (f 2 + 1)))).heap[w.heap.size + 2]? = some (.cells (ta (upd (upd f 0 (f 0 + 1)) 2 (f 2 + 1))) tCo (0, 0)) ∧ Below w.heap.size w (z1.setRow (w.heap.size + 2) (ta (upd (upd f 0 (f 0 + 1)) 2 (f 2 + 1))))) := ⟨setRow_at R2 _, below_setRow S2.bel (by omega) _⟩
    obtain ⟨TT, HTT⟩ : ∃ TT, Hid (ta (upd (upd f 0 (f 0 + 1)) 2 (f 2 + 1)) = TT) := ⟨_, rfl⟩
    rw [HTT.out] at T2
    have hsz : TT.size = 12 := by rw [← HTT.out]; rfl
    have hinf : (Try.prog.info? tCo).map (·.size) = some TT.size := by rw [hsz]; exact infoCo
    have hone : TT.all (·.oneCell') = true := by rw [← HTT.out]; simp [ta, Value.oneCell']
    have hold : (ta fun _ => 0).size = TT.size := by rw [hsz]; rfl
    clear S0 S1 S2 hsz
    rw [HTT.out] at HFIN HE
    go_wp2_with (first
      | (refine wpList_load_row rfl tCo _ rfl w.heap.size rfl _ _ _ _ T2 Try.underlying30 rfl hinf ?_; refine wpList_store_row rfl tCo _ _ rfl (w.heap.size + 2) TT (by rfl) (by rfl) _ _ R2 hinf hold hone ?_)
      | (rw [HZ0.out])
      | (rw [HZ1.out])
      | fail)
    refine bodyPost_ret (v := .agg TT) (results_cell_row (fn := Try.f6) (p := 4) rfl _ _ (w.heap.size + 2) tCo _ _ _ rfl HFIN.out.1 Try.underlying30 rfl hinf) rfl ?_
    exact ⟨congrArg _ (congrArg _ HE.out), HFIN.out.2⟩
  · have S0 := HY.out
    obtain ⟨p0, q0⟩ : y3.cell? ⟨w.heap.size, 0, none⟩ = some (.int .i64 (f 0)) ∧ y3.frozen? ⟨w.heap.size, 0, none⟩ = false := by simpa [upd] using ta_cell S0.t 0 (by omega)
    obtain ⟨z0, HZ0⟩ : ∃ z, Hid (y3.setCell ⟨w.heap.size, 0, none⟩ (.int .i64 (f 0 + 1)) = z) := ⟨_, rfl⟩
    have S1 : CuM w #[.int .i64 lk, .int .i64 wh, .int .i64 am, .bool false, .bool true] (upd f 0 (f 0 + 1)) z0 := by rw [← HZ0.out]; exact S0.set 0 (by omega) _
    have d30 : z0.cell? ⟨w.heap.size + 1, 3, none⟩ = some (.bool false) := by have := S1.d; simp [World.cell?, this]
    have d40 : z0.cell? ⟨w.heap.size + 1, 4, none⟩ = some (.bool true) := by have := S1.d; simp [World.cell?, this]
    have m0 : -9223372036854775808 ≤ f 0 + 1 := by have := HF.out 0 (by omega); have := HM.out; omega
    have n0 : f 0 + 1 ≤ 9223372036854775807 := by have := HF.out 0 (by omega); have := HM.out; omega
    obtain ⟨p1, q1⟩ : z0.cell? ⟨w.heap.size, 1, none⟩ = some (.int .i64 (f 1)) ∧ z0.frozen? ⟨w.heap.size, 1, none⟩ = false := by simpa [upd] using ta_cell S1.t 1 (by omega)
    obtain ⟨z1, HZ1⟩ : ∃ z, Hid (z0.setCell ⟨w.heap.size, 1, none⟩ (.int .i64 (f 1 + 1)) = z) := ⟨_, rfl⟩
    have S2 : CuM w #[.int .i64 lk, .int .i64 wh, .int .i64 am, .bool false, .bool true] (upd (upd f 0 (f 0 + 1)) 1 (f 1 + 1)) z1 := by rw [← HZ1.out]; exact S1.set 1 (by omega) _
    have d31 : z1.cell? ⟨w.heap.size + 1, 3, none⟩ = some (.bool false) := by have := S2.d; simp [World.cell?, this]
    have d41 : z1.cell? ⟨w.heap.size + 1, 4, none⟩ = some (.bool true) := by have := S2.d; simp [World.cell?, this]
    have m1 : -9223372036854775808 ≤ f 1 + 1 := by have := HF.out 1 (by omega); have := HM.out; omega
    have n1 : f 1 + 1 ≤ 9223372036854775807 := by have := HF.out 1 (by omega); have := HM.out; omega
    obtain ⟨p2, q2⟩ : z1.cell? ⟨w.heap.size, 6, none⟩ = some (.int .i64 (f 6)) ∧ z1.frozen? ⟨w.heap.size, 6, none⟩ = false := by simpa [upd] using ta_cell S2.t 6 (by omega)
    obtain ⟨z2, HZ2⟩ : ∃ z, Hid (z1.setCell ⟨w.heap.size, 6, none⟩ (.int .i64 (f 6 + 1)) = z) := ⟨_, rfl⟩
    have S3 : CuM w #[.int .i64 lk, .int .i64 wh, .int .i64 am, .bool false, .bool true] (upd (upd (upd f 0 (f 0 + 1)) 1 (f 1 + 1)) 6 (f 6 + 1)) z2 := by rw [← HZ2.out]; exact S2.set 6 (by omega) _
    have d32 : z2.cell? ⟨w.heap.size + 1, 3, none⟩ = some (.bool false) := by have := S3.d; simp [World.cell?, this]
    have d42 : z2.cell? ⟨w.heap.size + 1, 4, none⟩ = some (.bool true) := by have := S3.d; simp [World.cell?, this]
    have m2 : -9223372036854775808 ≤ f 6 + 1 := by have := HF.out 6 (by omega); have := HM.out; omega
    have n2 : f 6 + 1 ≤ 9223372036854775807 := by have := HF.out 6 (by omega); have := HM.out; omega
    obtain ⟨p3, q3⟩ : z2.cell? ⟨w.heap.size, 10, none⟩ = some (.int .i64 (f 10)) ∧ z2.frozen? ⟨w.heap.size, 10, none⟩ = false := by simpa [upd] using ta_cell S3.t 10 (by omega)
    obtain ⟨z3, HZ3⟩ : ∃ z, Hid (z2.setCell ⟨w.heap.size, 10, none⟩ (.int .i64 (f 10 + (M : Int))) = z) := ⟨_, rfl⟩
    have S4 : CuM w #[.int .i64 lk, .int .i64 wh, .int .i64 am, .bool false, .bool true] (upd (upd (upd (upd f 0 (f 0 + 1)) 1 (f 1 + 1)) 6 (f 6 + 1)) 10 (f 10 + (M : Int))) z3 := by rw [← HZ3.out]; exact S3.set 10 (by omega) _
    have d33 : z3.cell? ⟨w.heap.size + 1, 3, none⟩ = some (.bool false) := by have := S4.d; simp [World.cell?, this]
    have d43 : z3.cell? ⟨w.heap.size + 1, 4, none⟩ = some (.bool true) := by have := S4.d; simp [World.cell?, this]
    have m3 : -9223372036854775808 ≤ f 10 + (M : Int) := by have := HF.out 10 (by omega); have := HM.out; omega
    have n3 : f 10 + (M : Int) ≤ 9223372036854775807 := by have := HF.out 10 (by omega); have := HM.out; omega
    have R4 := S4.r
    have T4 := S4.t
    have HE : Hid (ta (upd (upd (upd (upd f 0 (f 0 + 1)) 1 (f 1 + 1)) 6 (f 6 + 1)) 10 (f 10 + (M : Int))) = ta (sumT f (br false false false true (M : Int)))) := ta_congr fun j hj => by rcases twelve hj with rfl | rfl | rfl | rfl | rfl | rfl | rfl | rfl | rfl | rfl | rfl | rfl <;> simp [sumT, br, mov, nmI, upd]
    have HFIN : Hid ((z3.setRow (w.heap.size + 2) (ta (upd (upd (upd (upd f 0 (f 0 + 1)) 1 (f 1 + 1)) 6 (f 6 + 1)) 10 (f 10 + (M : Int))))).heap[w.heap.size + 2]? = some (.cells (ta (upd (upd (upd (upd f 0 (f 0 + 1)) 1 (f 1 + 1)) 6 (f 6 + 1)) 10 (f 10 + (M : Int)))) tCo (0, 0)) ∧ Below w.heap.size w (z3.setRow (w.heap.size + 2) (ta (upd (upd (upd (upd f 0 (f 0 + 1)) 1 (f 1 + 1)) 6 (f 6 + 1)) 10 (f 10 + (M : Int)))))) := ⟨setRow_at R4 _, below_setRow S4.bel (by omega) _⟩
    obtain ⟨TT, HTT⟩ : ∃ TT, Hid (ta (upd (upd (upd (upd f 0 (f 0 + 1)) 1 (f 1 + 1)) 6 (f 6 + 1)) 10 (f 10 + (M : Int))) = TT) := ⟨_, rfl⟩
    rw [HTT.out] at T4
    have hsz : TT.size = 12 := by rw [← HTT.out]; rfl
    have hinf : (Try.prog.info? tCo).map (·.size) = some TT.size := by rw [hsz]; exact infoCo
    have hone : TT.all (·.oneCell') = true := by rw [← HTT.out]; simp [ta, Value.oneCell']
    have hold : (ta fun _ => 0).size = TT.size := by rw [hsz]; rfl
    clear S0 S1 S2 S3 S4 hsz
    rw [HTT.out] at HFIN HE
    go_wp2_with (first
      | (refine wpList_load_row rfl tCo _ rfl w.heap.size rfl _ _ _ _ T4 Try.underlying30 rfl hinf ?_; refine wpList_store_row rfl tCo _ _ rfl (w.heap.size + 2) TT (by rfl) (by rfl) _ _ R4 hinf hold hone ?_)
      | (rw [HZ0.out])
      | (rw [HZ1.out])
      | (rw [HZ2.out])
      | (rw [HZ3.out])
      | fail)
    refine bodyPost_ret (v := .agg TT) (results_cell_row (fn := Try.f6) (p := 4) rfl _ _ (w.heap.size + 2) tCo _ _ _ rfl HFIN.out.1 Try.underlying30 rfl hinf) rfl ?_
    exact ⟨congrArg _ (congrArg _ HE.out), HFIN.out.2⟩
  · have S0 := HY.out
    obtain ⟨p0, q0⟩ : y3.cell? ⟨w.heap.size, 0, none⟩ = some (.int .i64 (f 0)) ∧ y3.frozen? ⟨w.heap.size, 0, none⟩ = false := by simpa [upd] using ta_cell S0.t 0 (by omega)
    obtain ⟨z0, HZ0⟩ : ∃ z, Hid (y3.setCell ⟨w.heap.size, 0, none⟩ (.int .i64 (f 0 + 1)) = z) := ⟨_, rfl⟩
    have S1 : CuM w #[.int .i64 lk, .int .i64 wh, .int .i64 am, .bool true, .bool false] (upd f 0 (f 0 + 1)) z0 := by rw [← HZ0.out]; exact S0.set 0 (by omega) _
    have d30 : z0.cell? ⟨w.heap.size + 1, 3, none⟩ = some (.bool true) := by have := S1.d; simp [World.cell?, this]
    have d40 : z0.cell? ⟨w.heap.size + 1, 4, none⟩ = some (.bool false) := by have := S1.d; simp [World.cell?, this]
    have m0 : -9223372036854775808 ≤ f 0 + 1 := by have := HF.out 0 (by omega); have := HM.out; omega
    have n0 : f 0 + 1 ≤ 9223372036854775807 := by have := HF.out 0 (by omega); have := HM.out; omega
    obtain ⟨p1, q1⟩ : z0.cell? ⟨w.heap.size, 2, none⟩ = some (.int .i64 (f 2)) ∧ z0.frozen? ⟨w.heap.size, 2, none⟩ = false := by simpa [upd] using ta_cell S1.t 2 (by omega)
    obtain ⟨z1, HZ1⟩ : ∃ z, Hid (z0.setCell ⟨w.heap.size, 2, none⟩ (.int .i64 (f 2 + 1)) = z) := ⟨_, rfl⟩
    have S2 : CuM w #[.int .i64 lk, .int .i64 wh, .int .i64 am, .bool true, .bool false] (upd (upd f 0 (f 0 + 1)) 2 (f 2 + 1)) z1 := by rw [← HZ1.out]; exact S1.set 2 (by omega) _
    have d31 : z1.cell? ⟨w.heap.size + 1, 3, none⟩ = some (.bool true) := by have := S2.d; simp [World.cell?, this]
    have d41 : z1.cell? ⟨w.heap.size + 1, 4, none⟩ = some (.bool false) := by have := S2.d; simp [World.cell?, this]
    have m1 : -9223372036854775808 ≤ f 2 + 1 := by have := HF.out 2 (by omega); have := HM.out; omega
    have n1 : f 2 + 1 ≤ 9223372036854775807 := by have := HF.out 2 (by omega); have := HM.out; omega
    have R2 := S2.r
    have T2 := S2.t
    have HE : Hid (ta (upd (upd f 0 (f 0 + 1)) 2 (f 2 + 1)) = ta (sumT f (br false false true false (M : Int)))) := ta_congr fun j hj => by rcases twelve hj with rfl | rfl | rfl | rfl | rfl | rfl | rfl | rfl | rfl | rfl | rfl | rfl <;> simp [sumT, br, mov, nmI, upd]
    have HFIN : Hid ((z1.setRow (w.heap.size + 2) (ta (upd (upd f 0 (f 0 + 1)) 2 (f 2 + 1)))).heap[w.heap.size + 2]? = some (.cells (ta (upd (upd f 0 (f 0 + 1)) 2 (f 2 + 1))) tCo (0, 0)) ∧ Below w.heap.size w (z1.setRow (w.heap.size + 2) (ta (upd (upd f 0 (f 0 + 1)) 2 (f 2 + 1))))) := ⟨setRow_at R2 _, below_setRow S2.bel (by omega) _⟩
    obtain ⟨TT, HTT⟩ : ∃ TT, Hid (ta (upd (upd f 0 (f 0 + 1)) 2 (f 2 + 1)) = TT) := ⟨_, rfl⟩
    rw [HTT.out] at T2
    have hsz : TT.size = 12 := by rw [← HTT.out]; rfl
    have hinf : (Try.prog.info? tCo).map (·.size) = some TT.size := by rw [hsz]; exact infoCo
    have hone : TT.all (·.oneCell') = true := by rw [← HTT.out]; simp [ta, Value.oneCell']
    have hold : (ta fun _ => 0).size = TT.size := by rw [hsz]; rfl
    clear S0 S1 S2 hsz
    rw [HTT.out] at HFIN HE
    go_wp2_with (first
      | (refine wpList_load_row rfl tCo _ rfl w.heap.size rfl _ _ _ _ T2 Try.underlying30 rfl hinf ?_; refine wpList_store_row rfl tCo _ _ rfl (w.heap.size + 2) TT (by rfl) (by rfl) _ _ R2 hinf hold hone ?_)
      | (rw [HZ0.out])
      | (rw [HZ1.out])
      | fail)
    refine bodyPost_ret (v := .agg TT) (results_cell_row (fn := Try.f6) (p := 4) rfl _ _ (w.heap.size + 2) tCo _ _ _ rfl HFIN.out.1 Try.underlying30 rfl hinf) rfl ?_
    exact ⟨congrArg _ (congrArg _ HE.out), HFIN.out.2⟩
  · have S0 := HY.out
    obtain ⟨p0, q0⟩ : y3.cell? ⟨w.heap.size, 0, none⟩ = some (.int .i64 (f 0)) ∧ y3.frozen? ⟨w.heap.size, 0, none⟩ = false := by simpa [upd] using ta_cell S0.t 0 (by omega)
    obtain ⟨z0, HZ0⟩ : ∃ z, Hid (y3.setCell ⟨w.heap.size, 0, none⟩ (.int .i64 (f 0 + 1)) = z) := ⟨_, rfl⟩
    have S1 : CuM w #[.int .i64 lk, .int .i64 wh, .int .i64 am, .bool true, .bool true] (upd f 0 (f 0 + 1)) z0 := by rw [← HZ0.out]; exact S0.set 0 (by omega) _
    have d30 : z0.cell? ⟨w.heap.size + 1, 3, none⟩ = some (.bool true) := by have := S1.d; simp [World.cell?, this]
    have d40 : z0.cell? ⟨w.heap.size + 1, 4, none⟩ = some (.bool true) := by have := S1.d; simp [World.cell?, this]
    have m0 : -9223372036854775808 ≤ f 0 + 1 := by have := HF.out 0 (by omega); have := HM.out; omega
    have n0 : f 0 + 1 ≤ 9223372036854775807 := by have := HF.out 0 (by omega); have := HM.out; omega
    obtain ⟨p1, q1⟩ : z0.cell? ⟨w.heap.size, 1, none⟩ = some (.int .i64 (f 1)) ∧ z0.frozen? ⟨w.heap.size, 1, none⟩ = false := by simpa [upd] using ta_cell S1.t 1 (by omega)
    obtain ⟨z1, HZ1⟩ : ∃ z, Hid (z0.setCell ⟨w.heap.size, 1, none⟩ (.int .i64 (f 1 + 1)) = z) := ⟨_, rfl⟩
    have S2 : CuM w #[.int .i64 lk, .int .i64 wh, .int .i64 am, .bool true, .bool true] (upd (upd f 0 (f 0 + 1)) 1 (f 1 + 1)) z1 := by rw [← HZ1.out]; exact S1.set 1 (by omega) _
    have d31 : z1.cell? ⟨w.heap.size + 1, 3, none⟩ = some (.bool true) := by have := S2.d; simp [World.cell?, this]
    have d41 : z1.cell? ⟨w.heap.size + 1, 4, none⟩ = some (.bool true) := by have := S2.d; simp [World.cell?, this]
    have m1 : -9223372036854775808 ≤ f 1 + 1 := by have := HF.out 1 (by omega); have := HM.out; omega
    have n1 : f 1 + 1 ≤ 9223372036854775807 := by have := HF.out 1 (by omega); have := HM.out; omega
    obtain ⟨p2, q2⟩ : z1.cell? ⟨w.heap.size, 4, none⟩ = some (.int .i64 (f 4)) ∧ z1.frozen? ⟨w.heap.size, 4, none⟩ = false := by simpa [upd] using ta_cell S2.t 4 (by omega)
    obtain ⟨z2, HZ2⟩ : ∃ z, Hid (z1.setCell ⟨w.heap.size, 4, none⟩ (.int .i64 (f 4 + 1)) = z) := ⟨_, rfl⟩
    have S3 : CuM w #[.int .i64 lk, .int .i64 wh, .int .i64 am, .bool true, .bool true] (upd (upd (upd f 0 (f 0 + 1)) 1 (f 1 + 1)) 4 (f 4 + 1)) z2 := by rw [← HZ2.out]; exact S2.set 4 (by omega) _
    have d32 : z2.cell? ⟨w.heap.size + 1, 3, none⟩ = some (.bool true) := by have := S3.d; simp [World.cell?, this]
    have d42 : z2.cell? ⟨w.heap.size + 1, 4, none⟩ = some (.bool true) := by have := S3.d; simp [World.cell?, this]
    have m2 : -9223372036854775808 ≤ f 4 + 1 := by have := HF.out 4 (by omega); have := HM.out; omega
    have n2 : f 4 + 1 ≤ 9223372036854775807 := by have := HF.out 4 (by omega); have := HM.out; omega
    obtain ⟨p3, q3⟩ : z2.cell? ⟨w.heap.size, 8, none⟩ = some (.int .i64 (f 8)) ∧ z2.frozen? ⟨w.heap.size, 8, none⟩ = false := by simpa [upd] using ta_cell S3.t 8 (by omega)
    obtain ⟨z3, HZ3⟩ : ∃ z, Hid (z2.setCell ⟨w.heap.size, 8, none⟩ (.int .i64 (f 8 + (M : Int))) = z) := ⟨_, rfl⟩
    have S4 : CuM w #[.int .i64 lk, .int .i64 wh, .int .i64 am, .bool true, .bool true] (upd (upd (upd (upd f 0 (f 0 + 1)) 1 (f 1 + 1)) 4 (f 4 + 1)) 8 (f 8 + (M : Int))) z3 := by rw [← HZ3.out]; exact S3.set 8 (by omega) _
    have d33 : z3.cell? ⟨w.heap.size + 1, 3, none⟩ = some (.bool true) := by have := S4.d; simp [World.cell?, this]
    have d43 : z3.cell? ⟨w.heap.size + 1, 4, none⟩ = some (.bool true) := by have := S4.d; simp [World.cell?, this]
    have m3 : -9223372036854775808 ≤ f 8 + (M : Int) := by have := HF.out 8 (by omega); have := HM.out; omega
    have n3 : f 8 + (M : Int) ≤ 9223372036854775807 := by have := HF.out 8 (by omega); have := HM.out; omega
    have R4 := S4.r
    have T4 := S4.t
    have HE : Hid (ta (upd (upd (upd (upd f 0 (f 0 + 1)) 1 (f 1 + 1)) 4 (f 4 + 1)) 8 (f 8 + (M : Int))) = ta (sumT f (br false false true true (M : Int)))) := ta_congr fun j hj => by rcases twelve hj with rfl | rfl | rfl | rfl | rfl | rfl | rfl | rfl | rfl | rfl | rfl | rfl <;> simp [sumT, br, mov, nmI, upd]
    have HFIN : Hid ((z3.setRow (w.heap.size + 2) (ta (upd (upd (upd (upd f 0 (f 0 + 1)) 1 (f 1 + 1)) 4 (f 4 + 1)) 8 (f 8 + (M : Int))))).heap[w.heap.size + 2]? = some (.cells (ta (upd (upd (upd (upd f 0 (f 0 + 1)) 1 (f 1 + 1)) 4 (f 4 + 1)) 8 (f 8 + (M : Int)))) tCo (0, 0)) ∧ Below w.heap.size w (z3.setRow (w.heap.size + 2) (ta (upd (upd (upd (upd f 0 (f 0 + 1)) 1 (f 1 + 1)) 4 (f 4 + 1)) 8 (f 8 + (M : Int)))))) := ⟨setRow_at R4 _, below_setRow S4.bel (by omega) _⟩
    obtain ⟨TT, HTT⟩ : ∃ TT, Hid (ta (upd (upd (upd (upd f 0 (f 0 + 1)) 1 (f 1 + 1)) 4 (f 4 + 1)) 8 (f 8 + (M : Int))) = TT) := ⟨_, rfl⟩
    rw [HTT.out] at T4
    have hsz : TT.size = 12 := by rw [← HTT.out]; rfl
    have hinf : (Try.prog.info? tCo).map (·.size) = some TT.size := by rw [hsz]; exact infoCo
    have hone : TT.all (·.oneCell') = true := by rw [← HTT.out]; simp [ta, Value.oneCell']
    have hold : (ta fun _ => 0).size = TT.size := by rw [hsz]; rfl
    clear S0 S1 S2 S3 S4 hsz
    rw [HTT.out] at HFIN HE
    go_wp2_with (first
      | (refine wpList_load_row rfl tCo _ rfl w.heap.size rfl _ _ _ _ T4 Try.underlying30 rfl hinf ?_; refine wpList_store_row rfl tCo _ _ rfl (w.heap.size + 2) TT (by rfl) (by rfl) _ _ R4 hinf hold hone ?_)
      | (rw [HZ0.out])
      | (rw [HZ1.out])
      | (rw [HZ2.out])
      | (rw [HZ3.out])
      | fail)
    refine bodyPost_ret (v := .agg TT) (results_cell_row (fn := Try.f6) (p := 4) rfl _ _ (w.heap.size + 2) tCo _ _ _ rfl HFIN.out.1 Try.underlying30 rfl hinf) rfl ?_
    exact ⟨congrArg _ (congrArg _ HE.out), HFIN.out.2⟩
  · have S0 := HY.out
    obtain ⟨p0, q0⟩ : y3.cell? ⟨w.heap.size, 0, none⟩ = some (.int .i64 (f 0)) ∧ y3.frozen? ⟨w.heap.size, 0, none⟩ = false := by simpa [upd] using ta_cell S0.t 0 (by omega)
    obtain ⟨z0, HZ0⟩ : ∃ z, Hid (y3.setCell ⟨w.heap.size, 0, none⟩ (.int .i64 (f 0 + 1)) = z) := ⟨_, rfl⟩
    have S1 : CuM w #[.int .i64 lk, .int .i64 wh, .int .i64 am, .bool false, .bool false] (upd f 0 (f 0 + 1)) z0 := by rw [← HZ0.out]; exact S0.set 0 (by omega) _
    have d30 : z0.cell? ⟨w.heap.size + 1, 3, none⟩ = some (.bool false) := by have := S1.d; simp [World.cell?, this]
    have d40 : z0.cell? ⟨w.heap.size + 1, 4, none⟩ = some (.bool false) := by have := S1.d; simp [World.cell?, this]
    have m0 : -9223372036854775808 ≤ f 0 + 1 := by have := HF.out 0 (by omega); have := HM.out; omega
    have n0 : f 0 + 1 ≤ 9223372036854775807 := by have := HF.out 0 (by omega); have := HM.out; omega
    obtain ⟨p1, q1⟩ : z0.cell? ⟨w.heap.size, 2, none⟩ = some (.int .i64 (f 2)) ∧ z0.frozen? ⟨w.heap.size, 2, none⟩ = false := by simpa [upd] using ta_cell S1.t 2 (by omega)
    obtain ⟨z1, HZ1⟩ : ∃ z, Hid (z0.setCell ⟨w.heap.size, 2, none⟩ (.int .i64 (f 2 + 1)) = z) := ⟨_, rfl⟩
    have S2 : CuM w #[.int .i64 lk, .int .i64 wh, .int .i64 am, .bool false, .bool false] (upd (upd f 0 (f 0 + 1)) 2 (f 2 + 1)) z1 := by rw [← HZ1.out]; exact S1.set 2 (by omega) _
    have d31 : z1.cell? ⟨w.heap.size + 1, 3, none⟩ = some (.bool false) := by have := S2.d; simp [World.cell?, this]
    have d41 : z1.cell? ⟨w.heap.size + 1, 4, none⟩ = some (.bool false) := by have := S2.d; simp [World.cell?, this]
    have m1 : -9223372036854775808 ≤ f 2 + 1 := by have := HF.out 2 (by omega); have := HM.out; omega
    have n1 : f 2 + 1 ≤ 9223372036854775807 := by have := HF.out 2 (by omega); have := HM.out; omega
    have R2 := S2.r
    have T2 := S2.t
    have HE : Hid (ta (upd (upd f 0 (f 0 + 1)) 2 (f 2 + 1)) = ta (sumT f (br false false false false (M : Int)))) := ta_congr fun j hj => by rcases twelve hj with rfl | rfl | rfl | rfl | rfl | rfl | rfl | rfl | rfl | rfl | rfl | rfl <;> simp [sumT, br, mov, nmI, upd]
    have HFIN : Hid ((z1.setRow (w.heap.size + 2) (ta (upd (upd f 0 (f 0 + 1)) 2 (f 2 + 1)))).heap[w.heap.size + 2]? = some (.cells (ta (upd (upd f 0 (f 0 + 1)) 2 (f 2 + 1))) tCo (0, 0)) ∧ Below w.heap.size w (z1.setRow (w.heap.size + 2) (ta (upd (upd f 0 (f 0 + 1)) 2 (f 2 + 1))))) := ⟨setRow_at R2 _, below_setRow S2.bel (by omega) _⟩
    obtain ⟨TT, HTT⟩ : ∃ TT, Hid (ta (upd (upd f 0 (f 0 + 1)) 2 (f 2 + 1)) = TT) := ⟨_, rfl⟩
    rw [HTT.out] at T2
    have hsz : TT.size = 12 := by rw [← HTT.out]; rfl
    have hinf : (Try.prog.info? tCo).map (·.size) = some TT.size := by rw [hsz]; exact infoCo
    have hone : TT.all (·.oneCell') = true := by rw [← HTT.out]; simp [ta, Value.oneCell']
    have hold : (ta fun _ => 0).size = TT.size := by rw [hsz]; rfl
    clear S0 S1 S2 hsz
    rw [HTT.out] at HFIN HE
    go_wp2_with (first
      | (refine wpList_load_row rfl tCo _ rfl w.heap.size rfl _ _ _ _ T2 Try.underlying30 rfl hinf ?_; refine wpList_store_row rfl tCo _ _ rfl (w.heap.size + 2) TT (by rfl) (by rfl) _ _ R2 hinf hold hone ?_)
      | (rw [HZ0.out])
      | (rw [HZ1.out])
      | fail)
    refine bodyPost_ret (v := .agg TT) (results_cell_row (fn := Try.f6) (p := 4) rfl _ _ (w.heap.size + 2) tCo _ _ _ rfl HFIN.out.1 Try.underlying30 rfl hinf) rfl ?_
    exact ⟨congrArg _ (congrArg _ HE.out), HFIN.out.2⟩
  · have S0 := HY.out
    obtain ⟨p0, q0⟩ : y3.cell? ⟨w.heap.size, 0, none⟩ = some (.int .i64 (f 0)) ∧ y3.frozen? ⟨w.heap.size, 0, none⟩ = false := by simpa [upd] using ta_cell S0.t 0 (by omega)
    obtain ⟨z0, HZ0⟩ : ∃ z, Hid (y3.setCell ⟨w.heap.size, 0, none⟩ (.int .i64 (f 0 + 1)) = z) := ⟨_, rfl⟩
    have S1 : CuM w #[.int .i64 lk, .int .i64 wh, .int .i64 am, .bool false, .bool true] (upd f 0 (f 0 + 1)) z0 := by rw [← HZ0.out]; exact S0.set 0 (by omega) _
    have d30 : z0.cell? ⟨w.heap.size + 1, 3, none⟩ = some (.bool false) := by have := S1.d; simp [World.cell?, this]
    have d40 : z0.cell? ⟨w.heap.size + 1, 4, none⟩ = some (.bool true) := by have := S1.d; simp [World.cell?, this]
    have m0 : -9223372036854775808 ≤ f 0 + 1 := by have := HF.out 0 (by omega); have := HM.out; omega
    have n0 : f 0 + 1 ≤ 9223372036854775807 := by have := HF.out 0 (by omega); have := HM.out; omega
    obtain ⟨p1, q1⟩ : z0.cell? ⟨w.heap.size, 1, none⟩ = some (.int .i64 (f 1)) ∧ z0.frozen? ⟨w.heap.size, 1, none⟩ = false := by simpa [upd] using ta_cell S1.t 1 (by omega)
    obtain ⟨z1, HZ1⟩ : ∃ z, Hid (z0.setCell ⟨w.heap.size, 1, none⟩ (.int .i64 (f 1 + 1)) = z) := ⟨_, rfl⟩
    have S2 : CuM w #[.int .i64 lk, .int .i64 wh, .int .i64 am, .bool false, .bool true] (upd (upd f 0 (f 0 + 1)) 1 (f 1 + 1)) z1 := by rw [← HZ1.out]; exact S1.set 1 (by omega) _
    have d31 : z1.cell? ⟨w.heap.size + 1, 3, none⟩ = some (.bool false) := by have := S2.d; simp [World.cell?, this]
    have d41 : z1.cell? ⟨w.heap.size + 1, 4, none⟩ = some (.bool true) := by have := S2.d; simp [World.cell?, this]
    have m1 : -9223372036854775808 ≤ f 1 + 1 := by have := HF.out 1 (by omega); have := HM.out; omega
    have n1 : f 1 + 1 ≤ 9223372036854775807 := by have := HF.out 1 (by omega); have := HM.out; omega
    obtain ⟨p2, q2⟩ : z1.cell? ⟨w.heap.size, 6, none⟩ = some (.int .i64 (f 6)) ∧ z1.frozen? ⟨w.heap.size, 6, none⟩ = false := by simpa [upd] using ta_cell S2.t 6 (by omega)
    obtain ⟨z2, HZ2⟩ : ∃ z, Hid (z1.setCell ⟨w.heap.size, 6, none⟩ (.int .i64 (f 6 + 1)) = z) := ⟨_, rfl⟩
    have S3 : CuM w #[.int .i64 lk, .int .i64 wh, .int .i64 am, .bool false, .bool true] (upd (upd (upd f 0 (f 0 + 1)) 1 (f 1 + 1)) 6 (f 6 + 1)) z2 := by rw [← HZ2.out]; exact S2.set 6 (by omega) _
    have d32 : z2.cell? ⟨w.heap.size + 1, 3, none⟩ = some (.bool false) := by have := S3.d; simp [World.cell?, this]
    have d42 : z2.cell? ⟨w.heap.size + 1, 4, none⟩ = some (.bool true) := by have := S3.d; simp [World.cell?, this]
    have m2 : -9223372036854775808 ≤ f 6 + 1 := by have := HF.out 6 (by omega); have := HM.out; omega
    have n2 : f 6 + 1 ≤ 9223372036854775807 := by have := HF.out 6 (by omega); have := HM.out; omega
    obtain ⟨p3, q3⟩ : z2.cell? ⟨w.heap.size, 10, none⟩ = some (.int .i64 (f 10)) ∧ z2.frozen? ⟨w.heap.size, 10, none⟩ = false := by simpa [upd] using ta_cell S3.t 10 (by omega)
    obtain ⟨z3, HZ3⟩ : ∃ z, Hid (z2.setCell ⟨w.heap.size, 10, none⟩ (.int .i64 (f 10 + (M : Int))) = z) := ⟨_, rfl⟩
    have S4 : CuM w #[.int .i64 lk, .int .i64 wh, .int .i64 am, .bool false, .bool true] (upd (upd (upd (upd f 0 (f 0 + 1)) 1 (f 1 + 1)) 6 (f 6 + 1)) 10 (f 10 + (M : Int))) z3 := by rw [← HZ3.out]; exact S3.set 10 (by omega) _
    have d33 : z3.cell? ⟨w.heap.size + 1, 3, none⟩ = some (.bool false) := by have := S4.d; simp [World.cell?, this]
    have d43 : z3.cell? ⟨w.heap.size + 1, 4, none⟩ = some (.bool true) := by have := S4.d; simp [World.cell?, this]
    have m3 : -9223372036854775808 ≤ f 10 + (M : Int) := by have := HF.out 10 (by omega); have := HM.out; omega
    have n3 : f 10 + (M : Int) ≤ 9223372036854775807 := by have := HF.out 10 (by omega); have := HM.out; omega
    have R4 := S4.r
    have T4 := S4.t
    have HE : Hid (ta (upd (upd (upd (upd f 0 (f 0 + 1)) 1 (f 1 + 1)) 6 (f 6 + 1)) 10 (f 10 + (M : Int))) = ta (sumT f (br false false false true (M : Int)))) := ta_congr fun j hj => by rcases twelve hj with rfl | rfl | rfl | rfl | rfl | rfl | rfl | rfl | rfl | rfl | rfl | rfl <;> simp [sumT, br, mov, nmI, upd]
    have HFIN : Hid ((z3.setRow (w.heap.size + 2) (ta (upd (upd (upd (upd f 0 (f 0 + 1)) 1 (f 1 + 1)) 6 (f 6 + 1)) 10 (f 10 + (M : Int))))).heap[w.heap.size + 2]? = some (.cells (ta (upd (upd (upd (upd f 0 (f 0 + 1)) 1 (f 1 + 1)) 6 (f 6 + 1)) 10 (f 10 + (M : Int)))) tCo (0, 0)) ∧ Below w.heap.size w (z3.setRow (w.heap.size + 2) (ta (upd (upd (upd (upd f 0 (f 0 + 1)) 1 (f 1 + 1)) 6 (f 6 + 1)) 10 (f 10 + (M : Int)))))) := ⟨setRow_at R4 _, below_setRow S4.bel (by omega) _⟩
    obtain ⟨TT, HTT⟩ : ∃ TT, Hid (ta (upd (upd (upd (upd f 0 (f 0 + 1)) 1 (f 1 + 1)) 6 (f 6 + 1)) 10 (f 10 + (M : Int))) = TT) := ⟨_, rfl⟩
    rw [HTT.out] at T4
    have hsz : TT.size = 12 := by rw [← HTT.out]; rfl
    have hinf : (Try.prog.info? tCo).map (·.size) = some TT.size := by rw [hsz]; exact infoCo
    have hone : TT.all (·.oneCell') = true := by rw [← HTT.out]; simp [ta, Value.oneCell']
    have hold : (ta fun _ => 0).size = TT.size := by rw [hsz]; rfl
    clear S0 S1 S2 S3 S4 hsz
    rw [HTT.out] at HFIN HE
    go_wp2_with (first
      | (refine wpList_load_row rfl tCo _ rfl w.heap.size rfl _ _ _ _ T4 Try.underlying30 rfl hinf ?_; refine wpList_store_row rfl tCo _ _ rfl (w.heap.size + 2) TT (by rfl) (by rfl) _ _ R4 hinf hold hone ?_)
      | (rw [HZ0.out])
      | (rw [HZ1.out])
      | (rw [HZ2.out])
      | (rw [HZ3.out])
      | fail)
    refine bodyPost_ret (v := .agg TT) (results_cell_row (fn := Try.f6) (p := 4) rfl _ _ (w.heap.size + 2) tCo _ _ _ rfl HFIN.out.1 Try.underlying30 rfl hinf) rfl ?_
    exact ⟨congrArg _ (congrArg _ HE.out), HFIN.out.2⟩
  · have S0 := HY.out
    obtain ⟨p0, q0⟩ : y3.cell? ⟨w.heap.size, 0, none⟩ = some (.int .i64 (f 0)) ∧ y3.frozen? ⟨w.heap.size, 0, none⟩ = false := by simpa [upd] using ta_cell S0.t 0 (by omega)
    obtain ⟨z0, HZ0⟩ : ∃ z, Hid (y3.setCell ⟨w.heap.size, 0, none⟩ (.int .i64 (f 0 + 1)) = z) := ⟨_, rfl⟩
    have S1 : CuM w #[.int .i64 lk, .int .i64 wh, .int .i64 am, .bool true, .bool false] (upd f 0 (f 0 + 1)) z0 := by rw [← HZ0.out]; exact S0.set 0 (by omega) _
    have d30 : z0.cell? ⟨w.heap.size + 1, 3, none⟩ = some (.bool true) := by have := S1.d; simp [World.cell?, this]
    have d40 : z0.cell? ⟨w.heap.size + 1, 4, none⟩ = some (.bool false) := by have := S1.d; simp [World.cell?, this]
    have m0 : -9223372036854775808 ≤ f 0 + 1 := by have := HF.out 0 (by omega); have := HM.out; omega
    have n0 : f 0 + 1 ≤ 9223372036854775807 := by have := HF.out 0 (by omega); have := HM.out; omega
    obtain ⟨p1, q1⟩ : z0.cell? ⟨w.heap.size, 2, none⟩ = some (.int .i64 (f 2)) ∧ z0.frozen? ⟨w.heap.size, 2, none⟩ = false := by simpa [upd] using ta_cell S1.t 2 (by omega)
    obtain ⟨z1, HZ1⟩ : ∃ z, Hid (z0.setCell ⟨w.heap.size, 2, none⟩ (.int .i64 (f 2 + 1)) = z) := ⟨_, rfl⟩
    have S2 : CuM w #[.int .i64 lk, .int .i64 wh, .int .i64 am, .bool true, .bool false] (upd (upd f 0 (f 0 + 1)) 2 (f 2 + 1)) z1 := by rw [← HZ1.out]; exact S1.set 2 (by omega) _
    have d31 : z1.cell? ⟨w.heap.size + 1, 3, none⟩ = some (.bool true) := by have := S2.d; simp [World.cell?, this]
    have d41 : z1.cell? ⟨w.heap.size + 1, 4, none⟩ = some (.bool false) := by have := S2.d; simp [World.cell?, this]
    have m1 : -9223372036854775808 ≤ f 2 + 1 := by have := HF.out 2 (by omega); have := HM.out; omega
    have n1 : f 2 + 1 ≤ 9223372036854775807 := by have := HF.out 2 (by omega); have := HM.out; omega
    have R2 := S2.r
    have T2 := S2.t
    have HE : Hid (ta (upd (upd f 0 (f 0 + 1)) 2 (f 2 + 1)) = ta (sumT f (br false false true false (M : Int)))) := ta_congr fun j hj => by rcases twelve hj with rfl | rfl | rfl | rfl | rfl | rfl | rfl | rfl | rfl | rfl | rfl | rfl <;> simp [sumT, br, mov, nmI, upd]
    have HFIN : Hid ((z1.setRow (w.heap.size + 2) (ta (upd (upd f 0 (f 0 + 1)) 2 (f 2 + 1)))).heap[w.heap.size + 2]? = some (.cells (ta (upd (upd f 0 (f 0 + 1)) 2 (f 2 + 1))) tCo (0, 0)) ∧ Below w.heap.size w (z1.setRow (w.heap.size + 2) (ta (upd (upd f 0 (f 0 + 1)) 2 (f 2 + 1))))) := ⟨setRow_at R2 _, below_setRow S2.bel (by omega) _⟩
    obtain ⟨TT, HTT⟩ : ∃ TT, Hid (ta (upd (upd f 0 (f 0 + 1)) 2 (f 2 + 1)) = TT) := ⟨_, rfl⟩
    rw [HTT.out] at T2
    have hsz : TT.size = 12 := by rw [← HTT.out]; rfl
    have hinf : (Try.prog.info? tCo).map (·.size) = some TT.size := by rw [hsz]; exact infoCo
    have hone : TT.all (·.oneCell') = true := by rw [← HTT.out]; simp [ta, Value.oneCell']
    have hold : (ta fun _ => 0).size = TT.size := by rw [hsz]; rfl
    clear S0 S1 S2 hsz
    rw [HTT.out] at HFIN HE
    go_wp2_with (first
      | (refine wpList_load_row rfl tCo _ rfl w.heap.size rfl _ _ _ _ T2 Try.underlying30 rfl hinf ?_; refine wpList_store_row rfl tCo _ _ rfl (w.heap.size + 2) TT (by rfl) (by rfl) _ _ R2 hinf hold hone ?_)
      | (rw [HZ0.out])
      | (rw [HZ1.out])
      | fail)
    refine bodyPost_ret (v := .agg TT) (results_cell_row (fn := Try.f6) (p := 4) rfl _ _ (w.heap.size + 2) tCo _ _ _ rfl HFIN.out.1 Try.underlying30 rfl hinf) rfl ?_
    exact ⟨congrArg _ (congrArg _ HE.out), HFIN.out.2⟩
  · have S0 := HY.out
    obtain ⟨p0, q0⟩ : y3.cell? ⟨w.heap.size, 0, none⟩ = some (.int .i64 (f 0)) ∧ y3.frozen? ⟨w.heap.size, 0, none⟩ = false := by simpa [upd] using ta_cell S0.t 0 (by omega)
    obtain ⟨z0, HZ0⟩ : ∃ z, Hid (y3.setCell ⟨w.heap.size, 0, none⟩ (.int .i64 (f 0 + 1)) = z) := ⟨_, rfl⟩
    have S1 : CuM w #[.int .i64 lk, .int .i64 wh, .int .i64 am, .bool true, .bool true] (upd f 0 (f 0 + 1)) z0 := by rw [← HZ0.out]; exact S0.set 0 (by omega) _
    have d30 : z0.cell? ⟨w.heap.size + 1, 3, none⟩ = some (.bool true) := by have := S1.d; simp [World.cell?, this]
    have d40 : z0.cell? ⟨w.heap.size + 1, 4, none⟩ = some (.bool true) := by have := S1.d; simp [World.cell?, this]
    have m0 : -9223372036854775808 ≤ f 0 + 1 := by have := HF.out 0 (by omega); have := HM.out; omega
    have n0 : f 0 + 1 ≤ 9223372036854775807 := by have := HF.out 0 (by omega); have := HM.out; omega
    obtain ⟨p1, q1⟩ : z0.cell? ⟨w.heap.size, 1, none⟩ = some (.int .i64 (f 1)) ∧ z0.frozen? ⟨w.heap.size, 1, none⟩ = false := by simpa [upd] using ta_cell S1.t 1 (by omega)
    obtain ⟨z1, HZ1⟩ : ∃ z, Hid (z0.setCell ⟨w.heap.size, 1, none⟩ (.int .i64 (f 1 + 1)) = z) := ⟨_, rfl⟩
    have S2 : CuM w #[.int .i64 lk, .int .i64 wh, .int .i64 am, .bool true, .bool true] (upd (upd f 0 (f 0 + 1)) 1 (f 1 + 1)) z1 := by rw [← HZ1.out]; exact S1.set 1 (by omega) _
    have d31 : z1.cell? ⟨w.heap.size + 1, 3, none⟩ = some (.bool true) := by have := S2.d; simp [World.cell?, this]
    have d41 : z1.cell? ⟨w.heap.size + 1, 4, none⟩ = some (.bool true) := by have := S2.d; simp [World.cell?, this]
    have m1 : -9223372036854775808 ≤ f 1 + 1 := by have := HF.out 1 (by omega); have := HM.out; omega
    have n1 : f 1 + 1 ≤ 9223372036854775807 := by have := HF.out 1 (by omega); have := HM.out; omega
    obtain ⟨p2, q2⟩ : z1.cell? ⟨w.heap.size, 4, none⟩ = some (.int .i64 (f 4)) ∧ z1.frozen? ⟨w.heap.size, 4, none⟩ = false := by simpa [upd] using ta_cell S2.t 4 (by omega)
    obtain ⟨z2, HZ2⟩ : ∃ z, Hid (z1.setCell ⟨w.heap.size, 4, none⟩ (.int .i64 (f 4 + 1)) = z) := ⟨_, rfl⟩
    have S3 : CuM w #[.int .i64 lk, .int .i64 wh, .int .i64 am, .bool true, .bool true] (upd (upd (upd f 0 (f 0 + 1)) 1 (f 1 + 1)) 4 (f 4 + 1)) z2 := by rw [← HZ2.out]; exact S2.set 4 (by omega) _
    have d32 : z2.cell? ⟨w.heap.size + 1, 3, none⟩ = some (.bool true) := by have := S3.d; simp [World.cell?, this]
    have d42 : z2.cell? ⟨w.heap.size + 1, 4, none⟩ = some (.bool true) := by have := S3.d; simp [World.cell?, this]
    have m2 : -9223372036854775808 ≤ f 4 + 1 := by have := HF.out 4 (by omega); have := HM.out; omega
    have n2 : f 4 + 1 ≤ 9223372036854775807 := by have := HF.out 4 (by omega); have := HM.out; omega
    obtain ⟨p3, q3⟩ : z2.cell? ⟨w.heap.size, 8, none⟩ = some (.int .i64 (f 8)) ∧ z2.frozen? ⟨w.heap.size, 8, none⟩ = false := by simpa [upd] using ta_cell S3.t 8 (by omega)
    obtain ⟨z3, HZ3⟩ : ∃ z, Hid (z2.setCell ⟨w.heap.size, 8, none⟩ (.int .i64 (f 8 + (M : Int))) = z) := ⟨_, rfl⟩
    have S4 : CuM w #[.int .i64 lk, .int .i64 wh, .int .i64 am, .bool true, .bool true] (upd (upd (upd (upd f 0 (f 0 + 1)) 1 (f 1 + 1)) 4 (f 4 + 1)) 8 (f 8 + (M : Int))) z3 := by rw [← HZ3.out]; exact S3.set 8 (by omega) _
    have d33 : z3.cell? ⟨w.heap.size + 1, 3, none⟩ = some (.bool true) := by have := S4.d; simp [World.cell?, this]
    have d43 : z3.cell? ⟨w.heap.size + 1, 4, none⟩ = some (.bool true) := by have := S4.d; simp [World.cell?, this]
    have m3 : -9223372036854775808 ≤ f 8 + (M : Int) := by have := HF.out 8 (by omega); have := HM.out; omega
    have n3 : f 8 + (M : Int) ≤ 9223372036854775807 := by have := HF.out 8 (by omega); have := HM.out; omega
    have R4 := S4.r
    have T4 := S4.t
    have HE : Hid (ta (upd (upd (upd (upd f 0 (f 0 + 1)) 1 (f 1 + 1)) 4 (f 4 + 1)) 8 (f 8 + (M : Int))) = ta (sumT f (br false false true true (M : Int)))) := ta_congr fun j hj => by rcases twelve hj with rfl | rfl | rfl | rfl | rfl | rfl | rfl | rfl | rfl | rfl | rfl | rfl <;> simp [sumT, br, mov, nmI, upd]
    have HFIN : Hid ((z3.setRow (w.heap.size + 2) (ta (upd (upd (upd (upd f 0 (f 0 + 1)) 1 (f 1 + 1)) 4 (f 4 + 1)) 8 (f 8 + (M : Int))))).heap[w.heap.size + 2]? = some (.cells (ta (upd (upd (upd (upd f 0 (f 0 + 1)) 1 (f 1 + 1)) 4 (f 4 + 1)) 8 (f 8 + (M : Int)))) tCo (0, 0)) ∧ Below w.heap.size w (z3.setRow (w.heap.size + 2) (ta (upd (upd (upd (upd f 0 (f 0 + 1)) 1 (f 1 + 1)) 4 (f 4 + 1)) 8 (f 8 + (M : Int)))))) := ⟨setRow_at R4 _, below_setRow S4.bel (by omega) _⟩
    obtain ⟨TT, HTT⟩ : ∃ TT, Hid (ta (upd (upd (upd (upd f 0 (f 0 + 1)) 1 (f 1 + 1)) 4 (f 4 + 1)) 8 (f 8 + (M : Int))) = TT) := ⟨_, rfl⟩
    rw [HTT.out] at T4
    have hsz : TT.size = 12 := by rw [← HTT.out]; rfl
    have hinf : (Try.prog.info? tCo).map (·.size) = some TT.size := by rw [hsz]; exact infoCo
    have hone : TT.all (·.oneCell') = true := by rw [← HTT.out]; simp [ta, Value.oneCell']
    have hold : (ta fun _ => 0).size = TT.size := by rw [hsz]; rfl
    clear S0 S1 S2 S3 S4 hsz
    rw [HTT.out] at HFIN HE
    go_wp2_with (first
      | (refine wpList_load_row rfl tCo _ rfl w.heap.size rfl _ _ _ _ T4 Try.underlying30 rfl hinf ?_; refine wpList_store_row rfl tCo _ _ rfl (w.heap.size + 2) TT (by rfl) (by rfl) _ _ R4 hinf hold hone ?_)
      | (rw [HZ0.out])
      | (rw [HZ1.out])
      | (rw [HZ2.out])
      | (rw [HZ3.out])
      | fail)
    refine bodyPost_ret (v := .agg TT) (results_cell_row (fn := Try.f6) (p := 4) rfl _ _ (w.heap.size + 2) tCo _ _ _ rfl HFIN.out.1 Try.underlying30 rfl hinf) rfl ?_
    exact ⟨congrArg _ (congrArg _ HE.out), HFIN.out.2⟩
  · have S0 := HY.out
    obtain ⟨p0, q0⟩ : y3.cell? ⟨w.heap.size, 3, none⟩ = some (.int .i64 (f 3)) ∧ y3.frozen? ⟨w.heap.size, 3, none⟩ = false := by simpa [upd] using ta_cell S0.t 3 (by omega)
    obtain ⟨z0, HZ0⟩ : ∃ z, Hid (y3.setCell ⟨w.heap.size, 3, none⟩ (.int .i64 (f 3 + 1)) = z) := ⟨_, rfl⟩
    have S1 : CuM w #[.int .i64 lk, .int .i64 wh, .int .i64 am, .bool false, .bool false] (upd f 3 (f 3 + 1)) z0 := by rw [← HZ0.out]; exact S0.set 3 (by omega) _
    have d30 : z0.cell? ⟨w.heap.size + 1, 3, none⟩ = some (.bool false) := by have := S1.d; simp [World.cell?, this]
    have d40 : z0.cell? ⟨w.heap.size + 1, 4, none⟩ = some (.bool false) := by have := S1.d; simp [World.cell?, this]
    have m0 : -9223372036854775808 ≤ f 3 + 1 := by have := HF.out 3 (by omega); have := HM.out; omega
    have n0 : f 3 + 1 ≤ 9223372036854775807 := by have := HF.out 3 (by omega); have := HM.out; omega
    have R1 := S1.r
    have T1 := S1.t
    have HE : Hid (ta (upd f 3 (f 3 + 1)) = ta (sumT f (br false true false false (M : Int)))) := ta_congr fun j hj => by rcases twelve hj with rfl | rfl | rfl | rfl | rfl | rfl | rfl | rfl | rfl | rfl | rfl | rfl <;> simp [sumT, br, mov, nmI, upd]
    have HFIN : Hid ((z0.setRow (w.heap.size + 2) (ta (upd f 3 (f 3 + 1)))).heap[w.heap.size + 2]? = some (.cells (ta (upd f 3 (f 3 + 1))) tCo (0, 0)) ∧ Below w.heap.size w (z0.setRow (w.heap.size + 2) (ta (upd f 3 (f 3 + 1))))) := ⟨setRow_at R1 _, below_setRow S1.bel (by omega) _⟩
    obtain ⟨TT, HTT⟩ : ∃ TT, Hid (ta (upd f 3 (f 3 + 1)) = TT) := ⟨_, rfl⟩
    rw [HTT.out] at T1
    have hsz : TT.size = 12 := by rw [← HTT.out]; rfl
    have hinf : (Try.prog.info? tCo).map (·.size) = some TT.size := by rw [hsz]; exact infoCo
    have hone : TT.all (·.oneCell') = true := by rw [← HTT.out]; simp [ta, Value.oneCell']
    have hold : (ta fun _ => 0).size = TT.size := by rw [hsz]; rfl
    clear S0 S1 hsz
    rw [HTT.out] at HFIN HE
    go_wp2_with (first
      | (refine wpList_load_row rfl tCo _ rfl w.heap.size rfl _ _ _ _ T1 Try.underlying30 rfl hinf ?_; refine wpList_store_row rfl tCo _ _ rfl (w.heap.size + 2) TT (by rfl) (by rfl) _ _ R1 hinf hold hone ?_)
      | (rw [HZ0.out])
      | fail)
    refine bodyPost_ret (v := .agg TT) (results_cell_row (fn := Try.f6) (p := 4) rfl _ _ (w.heap.size + 2) tCo _ _ _ rfl HFIN.out.1 Try.underlying30 rfl hinf) rfl ?_
    exact ⟨congrArg _ (congrArg _ HE.out), HFIN.out.2⟩
  · have S0 := HY.out
    obtain ⟨p0, q0⟩ : y3.cell? ⟨w.heap.size, 3, none⟩ = some (.int .i64 (f 3)) ∧ y3.frozen? ⟨w.heap.size, 3, none⟩ = false := by simpa [upd] using ta_cell S0.t 3 (by omega)
    obtain ⟨z0, HZ0⟩ : ∃ z, Hid (y3.setCell ⟨w.heap.size, 3, none⟩ (.int .i64 (f 3 + 1)) = z) := ⟨_, rfl⟩
    have S1 : CuM w #[.int .i64 lk, .int .i64 wh, .int .i64 am, .bool false, .bool true] (upd f 3 (f 3 + 1)) z0 := by rw [← HZ0.out]; exact S0.set 3 (by omega) _
    have d30 : z0.cell? ⟨w.heap.size + 1, 3, none⟩ = some (.bool false) := by have := S1.d; simp [World.cell?, this]
    have d40 : z0.cell? ⟨w.heap.size + 1, 4, none⟩ = some (.bool true) := by have := S1.d; simp [World.cell?, this]
    have m0 : -9223372036854775808 ≤ f 3 + 1 := by have := HF.out 3 (by omega); have := HM.out; omega
    have n0 : f 3 + 1 ≤ 9223372036854775807 := by have := HF.out 3 (by omega); have := HM.out; omega
    obtain ⟨p1, q1⟩ : z0.cell? ⟨w.heap.size, 6, none⟩ = some (.int .i64 (f 6)) ∧ z0.frozen? ⟨w.heap.size, 6, none⟩ = false := by simpa [upd] using ta_cell S1.t 6 (by omega)
    obtain ⟨z1, HZ1⟩ : ∃ z, Hid (z0.setCell ⟨w.heap.size, 6, none⟩ (.int .i64 (f 6 + 1)) = z) := ⟨_, rfl⟩
    have S2 : CuM w #[.int .i64 lk, .int .i64 wh, .int .i64 am, .bool false, .bool true] (upd (upd f 3 (f 3 + 1)) 6 (f 6 + 1)) z1 := by rw [← HZ1.out]; exact S1.set 6 (by omega) _
    have d31 : z1.cell? ⟨w.heap.size + 1, 3, none⟩ = some (.bool false) := by have := S2.d; simp [World.cell?, this]
    have d41 : z1.cell? ⟨w.heap.size + 1, 4, none⟩ = some (.bool true) := by have := S2.d; simp [World.cell?, this]
    have m1 : -9223372036854775808 ≤ f 6 + 1 := by have := HF.out 6 (by omega); have := HM.out; omega
    have n1 : f 6 + 1 ≤ 9223372036854775807 := by have := HF.out 6 (by omega); have := HM.out; omega
    obtain ⟨p2, q2⟩ : z1.cell? ⟨w.heap.size, 10, none⟩ = some (.int .i64 (f 10)) ∧ z1.frozen? ⟨w.heap.size, 10, none⟩ = false := by simpa [upd] using ta_cell S2.t 10 (by omega)
    obtain ⟨z2, HZ2⟩ : ∃ z, Hid (z1.setCell ⟨w.heap.size, 10, none⟩ (.int .i64 (f 10 + (M : Int))) = z) := ⟨_, rfl⟩
    have S3 : CuM w #[.int .i64 lk, .int .i64 wh, .int .i64 am, .bool false, .bool true] (upd (upd (upd f 3 (f 3 + 1)) 6 (f 6 + 1)) 10 (f 10 + (M : Int))) z2 := by rw [← HZ2.out]; exact S2.set 10 (by omega) _
    have d32 : z2.cell? ⟨w.heap.size + 1, 3, none⟩ = some (.bool false) := by have := S3.d; simp [World.cell?, this]
    have d42 : z2.cell? ⟨w.heap.size + 1, 4, none⟩ = some (.bool true) := by have := S3.d; simp [World.cell?, this]
    have m2 : -9223372036854775808 ≤ f 10 + (M : Int) := by have := HF.out 10 (by omega); have := HM.out; omega
    have n2 : f 10 + (M : Int) ≤ 9223372036854775807 := by have := HF.out 10 (by omega); have := HM.out; omega
    have R3 := S3.r
    have T3 := S3.t
    have HE : Hid (ta (upd (upd (upd f 3 (f 3 + 1)) 6 (f 6 + 1)) 10 (f 10 + (M : Int))) = ta (sumT f (br false true false true (M : Int)))) := ta_congr fun j hj => by rcases twelve hj with rfl | rfl | rfl | rfl | rfl | rfl | rfl | rfl | rfl | rfl | rfl | rfl <;> simp [sumT, br, mov, nmI, upd]
    have HFIN : Hid ((z2.setRow (w.heap.size + 2) (ta (upd (upd (upd f 3 (f 3 + 1)) 6 (f 6 + 1)) 10 (f 10 + (M : Int))))).heap[w.heap.size + 2]? = some (.cells (ta (upd (upd (upd f 3 (f 3 + 1)) 6 (f 6 + 1)) 10 (f 10 + (M : Int)))) tCo (0, 0)) ∧ Below w.heap.size w (z2.setRow (w.heap.size + 2) (ta (upd (upd (upd f 3 (f 3 + 1)) 6 (f 6 + 1)) 10 (f 10 + (M : Int)))))) := ⟨setRow_at R3 _, below_setRow S3.bel (by omega) _⟩
    obtain ⟨TT, HTT⟩ : ∃ TT, Hid (ta (upd (upd (upd f 3 (f 3 + 1)) 6 (f 6 + 1)) 10 (f 10 + (M : Int))) = TT) := ⟨_, rfl⟩
    rw [HTT.out] at T3
    have hsz : TT.size = 12 := by rw [← HTT.out]; rfl
    have hinf : (Try.prog.info? tCo).map (·.size) = some TT.size := by rw [hsz]; exact infoCo
    have hone : TT.all (·.oneCell') = true := by rw [← HTT.out]; simp [ta, Value.oneCell']
    have hold : (ta fun _ => 0).size = TT.size := by rw [hsz]; rfl
    clear S0 S1 S2 S3 hsz
    rw [HTT.out] at HFIN HE
    go_wp2_with (first
      | (refine wpList_load_row rfl tCo _ rfl w.heap.size rfl _ _ _ _ T3 Try.underlying30 rfl hinf ?_; refine wpList_store_row rfl tCo _ _ rfl (w.heap.size + 2) TT (by rfl) (by rfl) _ _ R3 hinf hold hone ?_)
      | (rw [HZ0.out])
      | (rw [HZ1.out])
      | (rw [HZ2.out])
      | fail)
    refine bodyPost_ret (v := .agg TT) (results_cell_row (fn := Try.f6) (p := 4) rfl _ _ (w.heap.size + 2) tCo _ _ _ rfl HFIN.out.1 Try.underlying30 rfl hinf) rfl ?_
    exact ⟨congrArg _ (congrArg _ HE.out), HFIN.out.2⟩
  · have S0 := HY.out
    obtain ⟨p0, q0⟩ : y3.cell? ⟨w.heap.size, 3, none⟩ = some (.int .i64 (f 3)) ∧ y3.frozen? ⟨w.heap.size, 3, none⟩ = false := by simpa [upd] using ta_cell S0.t 3 (by omega)
    obtain ⟨z0, HZ0⟩ : ∃ z, Hid (y3.setCell ⟨w.heap.size, 3, none⟩ (.int .i64 (f 3 + 1)) = z) := ⟨_, rfl⟩
    have S1 : CuM w #[.int .i64 lk, .int .i64 wh, .int .i64 am, .bool true, .bool false] (upd f 3 (f 3 + 1)) z0 := by rw [← HZ0.out]; exact S0.set 3 (by omega) _
    have d30 : z0.cell? ⟨w.heap.size + 1, 3, none⟩ = some (.bool true) := by have := S1.d; simp [World.cell?, this]
    have d40 : z0.cell? ⟨w.heap.size + 1, 4, none⟩ = some (.bool false) := by have := S1.d; simp [World.cell?, this]
    have m0 : -9223372036854775808 ≤ f 3 + 1 := by have := HF.out 3 (by omega); have := HM.out; omega
    have n0 : f 3 + 1 ≤ 9223372036854775807 := by have := HF.out 3 (by omega); have := HM.out; omega
    have R1 := S1.r
    have T1 := S1.t
    have HE : Hid (ta (upd f 3 (f 3 + 1)) = ta (sumT f (br false true true false (M : Int)))) := ta_congr fun j hj => by rcases twelve hj with rfl | rfl | rfl | rfl | rfl | rfl | rfl | rfl | rfl | rfl | rfl | rfl <;> simp [sumT, br, mov, nmI, upd]
    have HFIN : Hid ((z0.setRow (w.heap.size + 2) (ta (upd f 3 (f 3 + 1)))).heap[w.heap.size + 2]? = some (.cells (ta (upd f 3 (f 3 + 1))) tCo (0, 0)) ∧ Below w.heap.size w (z0.setRow (w.heap.size + 2) (ta (upd f 3 (f 3 + 1))))) := ⟨setRow_at R1 _, below_setRow S1.bel (by omega) _⟩
    obtain ⟨TT, HTT⟩ : ∃ TT, Hid (ta (upd f 3 (f 3 + 1)) = TT) := ⟨_, rfl⟩
    rw [HTT.out] at T1
    have hsz : TT.size = 12 := by rw [← HTT.out]; rfl
    have hinf : (Try.prog.info? tCo).map (·.size) = some TT.size := by rw [hsz]; exact infoCo
    have hone : TT.all (·.oneCell') = true := by rw [← HTT.out]; simp [ta, Value.oneCell']
    have hold : (ta fun _ => 0).size = TT.size := by rw [hsz]; rfl
    clear S0 S1 hsz
    rw [HTT.out] at HFIN HE
    go_wp2_with (first
      | (refine wpList_load_row rfl tCo _ rfl w.heap.size rfl _ _ _ _ T1 Try.underlying30 rfl hinf ?_; refine wpList_store_row rfl tCo _ _ rfl (w.heap.size + 2) TT (by rfl) (by rfl) _ _ R1 hinf hold hone ?_)
      | (rw [HZ0.out])
      | fail)
    refine bodyPost_ret (v := .agg TT) (results_cell_row (fn := Try.f6) (p := 4) rfl _ _ (w.heap.size + 2) tCo _ _ _ rfl HFIN.out.1 Try.underlying30 rfl hinf) rfl ?_
    exact ⟨congrArg _ (congrArg _ HE.out), HFIN.out.2⟩
  · have S0 := HY.out
    obtain ⟨p0, q0⟩ : y3.cell? ⟨w.heap.size, 3, none⟩ = some (.int .i64 (f 3)) ∧ y3.frozen? ⟨w.heap.size, 3, none⟩ = false := by simpa [upd] using ta_cell S0.t 3 (by omega)
    obtain ⟨z0, HZ0⟩ : ∃ z, Hid (y3.setCell ⟨w.heap.size, 3, none⟩ (.int .i64 (f 3 + 1)) = z) := ⟨_, rfl⟩
    have S1 : CuM w #[.int .i64 lk, .int .i64 wh, .int .i64 am, .bool true, .bool true] (upd f 3 (f 3 + 1)) z0 := by rw [← HZ0.out]; exact S0.set 3 (by omega) _
    have d30 : z0.cell? ⟨w.heap.size + 1, 3, none⟩ = some (.bool true) := by have := S1.d; simp [World.cell?, this]
    have d40 : z0.cell? ⟨w.heap.size + 1, 4, none⟩ = some (.bool true) := by have := S1.d; simp [World.cell?, this]
    have m0 : -9223372036854775808 ≤ f 3 + 1 := by have := HF.out 3 (by omega); have := HM.out; omega
    have n0 : f 3 + 1 ≤ 9223372036854775807 := by have := HF.out 3 (by omega); have := HM.out; omega
    obtain ⟨p1, q1⟩ : z0.cell? ⟨w.heap.size, 4, none⟩ = some (.int .i64 (f 4)) ∧ z0.frozen? ⟨w.heap.size, 4, none⟩ = false := by simpa [upd] using ta_cell S1.t 4 (by omega)
    obtain ⟨z1, HZ1⟩ : ∃ z, Hid (z0.setCell ⟨w.heap.size, 4, none⟩ (.int .i64 (f 4 + 1)) = z) := ⟨_, rfl⟩
    have S2 : CuM w #[.int .i64 lk, .int .i64 wh, .int .i64 am, .bool true, .bool true] (upd (upd f 3 (f 3 + 1)) 4 (f 4 + 1)) z1 := by rw [← HZ1.out]; exact S1.set 4 (by omega) _
    have d31 : z1.cell? ⟨w.heap.size + 1, 3, none⟩ = some (.bool true) := by have := S2.d; simp [World.cell?, this]
    have d41 : z1.cell? ⟨w.heap.size + 1, 4, none⟩ = some (.bool true) := by have := S2.d; simp [World.cell?, this]
    have m1 : -9223372036854775808 ≤ f 4 + 1 := by have := HF.out 4 (by omega); have := HM.out; omega
    have n1 : f 4 + 1 ≤ 9223372036854775807 := by have := HF.out 4 (by omega); have := HM.out; omega
    obtain ⟨p2, q2⟩ : z1.cell? ⟨w.heap.size, 8, none⟩ = some (.int .i64 (f 8)) ∧ z1.frozen? ⟨w.heap.size, 8, none⟩ = false := by simpa [upd] using ta_cell S2.t 8 (by omega)
    obtain ⟨z2, HZ2⟩ : ∃ z, Hid (z1.setCell ⟨w.heap.size, 8, none⟩ (.int .i64 (f 8 + (M : Int))) = z) := ⟨_, rfl⟩
    have S3 : CuM w #[.int .i64 lk, .int .i64 wh, .int .i64 am, .bool true, .bool true] (upd (upd (upd f 3 (f 3 + 1)) 4 (f 4 + 1)) 8 (f 8 + (M : Int))) z2 := by rw [← HZ2.out]; exact S2.set 8 (by omega) _
    have d32 : z2.cell? ⟨w.heap.size + 1, 3, none⟩ = some (.bool true) := by have := S3.d; simp [World.cell?, this]
    have d42 : z2.cell? ⟨w.heap.size + 1, 4, none⟩ = some (.bool true) := by have := S3.d; simp [World.cell?, this]
    have m2 : -9223372036854775808 ≤ f 8 + (M : Int) := by have := HF.out 8 (by omega); have := HM.out; omega
    have n2 : f 8 + (M : Int) ≤ 9223372036854775807 := by have := HF.out 8 (by omega); have := HM.out; omega
    have R3 := S3.r
    have T3 := S3.t
    have HE : Hid (ta (upd (upd (upd f 3 (f 3 + 1)) 4 (f 4 + 1)) 8 (f 8 + (M : Int))) = ta (sumT f (br false true true true (M : Int)))) := ta_congr fun j hj => by rcases twelve hj with rfl | rfl | rfl | rfl | rfl | rfl | rfl | rfl | rfl | rfl | rfl | rfl <;> simp [sumT, br, mov, nmI, upd]
    have HFIN : Hid ((z2.setRow (w.heap.size + 2) (ta (upd (upd (upd f 3 (f 3 + 1)) 4 (f 4 + 1)) 8 (f 8 + (M : Int))))).heap[w.heap.size + 2]? = some (.cells (ta (upd (upd (upd f 3 (f 3 + 1)) 4 (f 4 + 1)) 8 (f 8 + (M : Int)))) tCo (0, 0)) ∧ Below w.heap.size w (z2.setRow (w.heap.size + 2) (ta (upd (upd (upd f 3 (f 3 + 1)) 4 (f 4 + 1)) 8 (f 8 + (M : Int)))))) := ⟨setRow_at R3 _, below_setRow S3.bel (by omega) _⟩
    obtain ⟨TT, HTT⟩ : ∃ TT, Hid (ta (upd (upd (upd f 3 (f 3 + 1)) 4 (f 4 + 1)) 8 (f 8 + (M : Int))) = TT) := ⟨_, rfl⟩
    rw [HTT.out] at T3
    have hsz : TT.size = 12 := by rw [← HTT.out]; rfl
    have hinf : (Try.prog.info? tCo).map (·.size) = some TT.size := by rw [hsz]; exact infoCo
    have hone : TT.all (·.oneCell') = true := by rw [← HTT.out]; simp [ta, Value.oneCell']
    have hold : (ta fun _ => 0).size = TT.size := by rw [hsz]; rfl
    clear S0 S1 S2 S3 hsz
    rw [HTT.out] at HFIN HE
    go_wp2_with (first
      | (refine wpList_load_row rfl tCo _ rfl w.heap.size rfl _ _ _ _ T3 Try.underlying30 rfl hinf ?_; refine wpList_store_row rfl tCo _ _ rfl (w.heap.size + 2) TT (by rfl) (by rfl) _ _ R3 hinf hold hone ?_)
      | (rw [HZ0.out])
      | (rw [HZ1.out])
      | (rw [HZ2.out])
      | fail)
    refine bodyPost_ret (v := .agg TT) (results_cell_row (fn := Try.f6) (p := 4) rfl _ _ (w.heap.size + 2) tCo _ _ _ rfl HFIN.out.1 Try.underlying30 rfl hinf) rfl ?_
    exact ⟨congrArg _ (congrArg _ HE.out), HFIN.out.2⟩
  · have S0 := HY.out
    have R0 := S0.r
    have T0 := S0.t
    have HE : Hid (ta f = ta (sumT f (br true true false false (M : Int)))) := ta_congr fun j hj => by rcases twelve hj with rfl | rfl | rfl | rfl | rfl | rfl | rfl | rfl | rfl | rfl | rfl | rfl <;> simp [sumT, br, mov, nmI, upd]
    have HFIN : Hid ((y3.setRow (w.heap.size + 2) (ta f)).heap[w.heap.size + 2]? = some (.cells (ta f) tCo (0, 0)) ∧ Below w.heap.size w (y3.setRow (w.heap.size + 2) (ta f))) := ⟨setRow_at R0 _, below_setRow S0.bel (by omega) _⟩
    obtain ⟨TT, HTT⟩ : ∃ TT, Hid (ta f = TT) := ⟨_, rfl⟩
    rw [HTT.out] at T0
    have hsz : TT.size = 12 := by rw [← HTT.out]; rfl
    have hinf : (Try.prog.info? tCo).map (·.size) = some TT.size := by rw [hsz]; exact infoCo
    have hone : TT.all (·.oneCell') = true := by rw [← HTT.out]; simp [ta, Value.oneCell']
    have hold : (ta fun _ => 0).size = TT.size := by rw [hsz]; rfl
    clear S0 hsz
    rw [HTT.out] at HFIN HE
    go_wp2_with (first
      | (refine wpList_load_row rfl tCo _ rfl w.heap.size rfl _ _ _ _ T0 Try.underlying30 rfl hinf ?_; refine wpList_store_row rfl tCo _ _ rfl (w.heap.size + 2) TT (by rfl) (by rfl) _ _ R0 hinf hold hone ?_)
      | fail)
    refine bodyPost_ret (v := .agg TT) (results_cell_row (fn := Try.f6) (p := 4) rfl _ _ (w.heap.size + 2) tCo _ _ _ rfl HFIN.out.1 Try.underlying30 rfl hinf) rfl ?_
    exact ⟨congrArg _ (congrArg _ HE.out), HFIN.out.2⟩
  · have S0 := HY.out
    obtain ⟨p0, q0⟩ : y3.cell? ⟨w.heap.size, 7, none⟩ = some (.int .i64 (f 7)) ∧ y3.frozen? ⟨w.heap.size, 7, none⟩ = false := by simpa [upd] using ta_cell S0.t 7 (by omega)
    obtain ⟨z0, HZ0⟩ : ∃ z, Hid (y3.setCell ⟨w.heap.size, 7, none⟩ (.int .i64 (f 7 + 1)) = z) := ⟨_, rfl⟩
    have S1 : CuM w #[.int .i64 lk, .int .i64 wh, .int .i64 am, .bool false, .bool true] (upd f 7 (f 7 + 1)) z0 := by rw [← HZ0.out]; exact S0.set 7 (by omega) _
    have d30 : z0.cell? ⟨w.heap.size + 1, 3, none⟩ = some (.bool false) := by have := S1.d; simp [World.cell?, this]
    have d40 : z0.cell? ⟨w.heap.size + 1, 4, none⟩ = some (.bool true) := by have := S1.d; simp [World.cell?, this]
    have m0 : -9223372036854775808 ≤ f 7 + 1 := by have := HF.out 7 (by omega); have := HM.out; omega
    have n0 : f 7 + 1 ≤ 9223372036854775807 := by have := HF.out 7 (by omega); have := HM.out; omega
    obtain ⟨p1, q1⟩ : z0.cell? ⟨w.heap.size, 11, none⟩ = some (.int .i64 (f 11)) ∧ z0.frozen? ⟨w.heap.size, 11, none⟩ = false := by simpa [upd] using ta_cell S1.t 11 (by omega)
    obtain ⟨z1, HZ1⟩ : ∃ z, Hid (z0.setCell ⟨w.heap.size, 11, none⟩ (.int .i64 (f 11 + (M : Int))) = z) := ⟨_, rfl⟩
    have S2 : CuM w #[.int .i64 lk, .int .i64 wh, .int .i64 am, .bool false, .bool true] (upd (upd f 7 (f 7 + 1)) 11 (f 11 + (M : Int))) z1 := by rw [← HZ1.out]; exact S1.set 11 (by omega) _
    have d31 : z1.cell? ⟨w.heap.size + 1, 3, none⟩ = some (.bool false) := by have := S2.d; simp [World.cell?, this]
    have d41 : z1.cell? ⟨w.heap.size + 1, 4, none⟩ = some (.bool true) := by have := S2.d; simp [World.cell?, this]
    have m1 : -9223372036854775808 ≤ f 11 + (M : Int) := by have := HF.out 11 (by omega); have := HM.out; omega
    have n1 : f 11 + (M : Int) ≤ 9223372036854775807 := by have := HF.out 11 (by omega); have := HM.out; omega
    have R2 := S2.r
    have T2 := S2.t
    have HE : Hid (ta (upd (upd f 7 (f 7 + 1)) 11 (f 11 + (M : Int))) = ta (sumT f (br true true false true (M : Int)))) := ta_congr fun j hj => by rcases twelve hj with rfl | rfl | rfl | rfl | rfl | rfl | rfl | rfl | rfl | rfl | rfl | rfl <;> simp [sumT, br, mov, nmI, upd]
    have HFIN : Hid ((z1.setRow (w.heap.size + 2) (ta (upd (upd f 7 (f 7 + 1)) 11 (f 11 + (M : Int))))).heap[w.heap.size + 2]? = some (.cells (ta (upd (upd f 7 (f 7 + 1)) 11 (f 11 + (M : Int)))) tCo (0, 0)) ∧ Below w.heap.size w (z1.setRow (w.heap.size + 2) (ta (upd (upd f 7 (f 7 + 1)) 11 (f 11 + (M : Int)))))) := ⟨setRow_at R2 _, below_setRow S2.bel (by omega) _⟩
    obtain ⟨TT, HTT⟩ : ∃ TT, Hid (ta (upd (upd f 7 (f 7 + 1)) 11 (f 11 + (M : Int))) = TT) := ⟨_, rfl⟩
    rw [HTT.out] at T2
    have hsz : TT.size = 12 := by rw [← HTT.out]; rfl
    have hinf : (Try.prog.info? tCo).map (·.size) = some TT.size := by rw [hsz]; exact infoCo
    have hone : TT.all (·.oneCell') = true := by rw [← HTT.out]; simp [ta, Value.oneCell']
    have hold : (ta fun _ => 0).size = TT.size := by rw [hsz]; rfl
    clear S0 S1 S2 hsz
    rw [HTT.out] at HFIN HE
    go_wp2_with (first
      | (refine wpList_load_row rfl tCo _ rfl w.heap.size rfl _ _ _ _ T2 Try.underlying30 rfl hinf ?_; refine wpList_store_row rfl tCo _ _ rfl (w.heap.size + 2) TT (by rfl) (by rfl) _ _ R2 hinf hold hone ?_)
      | (rw [HZ0.out])
      | (rw [HZ1.out])
      | fail)
    refine bodyPost_ret (v := .agg TT) (results_cell_row (fn := Try.f6) (p := 4) rfl _ _ (w.heap.size + 2) tCo _ _ _ rfl HFIN.out.1 Try.underlying30 rfl hinf) rfl ?_
    exact ⟨congrArg _ (congrArg _ HE.out), HFIN.out.2⟩
  · have S0 := HY.out
    have R0 := S0.r
    have T0 := S0.t
    have HE : Hid (ta f = ta (sumT f (br true true true false (M : Int)))) := ta_congr fun j hj => by rcases twelve hj with rfl | rfl | rfl | rfl | rfl | rfl | rfl | rfl | rfl | rfl | rfl | rfl <;> simp [sumT, br, mov, nmI, upd]
    have HFIN : Hid ((y3.setRow (w.heap.size + 2) (ta f)).heap[w.heap.size + 2]? = some (.cells (ta f) tCo (0, 0)) ∧ Below w.heap.size w (y3.setRow (w.heap.size + 2) (ta f))) := ⟨setRow_at R0 _, below_setRow S0.bel (by omega) _⟩
    obtain ⟨TT, HTT⟩ : ∃ TT, Hid (ta f = TT) := ⟨_, rfl⟩
    rw [HTT.out] at T0
    have hsz : TT.size = 12 := by rw [← HTT.out]; rfl
    have hinf : (Try.prog.info? tCo).map (·.size) = some TT.size := by rw [hsz]; exact infoCo
    have hone : TT.all (·.oneCell') = true := by rw [← HTT.out]; simp [ta, Value.oneCell']
    have hold : (ta fun _ => 0).size = TT.size := by rw [hsz]; rfl
    clear S0 hsz
    rw [HTT.out] at HFIN HE
    go_wp2_with (first
      | (refine wpList_load_row rfl tCo _ rfl w.heap.size rfl _ _ _ _ T0 Try.underlying30 rfl hinf ?_; refine wpList_store_row rfl tCo _ _ rfl (w.heap.size + 2) TT (by rfl) (by rfl) _ _ R0 hinf hold hone ?_)
      | fail)
    refine bodyPost_ret (v := .agg TT) (results_cell_row (fn := Try.f6) (p := 4) rfl _ _ (w.heap.size + 2) tCo _ _ _ rfl HFIN.out.1 Try.underlying30 rfl hinf) rfl ?_
    exact ⟨congrArg _ (congrArg _ HE.out), HFIN.out.2⟩
  · have S0 := HY.out
    obtain ⟨p0, q0⟩ : y3.cell? ⟨w.heap.size, 5, none⟩ = some (.int .i64 (f 5)) ∧ y3.frozen? ⟨w.heap.size, 5, none⟩ = false := by simpa [upd] using ta_cell S0.t 5 (by omega)
    obtain ⟨z0, HZ0⟩ : ∃ z, Hid (y3.setCell ⟨w.heap.size, 5, none⟩ (.int .i64 (f 5 + 1)) = z) := ⟨_, rfl⟩
    have S1 : CuM w #[.int .i64 lk, .int .i64 wh, .int .i64 am, .bool true, .bool true] (upd f 5 (f 5 + 1)) z0 := by rw [← HZ0.out]; exact S0.set 5 (by omega) _
    have d30 : z0.cell? ⟨w.heap.size + 1, 3, none⟩ = some (.bool true) := by have := S1.d; simp [World.cell?, this]
    have d40 : z0.cell? ⟨w.heap.size + 1, 4, none⟩ = some (.bool true) := by have := S1.d; simp [World.cell?, this]
    have m0 : -9223372036854775808 ≤ f 5 + 1 := by have := HF.out 5 (by omega); have := HM.out; omega
    have n0 : f 5 + 1 ≤ 9223372036854775807 := by have := HF.out 5 (by omega); have := HM.out; omega
    obtain ⟨p1, q1⟩ : z0.cell? ⟨w.heap.size, 9, none⟩ = some (.int .i64 (f 9)) ∧ z0.frozen? ⟨w.heap.size, 9, none⟩ = false := by simpa [upd] using ta_cell S1.t 9 (by omega)
    obtain ⟨z1, HZ1⟩ : ∃ z, Hid (z0.setCell ⟨w.heap.size, 9, none⟩ (.int .i64 (f 9 + (M : Int))) = z) := ⟨_, rfl⟩
    have S2 : CuM w #[.int .i64 lk, .int .i64 wh, .int .i64 am, .bool true, .bool true] (upd (upd f 5 (f 5 + 1)) 9 (f 9 + (M : Int))) z1 := by rw [← HZ1.out]; exact S1.set 9 (by omega) _
    have d31 : z1.cell? ⟨w.heap.size + 1, 3, none⟩ = some (.bool true) := by have := S2.d; simp [World.cell?, this]
    have d41 : z1.cell? ⟨w.heap.size + 1, 4, none⟩ = some (.bool true) := by have := S2.d; simp [World.cell?, this]
    have m1 : -9223372036854775808 ≤ f 9 + (M : Int) := by have := HF.out 9 (by omega); have := HM.out; omega
    have n1 : f 9 + (M : Int) ≤ 9223372036854775807 := by have := HF.out 9 (by omega); have := HM.out; omega
    have R2 := S2.r
    have T2 := S2.t
    have HE : Hid (ta (upd (upd f 5 (f 5 + 1)) 9 (f 9 + (M : Int))) = ta (sumT f (br true true true true (M : Int)))) := ta_congr fun j hj => by rcases twelve hj with rfl | rfl | rfl | rfl | rfl | rfl | rfl | rfl | rfl | rfl | rfl | rfl <;> simp [sumT, br, mov, nmI, upd]
    have HFIN : Hid ((z1.setRow (w.heap.size + 2) (ta (upd (upd f 5 (f 5 + 1)) 9 (f 9 + (M : Int))))).heap[w.heap.size + 2]? = some (.cells (ta (upd (upd f 5 (f 5 + 1)) 9 (f 9 + (M : Int)))) tCo (0, 0)) ∧ Below w.heap.size w (z1.setRow (w.heap.size + 2) (ta (upd (upd f 5 (f 5 + 1)) 9 (f 9 + (M : Int)))))) := ⟨setRow_at R2 _, below_setRow S2.bel (by omega) _⟩
    obtain ⟨TT, HTT⟩ : ∃ TT, Hid (ta (upd (upd f 5 (f 5 + 1)) 9 (f 9 + (M : Int))) = TT) := ⟨_, rfl⟩
    rw [HTT.out] at T2
    have hsz : TT.size = 12 := by rw [← HTT.out]; rfl
    have hinf : (Try.prog.info? tCo).map (·.size) = some TT.size := by rw [hsz]; exact infoCo
    have hone : TT.all (·.oneCell') = true := by rw [← HTT.out]; simp [ta, Value.oneCell']
    have hold : (ta fun _ => 0).size = TT.size := by rw [hsz]; rfl
    clear S0 S1 S2 hsz
    rw [HTT.out] at HFIN HE
    go_wp2_with (first
      | (refine wpList_load_row rfl tCo _ rfl w.heap.size rfl _ _ _ _ T2 Try.underlying30 rfl hinf ?_; refine wpList_store_row rfl tCo _ _ rfl (w.heap.size + 2) TT (by rfl) (by rfl) _ _ R2 hinf hold hone ?_)
      | (rw [HZ0.out])
      | (rw [HZ1.out])
      | fail)
    refine bodyPost_ret (v := .agg TT) (results_cell_row (fn := Try.f6) (p := 4) rfl _ _ (w.heap.size + 2) tCo _ _ _ rfl HFIN.out.1 Try.underlying30 rfl hinf) rfl ?_
    exact ⟨congrArg _ (congrArg _ HE.out), HFIN.out.2⟩
  · have S0 := HY.out
    have R0 := S0.r
    have T0 := S0.t
    have HE : Hid (ta f = ta (sumT f (br true true false false (M : Int)))) := ta_congr fun j hj => by rcases twelve hj with rfl | rfl | rfl | rfl | rfl | rfl | rfl | rfl | rfl | rfl | rfl | rfl <;> simp [sumT, br, mov, nmI, upd]
    have HFIN : Hid ((y3.setRow (w.heap.size + 2) (ta f)).heap[w.heap.size + 2]? = some (.cells (ta f) tCo (0, 0)) ∧ Below w.heap.size w (y3.setRow (w.heap.size + 2) (ta f))) := ⟨setRow_at R0 _, below_setRow S0.bel (by omega) _⟩
    obtain ⟨TT, HTT⟩ : ∃ TT, Hid (ta f = TT) := ⟨_, rfl⟩
    rw [HTT.out] at T0
    have hsz : TT.size = 12 := by rw [← HTT.out]; rfl
    have hinf : (Try.prog.info? tCo).map (·.size) = some TT.size := by rw [hsz]; exact infoCo
    have hone : TT.all (·.oneCell') = true := by rw [← HTT.out]; simp [ta, Value.oneCell']
    have hold : (ta fun _ => 0).size = TT.size := by rw [hsz]; rfl
    clear S0 hsz
    rw [HTT.out] at HFIN HE
    go_wp2_with (first
      | (refine wpList_load_row rfl tCo _ rfl w.heap.size rfl _ _ _ _ T0 Try.underlying30 rfl hinf ?_; refine wpList_store_row rfl tCo _ _ rfl (w.heap.size + 2) TT (by rfl) (by rfl) _ _ R0 hinf hold hone ?_)
      | fail)
    refine bodyPost_ret (v := .agg TT) (results_cell_row (fn := Try.f6) (p := 4) rfl _ _ (w.heap.size + 2) tCo _ _ _ rfl HFIN.out.1 Try.underlying30 rfl hinf) rfl ?_
    exact ⟨congrArg _ (congrArg _ HE.out), HFIN.out.2⟩
  · have S0 := HY.out
    obtain ⟨p0, q0⟩ : y3.cell? ⟨w.heap.size, 7, none⟩ = some (.int .i64 (f 7)) ∧ y3.frozen? ⟨w.heap.size, 7, none⟩ = false := by simpa [upd] using ta_cell S0.t 7 (by omega)
    obtain ⟨z0, HZ0⟩ : ∃ z, Hid (y3.setCell ⟨w.heap.size, 7, none⟩ (.int .i64 (f 7 + 1)) = z) := ⟨_, rfl⟩
    have S1 : CuM w #[.int .i64 lk, .int .i64 wh, .int .i64 am, .bool false, .bool true] (upd f 7 (f 7 + 1)) z0 := by rw [← HZ0.out]; exact S0.set 7 (by omega) _
    have d30 : z0.cell? ⟨w.heap.size + 1, 3, none⟩ = some (.bool false) := by have := S1.d; simp [World.cell?, this]
    have d40 : z0.cell? ⟨w.heap.size + 1, 4, none⟩ = some (.bool true) := by have := S1.d; simp [World.cell?, this]
    have m0 : -9223372036854775808 ≤ f 7 + 1 := by have := HF.out 7 (by omega); have := HM.out; omega
    have n0 : f 7 + 1 ≤ 9223372036854775807 := by have := HF.out 7 (by omega); have := HM.out; omega
    obtain ⟨p1, q1⟩ : z0.cell? ⟨w.heap.size, 11, none⟩ = some (.int .i64 (f 11)) ∧ z0.frozen? ⟨w.heap.size, 11, none⟩ = false := by simpa [upd] using ta_cell S1.t 11 (by omega)
    obtain ⟨z1, HZ1⟩ : ∃ z, Hid (z0.setCell ⟨w.heap.size, 11, none⟩ (.int .i64 (f 11 + (M : Int))) = z) := ⟨_, rfl⟩
    have S2 : CuM w #[.int .i64 lk, .int .i64 wh, .int .i64 am, .bool false, .bool true] (upd (upd f 7 (f 7 + 1)) 11 (f 11 + (M : Int))) z1 := by rw [← HZ1.out]; exact S1.set 11 (by omega) _
    have d31 : z1.cell? ⟨w.heap.size + 1, 3, none⟩ = some (.bool false) := by have := S2.d; simp [World.cell?, this]
    have d41 : z1.cell? ⟨w.heap.size + 1, 4, none⟩ = some (.bool true) := by have := S2.d; simp [World.cell?, this]
    have m1 : -9223372036854775808 ≤ f 11 + (M : Int) := by have := HF.out 11 (by omega); have := HM.out; omega
    have n1 : f 11 + (M : Int) ≤ 9223372036854775807 := by have := HF.out 11 (by omega); have := HM.out; omega
    have R2 := S2.r
    have T2 := S2.t
    have HE : Hid (ta (upd (upd f 7 (f 7 + 1)) 11 (f 11 + (M : Int))) = ta (sumT f (br true true false true (M : Int)))) := ta_congr fun j hj => by rcases twelve hj with rfl | rfl | rfl | rfl | rfl | rfl | rfl | rfl | rfl | rfl | rfl | rfl <;> simp [sumT, br, mov, nmI, upd]
    have HFIN : Hid ((z1.setRow (w.heap.size + 2) (ta (upd (upd f 7 (f 7 + 1)) 11 (f 11 + (M : Int))))).heap[w.heap.size + 2]? = some (.cells (ta (upd (upd f 7 (f 7 + 1)) 11 (f 11 + (M : Int)))) tCo (0, 0)) ∧ Below w.heap.size w (z1.setRow (w.heap.size + 2) (ta (upd (upd f 7 (f 7 + 1)) 11 (f 11 + (M : Int)))))) := ⟨setRow_at R2 _, below_setRow S2.bel (by omega) _⟩
    obtain ⟨TT, HTT⟩ : ∃ TT, Hid (ta (upd (upd f 7 (f 7 + 1)) 11 (f 11 + (M : Int))) = TT) := ⟨_, rfl⟩
    rw [HTT.out] at T2
    have hsz : TT.size = 12 := by rw [← HTT.out]; rfl
    have hinf : (Try.prog.info? tCo).map (·.size) = some TT.size := by rw [hsz]; exact infoCo
    have hone : TT.all (·.oneCell') = true := by rw [← HTT.out]; simp [ta, Value.oneCell']
    have hold : (ta fun _ => 0).size = TT.size := by rw [hsz]; rfl
    clear S0 S1 S2 hsz
    rw [HTT.out] at HFIN HE
    go_wp2_with (first
      | (refine wpList_load_row rfl tCo _ rfl w.heap.size rfl _ _ _ _ T2 Try.underlying30 rfl hinf ?_; refine wpList_store_row rfl tCo _ _ rfl (w.heap.size + 2) TT (by rfl) (by rfl) _ _ R2 hinf hold hone ?_)
      | (rw [HZ0.out])
      | (rw [HZ1.out])
      | fail)
    refine bodyPost_ret (v := .agg TT) (results_cell_row (fn := Try.f6) (p := 4) rfl _ _ (w.heap.size + 2) tCo _ _ _ rfl HFIN.out.1 Try.underlying30 rfl hinf) rfl ?_
    exact ⟨congrArg _ (congrArg _ HE.out), HFIN.out.2⟩
  · have S0 := HY.out
    have R0 := S0.r
    have T0 := S0.t
    have HE : Hid (ta f = ta (sumT f (br true true true false (M : Int)))) := ta_congr fun j hj => by rcases twelve hj with rfl | rfl | rfl | rfl | rfl | rfl | rfl | rfl | rfl | rfl | rfl | rfl <;> simp [sumT, br, mov, nmI, upd]
    have HFIN : Hid ((y3.setRow (w.heap.size + 2) (ta f)).heap[w.heap.size + 2]? = some (.cells (ta f) tCo (0, 0)) ∧ Below w.heap.size w (y3.setRow (w.heap.size + 2) (ta f))) := ⟨setRow_at R0 _, below_setRow S0.bel (by omega) _⟩
    obtain ⟨TT, HTT⟩ : ∃ TT, Hid (ta f = TT) := ⟨_, rfl⟩
    rw [HTT.out] at T0
    have hsz : TT.size = 12 := by rw [← HTT.out]; rfl
    have hinf : (Try.prog.info? tCo).map (·.size) = some TT.size := by rw [hsz]; exact infoCo
    have hone : TT.all (·.oneCell') = true := by rw [← HTT.out]; simp [ta, Value.oneCell']
    have hold : (ta fun _ => 0).size = TT.size := by rw [hsz]; rfl
    clear S0 hsz
    rw [HTT.out] at HFIN HE
    go_wp2_with (first
      | (refine wpList_load_row rfl tCo _ rfl w.heap.size rfl _ _ _ _ T0 Try.underlying30 rfl hinf ?_; refine wpList_store_row rfl tCo _ _ rfl (w.heap.size + 2) TT (by rfl) (by rfl) _ _ R0 hinf hold hone ?_)
      | fail)
    refine bodyPost_ret (v := .agg TT) (results_cell_row (fn := Try.f6) (p := 4) rfl _ _ (w.heap.size + 2) tCo _ _ _ rfl HFIN.out.1 Try.underlying30 rfl hinf) rfl ?_
    exact ⟨congrArg _ (congrArg _ HE.out), HFIN.out.2⟩
  · have S0 := HY.out
    obtain ⟨p0, q0⟩ : y3.cell? ⟨w.heap.size, 5, none⟩ = some (.int .i64 (f 5)) ∧ y3.frozen? ⟨w.heap.size, 5, none⟩ = false := by simpa [upd] using ta_cell S0.t 5 (by omega)
    obtain ⟨z0, HZ0⟩ : ∃ z, Hid (y3.setCell ⟨w.heap.size, 5, none⟩ (.int .i64 (f 5 + 1)) = z) := ⟨_, rfl⟩
    have S1 : CuM w #[.int .i64 lk, .int .i64 wh, .int .i64 am, .bool true, .bool true] (upd f 5 (f 5 + 1)) z0 := by rw [← HZ0.out]; exact S0.set 5 (by omega) _
    have d30 : z0.cell? ⟨w.heap.size + 1, 3, none⟩ = some (.bool true) := by have := S1.d; simp [World.cell?, this]
    have d40 : z0.cell? ⟨w.heap.size + 1, 4, none⟩ = some (.bool true) := by have := S1.d; simp [World.cell?, this]
    have m0 : -9223372036854775808 ≤ f 5 + 1 := by have := HF.out 5 (by omega); have := HM.out; omega
    have n0 : f 5 + 1 ≤ 9223372036854775807 := by have := HF.out 5 (by omega); have := HM.out; omega
    obtain ⟨p1, q1⟩ : z0.cell? ⟨w.heap.size, 9, none⟩ = some (.int .i64 (f 9)) ∧ z0.frozen? ⟨w.heap.size, 9, none⟩ = false := by simpa [upd] using ta_cell S1.t 9 (by omega)
    obtain ⟨z1, HZ1⟩ : ∃ z, Hid (z0.setCell ⟨w.heap.size, 9, none⟩ (.int .i64 (f 9 + (M : Int))) = z) := ⟨_, rfl⟩
    have S2 : CuM w #[.int .i64 lk, .int .i64 wh, .int .i64 am, .bool true, .bool true] (upd (upd f 5 (f 5 + 1)) 9 (f 9 + (M : Int))) z1 := by rw [← HZ1.out]; exact S1.set 9 (by omega) _
    have d31 : z1.cell? ⟨w.heap.size + 1, 3, none⟩ = some (.bool true) := by have := S2.d; simp [World.cell?, this]
    have d41 : z1.cell? ⟨w.heap.size + 1, 4, none⟩ = some (.bool true) := by have := S2.d; simp [World.cell?, this]
    have m1 : -9223372036854775808 ≤ f 9 + (M : Int) := by have := HF.out 9 (by omega); have := HM.out; omega
    have n1 : f 9 + (M : Int) ≤ 9223372036854775807 := by have := HF.out 9 (by omega); have := HM.out; omega
    have R2 := S2.r
    have T2 := S2.t
    have HE : Hid (ta (upd (upd f 5 (f 5 + 1)) 9 (f 9 + (M : Int))) = ta (sumT f (br true true true true (M : Int)))) := ta_congr fun j hj => by rcases twelve hj with rfl | rfl | rfl | rfl | rfl | rfl | rfl | rfl | rfl | rfl | rfl | rfl <;> simp [sumT, br, mov, nmI, upd]
    have HFIN : Hid ((z1.setRow (w.heap.size + 2) (ta (upd (upd f 5 (f 5 + 1)) 9 (f 9 + (M : Int))))).heap[w.heap.size + 2]? = some (.cells (ta (upd (upd f 5 (f 5 + 1)) 9 (f 9 + (M : Int)))) tCo (0, 0)) ∧ Below w.heap.size w (z1.setRow (w.heap.size + 2) (ta (upd (upd f 5 (f 5 + 1)) 9 (f 9 + (M : Int)))))) := ⟨setRow_at R2 _, below_setRow S2.bel (by omega) _⟩
    obtain ⟨TT, HTT⟩ : ∃ TT, Hid (ta (upd (upd f 5 (f 5 + 1)) 9 (f 9 + (M : Int))) = TT) := ⟨_, rfl⟩
    rw [HTT.out] at T2
    have hsz : TT.size = 12 := by rw [← HTT.out]; rfl
    have hinf : (Try.prog.info? tCo).map (·.size) = some TT.size := by rw [hsz]; exact infoCo
    have hone : TT.all (·.oneCell') = true := by rw [← HTT.out]; simp [ta, Value.oneCell']
    have hold : (ta fun _ => 0).size = TT.size := by rw [hsz]; rfl
    clear S0 S1 S2 hsz
    rw [HTT.out] at HFIN HE
    go_wp2_with (first
      | (refine wpList_load_row rfl tCo _ rfl w.heap.size rfl _ _ _ _ T2 Try.underlying30 rfl hinf ?_; refine wpList_store_row rfl tCo _ _ rfl (w.heap.size + 2) TT (by rfl) (by rfl) _ _ R2 hinf hold hone ?_)
      | (rw [HZ0.out])
      | (rw [HZ1.out])
      | fail)
    refine bodyPost_ret (v := .agg TT) (results_cell_row (fn := Try.f6) (p := 4) rfl _ _ (w.heap.size + 2) tCo _ _ _ rfl HFIN.out.1 Try.underlying30 rfl hinf) rfl ?_
    exact ⟨congrArg _ (congrArg _ HE.out), HFIN.out.2⟩
end Go.Proofs.Yteaanenhefbkjaa.Tq
