/- StanPlays: its walk. -/
import Derived.Test.YtmnoplaepjaokaaGreatDoorVc
import Derived.BigQuiet
namespace Go.Proofs.YtmnoplaepjaokaaGreatDoor.Vd
set_option linter.unusedVariables false
set_option linter.unusedSimpArgs false
open Go.RowKit Lib0 Kb Xp Ya Yb Yc Yd Yf Yg Zk Va Vb Vc
theorem keepB' {w x y : World} (h : Below w.heap.size w x) (k : Below x.heap.size x y) : Below w.heap.size w y := keepB h k
theorem put0 {w y y1 y3 : World} {nb rb0 : Nat} {D : Q4} (h : Pl w y nb rb0 none none) (h1 : Below y.heap.size y y1) (h3 : Below (y1.setCell ⟨nb, 0, none⟩ (.pointer (nA D))).heap.size (y1.setCell ⟨nb, 0, none⟩ (.pointer (nA D))) y3) (hp : Pv w y3 D) (hn : ∀ g, FD D g → y.heap.size ≤ g) : Pl w (y3.setCell ⟨rb0, 0, none⟩ (.pointer (rA D))) nb rb0 D none := by
  have hx := h.below h1
  have hne := h.ne
  have l1 := (Array.getElem?_eq_some_iff.1 h.nB).1
  have l2 := (Array.getElem?_eq_some_iff.1 h.rB).1
  have e1 : (y1.setCell ⟨nb, 0, none⟩ (.pointer (nA D))).heap[nb]? = _ := setCell_heap hx.nB 0 _
  have e2 : (y1.setCell ⟨nb, 0, none⟩ (.pointer (nA D))).heap[rb0]? = _ := (setCell_ne (p := ⟨nb, 0, none⟩) hne _).trans hx.rB
  have f1 := kept h3 e1
  have f2 := kept h3 e2
  have b3 : Below w.heap.size w y3 := keepB' (hx.bel.setCell h.n0 _) h3
  have b1 : Below w.heap.size w (y3.setCell ⟨rb0, 0, none⟩ (.pointer (rA D))) := b3.setCell h.r0 _
  have kk : ∀ g, g ≠ rb0 → (y3.setCell ⟨rb0, 0, none⟩ (.pointer (rA D))).heap[g]? = y3.heap[g]? := fun g e => setCell_ne (p := ⟨rb0, 0, none⟩) (fun e2 => e e2.symm) _
  refine ⟨(kk nb hne).trans f1, setCell_heap f2 0 _, hp.keep (fun g hg => kk g (by have := hn g hg; omega)) b1, trivial, fun g _ e => e, b1, h.n0, h.r0⟩
theorem put1 {w y y1 y3 : World} {nb rb0 : Nat} {D0 D : Q4} (h : Pl w y nb rb0 D0 none) (h1 : Below y.heap.size y y1) (h3 : Below (y1.setCell ⟨nb, 1, none⟩ (.pointer (nA D))).heap.size (y1.setCell ⟨nb, 1, none⟩ (.pointer (nA D))) y3) (hp : Pv w y3 D) (hn : ∀ g, FD D g → y.heap.size ≤ g) : Pl w (y3.setCell ⟨rb0, 1, none⟩ (.pointer (rA D))) nb rb0 D0 D := by
  have hx := h.below h1
  have hne := h.ne
  have l1 := (Array.getElem?_eq_some_iff.1 h.nB).1
  have l2 := (Array.getElem?_eq_some_iff.1 h.rB).1
  have e1 : (y1.setCell ⟨nb, 1, none⟩ (.pointer (nA D))).heap[nb]? = _ := setCell_heap hx.nB 1 _
  have e2 : (y1.setCell ⟨nb, 1, none⟩ (.pointer (nA D))).heap[rb0]? = _ := (setCell_ne (p := ⟨nb, 1, none⟩) hne _).trans hx.rB
  have f1 := kept h3 e1
  have f2 := kept h3 e2
  have b3 : Below w.heap.size w y3 := keepB' (hx.bel.setCell h.n0 _) h3
  have b1 : Below w.heap.size w (y3.setCell ⟨rb0, 1, none⟩ (.pointer (rA D))) := b3.setCell h.r0 _
  have kk : ∀ g, g ≠ rb0 → (y3.setCell ⟨rb0, 1, none⟩ (.pointer (rA D))).heap[g]? = y3.heap[g]? := fun g e => setCell_ne (p := ⟨rb0, 1, none⟩) (fun e2 => e e2.symm) _
  have q1 := hx.p0.ne hx.nB (by decide) (by decide) (by decide) (by decide)
  have q2 := hx.p0.ne hx.rB (by decide) (by decide) (by decide) (by decide)
  refine ⟨(kk nb hne).trans f1, setCell_heap f2 1 _, hx.p0.keep (fun g hg => ?_) b1, hp.keep (fun g hg => kk g (by have := hn g hg; omega)) b1, fun g hg hg2 => ?_, b1, h.n0, h.r0⟩
  · have hlt := (hx.p0.lo g hg).2
    rw [kk g (fun e => q2 (e ▸ hg)), h3.block g (by rw [setCell_size]; exact hlt), setCell_ne (p := ⟨nb, 1, none⟩) (fun e => q1 ((show nb = g from e) ▸ hg))]
  · have := (h.p0.lo g hg).2
    have := hn g hg2
    omega
set_option maxRecDepth 100000 in
set_option maxHeartbeats 6400000 in
theorem walk (a0 a1 : Int) (v2 : Value) (z2 : List So.Opv) (w : World) (w0 : (Lit.int .i64 a0).wf = true) (w1 : (Lit.int .i64 a1).wf = true) (w2 : So.Lies w v2 z2 140737488351232) (k2 : z2.length ≤ 140737488351232) (hT : Tb w) :
    Calls Tryz.prog 3 #[.int .i64 a0, .int .i64 a1, v2] w fun e w' => e = .returned (.bool true) ∧ Below w.heap.size w w' := by
  have HT : Hid (Tb w) := hT
  obtain ⟨⟨o2, cap2, rfl, hcell⟩, -⟩ := w2
  obtain ⟨N2, HN2⟩ : ∃ N, Hid (z2.length = N) := ⟨_, rfl⟩
  have HC : Hid (∀ i (h : i < z2.length), ∃ a : Addr, o2 = some a ∧ So.At w a i z2[i] ∧ z2[i].Fine 140737488351232) := hcell
  rw [HN2.out] at k2 ⊢
  have HNB : Hid (N2 ≤ 140737488351232) := k2
  clear hT hcell k2 w0 w1
  go_enter Tryz.func3, Tryz.ntmps3
  go_wp2_with fail
  refine (known_any w HT.out).mono ?_
  rintro e y0 ⟨rfl, hy0⟩
  have HY0 : Hid (Below w.heap.size w y0) := hy0
  clear hy0
  go_wp2_with fail
  have HP0 : Hid (Pl w (((y0.alloc (.cells #[.int .i64 a0, .int .i64 a1] 24)).alloc (.cells #[.pointer none, .pointer none] tN2)).alloc (.cells #[.pointer none, .pointer none] tR2)) (y0.heap.size + 1) (y0.heap.size + 1 + 1) none none) := ⟨h3_1 _ _ _ _, h3_2 _ _ _ _, trivial, trivial, fun g h => (by cases h), keepB HY0.out (below_three _ _ _ _), by have := HY0.out.size; omega, by have := HY0.out.size; omega⟩
  have HMB0 : Hid ((((y0.alloc (.cells #[.int .i64 a0, .int .i64 a1] 24)).alloc (.cells #[.pointer none, .pointer none] tN2)).alloc (.cells #[.pointer none, .pointer none] tR2)).heap[y0.heap.size]? = some (.cells #[.int .i64 a0, .int .i64 a1] 24)) := h3_0 _ _ _ _
  generalize ((y0.alloc (.cells #[.int .i64 a0, .int .i64 a1] 24)).alloc (.cells #[.pointer none, .pointer none] tN2)).alloc (.cells #[.pointer none, .pointer none] tR2) = y1 at *
  generalize y0.heap.size + 1 + 1 = rb0 at *
  generalize y0.heap.size + 1 = nb at *
  generalize y0.heap.size = mb at *
  go_loopw [11] (fun kv wr => ∃ k : Nat, kv = .int .i64 (k : Int) ∧ k ≤ 2 ∧ Hid (∃ D0 D1, Pl w wr nb rb0 D0 D1 ∧ (k = 0 → D0 = none) ∧ (k ≤ 1 → D1 = none)) ∧ Hid (wr.heap[mb]? = some (.cells #[.int .i64 a0, .int .i64 a1] 24))) (fun kv _ => 3 - (intOf kv).toNat)
  case atStart => exact ⟨0, rfl, by omega, ⟨none, none, HP0.out, fun _ => rfl, fun _ => rfl⟩, HMB0⟩
  case round =>
    obtain ⟨k, rfl, hk, HPX, HMB⟩ := hrel
    obtain ⟨D0, D1, hPl, hD0, hD1⟩ := HPX.out
    have hk3 : k = 0 ∨ k = 1 ∨ k = 2 := by omega
    rcases hk3 with rfl | rfl | rfl
    · obtain rfl := hD0 rfl
      obtain rfl := hD1 (by omega)
      have HPL : Hid (Pl w wr nb rb0 none none) := hPl
      have cm : wr.cell? ⟨mb, 0, none⟩ = some (.int .i64 a0) := by rw [cell_of_row _ _ _ _ _ _ HMB.out]; rfl
      clear hPl HPX hD0 hD1 hk
      cases hv : isNum a0 with
      | true =>
        as_aux_lemma =>
          obtain ⟨mo, rfl⟩ : ∃ mo : Nat, a0 = (mo : Int) := ⟨a0.toNat, by simp [isNum] at hv; omega⟩
          have HMO : Hid (1 ≤ mo ∧ mo ≤ 999999) := by simp [isNum] at hv; show 1 ≤ mo ∧ mo ≤ 999999; omega
          have HNW : Hid (Calls Tryz.prog 10 #[.int .i64 (mo : Int)] wr fun e w' => ∃ b d, e = .returned (.tuple #[.pointer (some ⟨b, 0, none⟩), .int .i64 0]) ∧ Nm w' b d (fresh mo) (new mo) ∧ Below wr.heap.size wr w' ∧ wr.heap.size ≤ b ∧ wr.heap.size ≤ d) := Yd.new_good mo wr HMO.out.1 HMO.out.2
          clear hv
          go_wp2_with fail
          refine HNW.out.mono ?_
          rintro e y1 ⟨b, d, rfl, hn, hb1, hb0, hd0⟩
          have HB1 : Hid (Below wr.heap.size wr y1 ∧ Nm y1 b d (fresh mo) (new mo) ∧ wr.heap.size ≤ b ∧ wr.heap.size ≤ d) := ⟨hb1, hn, hb0, hd0⟩
          have hP1 := HPL.out.below hb1
          have s0 := hP1.cells.1.1
          have s0f := hP1.cells.2.2.1 0
          have hM1 := kept hb1 HMB.out
          have HM2 : Hid ((y1.setCell ⟨nb, 0, none⟩ (.pointer (some ⟨b, 0, none⟩))).heap[mb]? = some (.cells #[.int .i64 (mo : Int), .int .i64 a1] 24)) := (setCell_ne (p := ⟨nb, 0, none⟩) (ty_ne hP1.nB hM1 (by decide)) _).trans hM1
          have cm2 : (y1.setCell ⟨nb, 0, none⟩ (.pointer (some ⟨b, 0, none⟩))).cell? ⟨mb, 0, none⟩ = some (.int .i64 (mo : Int)) := by rw [cell_of_row _ _ _ _ _ _ HM2.out]; rfl
          have HNR : Hid (∀ x, Calls Tryz.prog 11 #[.int .i64 (mo : Int)] x fun e w' => ∃ b d, e = .returned (.tuple #[.pointer (some ⟨b, 0, none⟩), .int .i64 0]) ∧ Rm w' b d (fresh mo) ∧ Below x.heap.size x w' ∧ x.heap.size ≤ b ∧ x.heap.size ≤ d) := fun x => newr_good mo x HMO.out.1 HMO.out.2
          have HNE : Hid (nb ≠ b ∧ nb ≠ d ∧ nb < wr.heap.size) := by
            have l1 := (Array.getElem?_eq_some_iff.1 HPL.out.nB).1
            show nb ≠ b ∧ nb ≠ d ∧ nb < wr.heap.size
            refine ⟨by omega, by omega, l1⟩
          clear hn hb1 hb0 hd0 hP1 hM1 HNW cm
          go_wp2_with fail
          refine (HNR.out _).mono ?_
          rintro e y3 ⟨rb, rd, rfl, hr, hb3, hr0, hr1⟩
          have HPL2 : Hid (Pl w (y3.setCell ⟨rb0, 0, none⟩ (.pointer (some ⟨rb, 0, none⟩))) nb rb0 (some (b, d, rb, rd)) none) := by
            obtain ⟨hb1, hn, hb0, hd0⟩ := HB1.out
            obtain ⟨n1, n2, n3⟩ := HNE.out
            have hn2 : Nm (y1.setCell ⟨nb, 0, none⟩ (.pointer (some ⟨b, 0, none⟩))) b d (fresh mo) (new mo) := Yd.Nm.keep hn (setCell_ne (p := ⟨nb, 0, none⟩) n1 _) (setCell_ne (p := ⟨nb, 0, none⟩) n2 _)
            have hsz : (y1.setCell ⟨nb, 0, none⟩ (.pointer (some ⟨b, 0, none⟩))).heap.size = y1.heap.size := setCell_size _ _ _
            have hb3' : Below w.heap.size w y3 := keepB' ((keepB HPL.out.bel hb1).setCell HPL.out.n0 _) hb3
            have hlo := HPL.out.bel.size
            have h1s := hb1.size
            refine put0 (D := some (b, d, rb, rd)) HPL.out hb1 hb3 ⟨fresh mo, ⟨⟨_, Yd.Nm.below hn2 hb3⟩, hb3', by omega, by omega, HT.out⟩, hr, ok_fresh HMO.out.1 HMO.out.2, by omega, by omega⟩ ?_
            rintro g (rfl | rfl | rfl | rfl) <;> omega
          have t0 := HPL2.out.cells.1.1
          have t1 := HPL2.out.cells.2.1.1
          have u0 : y3.cell? ⟨rb0, 0, none⟩ = some (.pointer none) := by
            have e2 := kept hb3 ((setCell_ne (p := ⟨nb, 0, none⟩) HPL.out.ne _).trans (HPL.out.below HB1.out.1).rB)
            rw [cell_of_row _ _ _ _ _ _ e2]; rfl
          have u0f : y3.frozen? ⟨rb0, 0, none⟩ = false := by
            have e2 := kept hb3 ((setCell_ne (p := ⟨nb, 0, none⟩) HPL.out.ne _).trans (HPL.out.below HB1.out.1).rB)
            exact frozen_of_row y3 _ _ _ _ e2
          have HMB3 : Hid ((y3.setCell ⟨rb0, 0, none⟩ (.pointer (some ⟨rb, 0, none⟩))).heap[mb]? = some (.cells #[.int .i64 (mo : Int), .int .i64 a1] 24)) := by
            have e3 := kept hb3 HM2.out
            have e2 := kept hb3 ((setCell_ne (p := ⟨nb, 0, none⟩) HPL.out.ne _).trans (HPL.out.below HB1.out.1).rB)
            exact (setCell_ne (p := ⟨rb0, 0, none⟩) (ty_ne e2 e3 (by decide)) _).trans e3
          obtain ⟨Z, HZ⟩ : ∃ Z, y3.setCell ⟨rb0, 0, none⟩ (.pointer (some ⟨rb, 0, none⟩)) = Z := ⟨_, rfl⟩
          rw [HZ] at HPL2 t0 t1 HMB3
          have t0' : Z.cell? ⟨nb, 0, none⟩ = some (.pointer (some ⟨b, 0, none⟩)) := t0
          have t1' : Z.cell? ⟨rb0, 0, none⟩ = some (.pointer (some ⟨rb, 0, none⟩)) := t1
          clear hr hb3 hr0 hr1 HNR HB1 HNE HM2 s0 s0f cm2 t0 t1
          go_wp2_with fail
          try rw [HZ]
          clear HZ u0 u0f
          go_quiet (fail)
          have HE : Hid (Pl w (Z.drewN nq) nb rb0 (some (b, d, rb, rd)) none) := HPL2.out.below (Kb.below_drewN (Below.refl _ Z) nq)
          have HME : Hid ((Z.drewN nq).heap[mb]? = some (.cells #[.int .i64 (mo : Int), .int .i64 a1] 24)) := kept (Kb.below_drewN (Below.refl _ Z) nq) HMB3.out
          generalize Z.drewN nq = Z2 at *
          go_wp2_with fail
          refine ⟨⟨1, rfl, by omega, ⟨_, _, HE.out, fun h => by omega, fun _ => rfl⟩, HME⟩, ?_⟩
          simp only [intOf]
          omega
      | false =>
        as_aux_lemma =>
          have HNW : Hid (Calls Tryz.prog 10 #[.int .i64 a0] wr fun e w' => e = .returned (.tuple #[.pointer none, .int .i64 1]) ∧ w' = wr) := Yd.new_bad a0 wr hv
          have HNR : Hid (∀ x, Calls Tryz.prog 11 #[.int .i64 a0] x fun e w' => e = .returned (.tuple #[.pointer none, .int .i64 1]) ∧ w' = x) := fun x => newr_bad a0 x hv
          clear hv
          have s0 := HPL.out.cells.1.1
          have s0f := HPL.out.cells.2.2.1 0
          have HM2 : Hid ((wr.setCell ⟨nb, 0, none⟩ (.pointer none)).heap[mb]? = some (.cells #[.int .i64 a0, .int .i64 a1] 24)) := (setCell_ne (p := ⟨nb, 0, none⟩) (ty_ne HPL.out.nB HMB.out (by decide)) _).trans HMB.out
          have cm2 : (wr.setCell ⟨nb, 0, none⟩ (.pointer none)).cell? ⟨mb, 0, none⟩ = some (.int .i64 a0) := by rw [cell_of_row _ _ _ _ _ _ HM2.out]; rfl
          have HPL2 : Hid (Pl w ((wr.setCell ⟨nb, 0, none⟩ (.pointer none)).setCell ⟨rb0, 0, none⟩ (.pointer none)) nb rb0 none none) := put0 (D := none) HPL.out (Below.refl _ _) (Below.refl _ _) trivial (fun g hg => by cases hg)
          have t0 := HPL2.out.cells.1.1
          have t1 := HPL2.out.cells.2.1.1
          have e2 : (wr.setCell ⟨nb, 0, none⟩ (.pointer none)).heap[rb0]? = _ := (setCell_ne (p := ⟨nb, 0, none⟩) HPL.out.ne _).trans HPL.out.rB
          have u0 : (wr.setCell ⟨nb, 0, none⟩ (.pointer none)).cell? ⟨rb0, 0, none⟩ = some (.pointer none) := by rw [cell_of_row _ _ _ _ _ _ e2]; rfl
          have u0f : (wr.setCell ⟨nb, 0, none⟩ (.pointer none)).frozen? ⟨rb0, 0, none⟩ = false := frozen_of_row _ _ _ _ _ e2
          have HMB3 : Hid (((wr.setCell ⟨nb, 0, none⟩ (.pointer none)).setCell ⟨rb0, 0, none⟩ (.pointer none)).heap[mb]? = some (.cells #[.int .i64 a0, .int .i64 a1] 24)) := (setCell_ne (p := ⟨rb0, 0, none⟩) (ty_ne e2 HM2.out (by decide)) _).trans HM2.out
          obtain ⟨Z, HZ⟩ : ∃ Z, (wr.setCell ⟨nb, 0, none⟩ (.pointer none)).setCell ⟨rb0, 0, none⟩ (.pointer none) = Z := ⟨_, rfl⟩
          rw [HZ] at HPL2 t0 t1 HMB3
          have t0' : Z.cell? ⟨nb, 0, none⟩ = some (.pointer none) := t0
          have t1' : Z.cell? ⟨rb0, 0, none⟩ = some (.pointer none) := t1
          clear e2 t0 t1
          go_wp2_with fail
          refine HNW.out.mono ?_
          rintro e y1 ⟨rfl, hy1⟩
          rw [hy1]
          clear hy1 y1 HNW
          go_wp2_with fail
          refine (HNR.out _).mono ?_
          rintro e y3 ⟨rfl, hy3⟩
          rw [hy3]
          clear hy3 y3 HNR
          go_wp2_with fail
          try rw [HZ]
          clear HZ u0 u0f cm2 s0 s0f
          go_quiet (fail)
          have HE : Hid (Pl w (Z.drewN nq) nb rb0 none none) := HPL2.out.below (Kb.below_drewN (Below.refl _ Z) nq)
          have HME : Hid ((Z.drewN nq).heap[mb]? = some (.cells #[.int .i64 a0, .int .i64 a1] 24)) := kept (Kb.below_drewN (Below.refl _ Z) nq) HMB3.out
          generalize Z.drewN nq = Z2 at *
          go_wp2_with fail
          refine ⟨⟨1, rfl, by omega, ⟨_, _, HE.out, fun h => by omega, fun _ => rfl⟩, HME⟩, ?_⟩
          simp only [intOf]
          omega
    · obtain rfl := hD1 (by omega)
      have HPL : Hid (Pl w wr nb rb0 D0 none) := hPl
      have cm : wr.cell? ⟨mb, 1, none⟩ = some (.int .i64 a1) := by rw [cell_of_row _ _ _ _ _ _ HMB.out]; rfl
      clear hPl HPX hD0 hD1 hk
      cases hv : isNum a1 with
      | true =>
        as_aux_lemma =>
          obtain ⟨mo, rfl⟩ : ∃ mo : Nat, a1 = (mo : Int) := ⟨a1.toNat, by simp [isNum] at hv; omega⟩
          have HMO : Hid (1 ≤ mo ∧ mo ≤ 999999) := by simp [isNum] at hv; show 1 ≤ mo ∧ mo ≤ 999999; omega
          have HNW : Hid (Calls Tryz.prog 10 #[.int .i64 (mo : Int)] wr fun e w' => ∃ b d, e = .returned (.tuple #[.pointer (some ⟨b, 0, none⟩), .int .i64 0]) ∧ Nm w' b d (fresh mo) (new mo) ∧ Below wr.heap.size wr w' ∧ wr.heap.size ≤ b ∧ wr.heap.size ≤ d) := Yd.new_good mo wr HMO.out.1 HMO.out.2
          clear hv
          go_wp2_with fail
          refine HNW.out.mono ?_
          rintro e y1 ⟨b, d, rfl, hn, hb1, hb0, hd0⟩
          have HB1 : Hid (Below wr.heap.size wr y1 ∧ Nm y1 b d (fresh mo) (new mo) ∧ wr.heap.size ≤ b ∧ wr.heap.size ≤ d) := ⟨hb1, hn, hb0, hd0⟩
          have hP1 := HPL.out.below hb1
          have s0 := hP1.cells.1.2
          have s0f := hP1.cells.2.2.1 1
          have hM1 := kept hb1 HMB.out
          have HM2 : Hid ((y1.setCell ⟨nb, 1, none⟩ (.pointer (some ⟨b, 0, none⟩))).heap[mb]? = some (.cells #[.int .i64 a0, .int .i64 (mo : Int)] 24)) := (setCell_ne (p := ⟨nb, 1, none⟩) (ty_ne hP1.nB hM1 (by decide)) _).trans hM1
          have cm2 : (y1.setCell ⟨nb, 1, none⟩ (.pointer (some ⟨b, 0, none⟩))).cell? ⟨mb, 1, none⟩ = some (.int .i64 (mo : Int)) := by rw [cell_of_row _ _ _ _ _ _ HM2.out]; rfl
          have HNR : Hid (∀ x, Calls Tryz.prog 11 #[.int .i64 (mo : Int)] x fun e w' => ∃ b d, e = .returned (.tuple #[.pointer (some ⟨b, 0, none⟩), .int .i64 0]) ∧ Rm w' b d (fresh mo) ∧ Below x.heap.size x w' ∧ x.heap.size ≤ b ∧ x.heap.size ≤ d) := fun x => newr_good mo x HMO.out.1 HMO.out.2
          have HNE : Hid (nb ≠ b ∧ nb ≠ d ∧ nb < wr.heap.size) := by
            have l1 := (Array.getElem?_eq_some_iff.1 HPL.out.nB).1
            show nb ≠ b ∧ nb ≠ d ∧ nb < wr.heap.size
            refine ⟨by omega, by omega, l1⟩
          clear hn hb1 hb0 hd0 hP1 hM1 HNW cm
          go_wp2_with fail
          refine (HNR.out _).mono ?_
          rintro e y3 ⟨rb, rd, rfl, hr, hb3, hr0, hr1⟩
          have HPL2 : Hid (Pl w (y3.setCell ⟨rb0, 1, none⟩ (.pointer (some ⟨rb, 0, none⟩))) nb rb0 D0 (some (b, d, rb, rd))) := by
            obtain ⟨hb1, hn, hb0, hd0⟩ := HB1.out
            obtain ⟨n1, n2, n3⟩ := HNE.out
            have hn2 : Nm (y1.setCell ⟨nb, 1, none⟩ (.pointer (some ⟨b, 0, none⟩))) b d (fresh mo) (new mo) := Yd.Nm.keep hn (setCell_ne (p := ⟨nb, 1, none⟩) n1 _) (setCell_ne (p := ⟨nb, 1, none⟩) n2 _)
            have hsz : (y1.setCell ⟨nb, 1, none⟩ (.pointer (some ⟨b, 0, none⟩))).heap.size = y1.heap.size := setCell_size _ _ _
            have hb3' : Below w.heap.size w y3 := keepB' ((keepB HPL.out.bel hb1).setCell HPL.out.n0 _) hb3
            have hlo := HPL.out.bel.size
            have h1s := hb1.size
            refine put1 (D := some (b, d, rb, rd)) HPL.out hb1 hb3 ⟨fresh mo, ⟨⟨_, Yd.Nm.below hn2 hb3⟩, hb3', by omega, by omega, HT.out⟩, hr, ok_fresh HMO.out.1 HMO.out.2, by omega, by omega⟩ ?_
            rintro g (rfl | rfl | rfl | rfl) <;> omega
          have t0 := HPL2.out.cells.1.2
          have t1 := HPL2.out.cells.2.1.2
          have u0 : y3.cell? ⟨rb0, 1, none⟩ = some (.pointer none) := by
            have e2 := kept hb3 ((setCell_ne (p := ⟨nb, 1, none⟩) HPL.out.ne _).trans (HPL.out.below HB1.out.1).rB)
            rw [cell_of_row _ _ _ _ _ _ e2]; rfl
          have u0f : y3.frozen? ⟨rb0, 1, none⟩ = false := by
            have e2 := kept hb3 ((setCell_ne (p := ⟨nb, 1, none⟩) HPL.out.ne _).trans (HPL.out.below HB1.out.1).rB)
            exact frozen_of_row y3 _ _ _ _ e2
          have HMB3 : Hid ((y3.setCell ⟨rb0, 1, none⟩ (.pointer (some ⟨rb, 0, none⟩))).heap[mb]? = some (.cells #[.int .i64 a0, .int .i64 (mo : Int)] 24)) := by
            have e3 := kept hb3 HM2.out
            have e2 := kept hb3 ((setCell_ne (p := ⟨nb, 1, none⟩) HPL.out.ne _).trans (HPL.out.below HB1.out.1).rB)
            exact (setCell_ne (p := ⟨rb0, 1, none⟩) (ty_ne e2 e3 (by decide)) _).trans e3
          obtain ⟨Z, HZ⟩ : ∃ Z, y3.setCell ⟨rb0, 1, none⟩ (.pointer (some ⟨rb, 0, none⟩)) = Z := ⟨_, rfl⟩
          rw [HZ] at HPL2 t0 t1 HMB3
          have t0' : Z.cell? ⟨nb, 1, none⟩ = some (.pointer (some ⟨b, 0, none⟩)) := t0
          have t1' : Z.cell? ⟨rb0, 1, none⟩ = some (.pointer (some ⟨rb, 0, none⟩)) := t1
          clear hr hb3 hr0 hr1 HNR HB1 HNE HM2 s0 s0f cm2 t0 t1
          go_wp2_with fail
          try rw [HZ]
          clear HZ u0 u0f
          go_quiet (fail)
          have HE : Hid (Pl w (Z.drewN nq) nb rb0 D0 (some (b, d, rb, rd))) := HPL2.out.below (Kb.below_drewN (Below.refl _ Z) nq)
          have HME : Hid ((Z.drewN nq).heap[mb]? = some (.cells #[.int .i64 a0, .int .i64 (mo : Int)] 24)) := kept (Kb.below_drewN (Below.refl _ Z) nq) HMB3.out
          generalize Z.drewN nq = Z2 at *
          go_wp2_with fail
          refine ⟨⟨2, rfl, by omega, ⟨_, _, HE.out, fun h => by omega, fun h => by omega⟩, HME⟩, ?_⟩
          simp only [intOf]
          omega
      | false =>
        as_aux_lemma =>
          have HNW : Hid (Calls Tryz.prog 10 #[.int .i64 a1] wr fun e w' => e = .returned (.tuple #[.pointer none, .int .i64 1]) ∧ w' = wr) := Yd.new_bad a1 wr hv
          have HNR : Hid (∀ x, Calls Tryz.prog 11 #[.int .i64 a1] x fun e w' => e = .returned (.tuple #[.pointer none, .int .i64 1]) ∧ w' = x) := fun x => newr_bad a1 x hv
          clear hv
          have s0 := HPL.out.cells.1.2
          have s0f := HPL.out.cells.2.2.1 1
          have HM2 : Hid ((wr.setCell ⟨nb, 1, none⟩ (.pointer none)).heap[mb]? = some (.cells #[.int .i64 a0, .int .i64 a1] 24)) := (setCell_ne (p := ⟨nb, 1, none⟩) (ty_ne HPL.out.nB HMB.out (by decide)) _).trans HMB.out
          have cm2 : (wr.setCell ⟨nb, 1, none⟩ (.pointer none)).cell? ⟨mb, 1, none⟩ = some (.int .i64 a1) := by rw [cell_of_row _ _ _ _ _ _ HM2.out]; rfl
          have HPL2 : Hid (Pl w ((wr.setCell ⟨nb, 1, none⟩ (.pointer none)).setCell ⟨rb0, 1, none⟩ (.pointer none)) nb rb0 D0 none) := put1 (D := none) HPL.out (Below.refl _ _) (Below.refl _ _) trivial (fun g hg => by cases hg)
          have t0 := HPL2.out.cells.1.2
          have t1 := HPL2.out.cells.2.1.2
          have e2 : (wr.setCell ⟨nb, 1, none⟩ (.pointer none)).heap[rb0]? = _ := (setCell_ne (p := ⟨nb, 1, none⟩) HPL.out.ne _).trans HPL.out.rB
          have u0 : (wr.setCell ⟨nb, 1, none⟩ (.pointer none)).cell? ⟨rb0, 1, none⟩ = some (.pointer none) := by rw [cell_of_row _ _ _ _ _ _ e2]; rfl
          have u0f : (wr.setCell ⟨nb, 1, none⟩ (.pointer none)).frozen? ⟨rb0, 1, none⟩ = false := frozen_of_row _ _ _ _ _ e2
          have HMB3 : Hid (((wr.setCell ⟨nb, 1, none⟩ (.pointer none)).setCell ⟨rb0, 1, none⟩ (.pointer none)).heap[mb]? = some (.cells #[.int .i64 a0, .int .i64 a1] 24)) := (setCell_ne (p := ⟨rb0, 1, none⟩) (ty_ne e2 HM2.out (by decide)) _).trans HM2.out
          obtain ⟨Z, HZ⟩ : ∃ Z, (wr.setCell ⟨nb, 1, none⟩ (.pointer none)).setCell ⟨rb0, 1, none⟩ (.pointer none) = Z := ⟨_, rfl⟩
          rw [HZ] at HPL2 t0 t1 HMB3
          have t0' : Z.cell? ⟨nb, 1, none⟩ = some (.pointer none) := t0
          have t1' : Z.cell? ⟨rb0, 1, none⟩ = some (.pointer none) := t1
          clear e2 t0 t1
          go_wp2_with fail
          refine HNW.out.mono ?_
          rintro e y1 ⟨rfl, hy1⟩
          rw [hy1]
          clear hy1 y1 HNW
          go_wp2_with fail
          refine (HNR.out _).mono ?_
          rintro e y3 ⟨rfl, hy3⟩
          rw [hy3]
          clear hy3 y3 HNR
          go_wp2_with fail
          try rw [HZ]
          clear HZ u0 u0f cm2 s0 s0f
          go_quiet (fail)
          have HE : Hid (Pl w (Z.drewN nq) nb rb0 D0 none) := HPL2.out.below (Kb.below_drewN (Below.refl _ Z) nq)
          have HME : Hid ((Z.drewN nq).heap[mb]? = some (.cells #[.int .i64 a0, .int .i64 a1] 24)) := kept (Kb.below_drewN (Below.refl _ Z) nq) HMB3.out
          generalize Z.drewN nq = Z2 at *
          go_wp2_with fail
          refine ⟨⟨2, rfl, by omega, ⟨_, _, HE.out, fun h => by omega, fun _ => rfl⟩, HME⟩, ?_⟩
          simp only [intOf]
          omega
    · have HPL : Hid (Pl w wr nb rb0 D0 D1) := hPl
      clear hPl HPX hD0 hD1 hk HMB
      rw [show ((2 : Nat) : Int) = 2 from rfl]
      go_wp2_with fail
      go_loopw [14] (fun iv wr => ∃ i : Nat, iv = .int .i64 (i : Int) ∧ i ≤ N2 ∧ i ≤ 300 ∧ Hid (Pl w wr nb rb0 D0 D1)) (fun iv _ => 301 - (intOf iv).toNat)
      case atStart => exact ⟨0, rfl, Nat.zero_le _, by omega, HPL⟩
      case round =>
        obtain ⟨i, rfl, hi1, hi2, HP⟩ := hrel
        have r0 : (0 : Int) ≤ (i : Int) := by omega
        by_cases hlt : i < N2 ∧ i < 300
        · have hi3 : i < z2.length := by rw [HN2.out]; exact hlt.1
          obtain ⟨a, rfl, hat, hfine⟩ := HC.out i hi3
          have hat2 := So.at_below hat rfl HP.out.bel
          generalize z2[i]'hi3 = o at *
          obtain ⟨c0, c1, c2, c3, c4⟩ := hat2
          rw [So.add_field _ _ _ (by decide)] at c1 c2 c3 c4
          have nb1 := bnd hfine.2.1
          have HWF : Hid ((Lit.int .i64 o.num).wf = true) := hfine.2.2
          have HPK : Hid (∀ x, Calls Tryz.prog 12 #[.int .i64 o.on, .int .i64 2] x fun e w' => e = .returned (.int .i64 (Pick.pickOf o.on 2)) ∧ w' = x) := fun x => Pick.pick_any o.on 2 x nb1.1 nb1.2 (by decide) (by decide)
          have p0 := Pick.pick_lo o.on 2 (by decide)
          have p1 := Pick.pick_hi o.on 2 (by decide)
          have hpp : Pick.pickOf o.on 2 = 0 ∨ Pick.pickOf o.on 2 = 1 := by omega
          have r1 : (i : Int) < (N2 : Int) := by omega
          have r2 : (i : Int) < 300 := by omega
          have HIN : Hid (i < N2 ∧ i < 300) := hlt
          clear hi1 hi2 hlt hi3 hat hfine nb1 p0 p1
          generalize Pick.pickOf o.on 2 = pp at *
          obtain ⟨⟨n0, n1⟩, ⟨m0, m1⟩, -, -⟩ := HP.out.cells
          rcases hpp with rfl | rfl
          · cases D0 with
            | none =>
              as_aux_lemma =>
                have x0 : wr.cell? ⟨rb0, 0, none⟩ = some (.pointer none) := m0
                go_wp2_with fail
                refine (HPK.out _).mono ?_
                rintro e x ⟨rfl, hx⟩
                rw [hx]
                clear hx x HPK
                go_wp2_with fail
                have hin := HIN.out
                refine ⟨⟨i + 1, by simp, by omega, by omega, HP⟩, ?_⟩
                simp only [intOf]
                omega
            | some q =>
              obtain ⟨b, d, rb, rd⟩ := q
              as_aux_lemma =>
                have x0 : wr.cell? ⟨rb0, 0, none⟩ = some (.pointer (some ⟨rb, 0, none⟩)) := m0
                have x1 : wr.cell? ⟨nb, 0, none⟩ = some (.pointer (some ⟨b, 0, none⟩)) := n0
                clear m0 m1 n0 n1
                go_wp2_with fail
                refine (HPK.out _).mono ?_
                rintro e x ⟨rfl, hx⟩
                rw [hx]
                clear hx x HPK
                go_wp2_with fail
                refine Qt.region_tail 10 1 (C := fun w' => ∃ n, w' = wr.drewN n) (by kernel_rfl) rfl (by kernel_rfl) (by kernel_rfl) (by kernel_rfl) ⟨1, rfl⟩ ?_
                dsimp only [List.take, List.drop]
                repeat (go_big_quiet_step (fail))
                refine wpQuiet_nil ?_
                rintro u0 ⟨nq, rfl⟩
                have HPU : Hid (Pl w (wr.drewN nq) nb rb0 (some (b, d, rb, rd)) D1) := HP.out.below (Kb.below_drewN (Below.refl _ wr) nq)
                generalize wr.drewN nq = U at *
                have HNU : Hid (Calls Tryz.prog 13 #[.pointer (some ⟨b, 0, none⟩), .pointer (some ⟨rb, 0, none⟩), .agg #[.int .i64 o.kind, .int .i64 o.on, .int .i64 o.num, .string o.mt, .slice o.fo o.fl o.fk]] U fun e w' => e = .returned (.bool true) ∧ Pl w w' nb rb0 (some (b, d, rb, rd)) D1) := by
                  obtain ⟨S, hS⟩ := HPU.out.p0
                  refine (numbered_any hS o HWF.out).mono ?_
                  rintro e w' ⟨he, ⟨S', -, hS'⟩, hf⟩
                  exact ⟨he, HPU.out.call0 ⟨S', hS'⟩ hf⟩
                clear c0 c1 c2 c3 c4 x0 x1
                go_wp2_with fail
                refine HNU.out.mono ?_
                rintro e x ⟨rfl, hx⟩
                have HPX : Hid (Pl w x nb rb0 (some (b, d, rb, rd)) D1) := hx
                clear hx HNU
                go_wp2_with fail
                have hin := HIN.out
                refine ⟨⟨i + 1, by simp, by omega, by omega, HPX⟩, ?_⟩
                simp only [intOf]
                omega
          · cases D1 with
            | none =>
              as_aux_lemma =>
                have x0 : wr.cell? ⟨rb0, 1, none⟩ = some (.pointer none) := m1
                go_wp2_with fail
                refine (HPK.out _).mono ?_
                rintro e x ⟨rfl, hx⟩
                rw [hx]
                clear hx x HPK
                go_wp2_with fail
                have hin := HIN.out
                refine ⟨⟨i + 1, by simp, by omega, by omega, HP⟩, ?_⟩
                simp only [intOf]
                omega
            | some q =>
              obtain ⟨b, d, rb, rd⟩ := q
              as_aux_lemma =>
                have x0 : wr.cell? ⟨rb0, 1, none⟩ = some (.pointer (some ⟨rb, 0, none⟩)) := m1
                have x1 : wr.cell? ⟨nb, 1, none⟩ = some (.pointer (some ⟨b, 0, none⟩)) := n1
                clear m0 m1 n0 n1
                go_wp2_with fail
                refine (HPK.out _).mono ?_
                rintro e x ⟨rfl, hx⟩
                rw [hx]
                clear hx x HPK
                go_wp2_with fail
                refine Qt.region_tail 10 1 (C := fun w' => ∃ n, w' = wr.drewN n) (by kernel_rfl) rfl (by kernel_rfl) (by kernel_rfl) (by kernel_rfl) ⟨1, rfl⟩ ?_
                dsimp only [List.take, List.drop]
                repeat (go_big_quiet_step (fail))
                refine wpQuiet_nil ?_
                rintro u0 ⟨nq, rfl⟩
                have HPU : Hid (Pl w (wr.drewN nq) nb rb0 D0 (some (b, d, rb, rd))) := HP.out.below (Kb.below_drewN (Below.refl _ wr) nq)
                generalize wr.drewN nq = U at *
                have HNU : Hid (Calls Tryz.prog 13 #[.pointer (some ⟨b, 0, none⟩), .pointer (some ⟨rb, 0, none⟩), .agg #[.int .i64 o.kind, .int .i64 o.on, .int .i64 o.num, .string o.mt, .slice o.fo o.fl o.fk]] U fun e w' => e = .returned (.bool true) ∧ Pl w w' nb rb0 D0 (some (b, d, rb, rd))) := by
                  obtain ⟨S, hS⟩ := HPU.out.p1
                  refine (numbered_any hS o HWF.out).mono ?_
                  rintro e w' ⟨he, ⟨S', -, hS'⟩, hf⟩
                  exact ⟨he, HPU.out.call1 ⟨S', hS'⟩ hf⟩
                clear c0 c1 c2 c3 c4 x0 x1
                go_wp2_with fail
                refine HNU.out.mono ?_
                rintro e x ⟨rfl, hx⟩
                have HPX : Hid (Pl w x nb rb0 D0 (some (b, d, rb, rd))) := hx
                clear hx HNU
                go_wp2_with fail
                have hin := HIN.out
                refine ⟨⟨i + 1, by simp, by omega, by omega, HPX⟩, ?_⟩
                simp only [intOf]
                omega
        · have hex : ¬ ((i : Int) < (N2 : Int)) ∨ ((i : Int) < (N2 : Int)) ∧ ¬ ((i : Int) < 300) := by omega
          have HB : Hid (Below w.heap.size w wr) := HP.out.bel
          clear hlt hi1 hi2
          rcases hex with g | ⟨g, g2⟩
          · as_aux_lemma =>
              go_wp2_with fail
              go_ret
              exact ⟨rfl, HB.out⟩
          · as_aux_lemma =>
              go_wp2_with fail
              go_ret
              exact ⟨rfl, HB.out⟩
end Go.Proofs.YtmnoplaepjaokaaGreatDoor.Vd
