/- SessionSigns: its walk. -/
import Derived.Test.YthfpjkboglbcaaaSe
namespace Go.Proofs.Ythfpjkboglbcaaa.Sn
set_option linter.unusedVariables false
set_option linter.unusedSimpArgs false
open Go.RowKit Lib0 Kb Sp Sa Sc Se
theorem bnd {x : Int} (h : (Lit.int .i64 x).wf = true) : -9223372036854775808 ≤ x ∧ x ≤ 9223372036854775807 := by
  simp [Lit.wf, IntKind.min, IntKind.max, IntKind.signed, IntKind.bits] at h; omega
/-- Signing -/
def sg (m wa : Int) : Ss := ⟨2, 5, m, 2, wa, 0, 0⟩
theorem ok_sg {m wa : Int} (m1 : 1 ≤ m) (m2 : m ≤ 200) (h0 : 0 ≤ wa) (h1 : wa < m) : OK (sg m wa) := by
  constructor <;> dsimp only [sg] <;> first | omega | (simp; done) | (simp; omega)
theorem sg_ans {m wa : Int} {c o : ByteArray} (h : ¬ (c = t001 ∧ o = t00)) : ansd (sg m wa) c o = sg m wa := by
  unfold ansd ansd0
  rw [if_neg (by rintro (h1 | h1); exact h ⟨h1.2.1, h1.2.2⟩; exact absurd (show (2 : Int) = 4 from h1.1) (by decide))]
  rfl
theorem sg_asked {m wa : Int} {d : ByteArray} (h : d ≠ t002) : asked1 (sg m wa) d = sg m wa := by
  unfold asked1 grant1
  simp [sg, h, heard]
theorem sg_say {m wa : Int} (d : ByteArray) : ∃ r, (r = t00 ∨ r = t12) ∧ asked2 (sg m wa) d = ⟨d, r, false⟩ := by
  refine ⟨grant2 (sg m wa) d, ?_, rfl⟩
  unfold grant2
  split
  · exact .inl rfl
  · exact .inr rfl
theorem sg_tick {m wa : Int} (h : wa + 1 < m) : tick1 (sg m wa) = sg m (wa + 1) ∧ tick2 (sg m wa) = no := by
  constructor <;> simp [tick1, tick2, sg, h]
theorem sg_tock {m wa : Int} (h : ¬ wa + 1 < m) : tick1 (sg m wa) = sg m 0 ∧ tick2 (sg m wa) = asks t001 := by
  constructor <;> simp [tick1, tick2, sg, h]
theorem rem_step {i m wa : Int} (m1 : 1 ≤ m) (i1 : 1 ≤ i) (h : (i - 1) % m = wa) (h1 : wa + 1 < m) : i % m = wa + 1 := by
  have h0 : 0 ≤ wa := by rw [← h]; exact Int.emod_nonneg _ (by omega)
  have e : i = (i - 1) / m * m + (wa + 1) := by have := Int.mul_ediv_add_emod (i - 1) m; rw [h, Int.mul_comm] at this; omega
  rw [e, Int.add_comm, Int.add_mul_emod_self_right]
  exact Int.emod_eq_of_lt (by omega) h1
theorem rem_zero {i m wa : Int} (m1 : 1 ≤ m) (i1 : 1 ≤ i) (h : (i - 1) % m = wa) (h1 : ¬ wa + 1 < m) : i % m = 0 := by
  have h2 : wa < m := by rw [← h]; exact Int.emod_lt_of_pos _ (by omega)
  have e : i = (i - 1) / m * m + m := by have := Int.mul_ediv_add_emod (i - 1) m; rw [h, Int.mul_comm] at this; omega
  rw [e, Int.add_comm, Int.add_mul_emod_self_right]
  exact Int.emod_self
theorem t_small : t00.size = 2 ∧ t12.size = 2 := by decide
set_option maxHeartbeats 12800000 in
set_option maxRecDepth 100000 in
theorem walk (a0 a1 : Int) (a2 a3 : ByteArray) (a4 : Int) (w : World) (w0 : (Lit.int .i64 a0).wf = true) (w1 : (Lit.int .i64 a1).wf = true) (w4 : (Lit.int .i64 a4).wf = true) (k2 : a2.size ≤ 140737488351232) (k3 : a3.size ≤ 140737488351232) :
    Calls Try.prog 6 #[.int .i64 a0, .int .i64 a1, .string a2, .string a3, .int .i64 a4] w fun e w' => e = .returned (.bool true) ∧ Below w.heap.size w w' := by
  have b0 := bnd w0
  have b1 := bnd w1
  have b4 := bnd w4
  have pk0 := fun x => Pick.pick_any a0 200 x b0.1 b0.2 (by decide) (by decide)
  have pk1 := fun x => Pick.pick_any a1 9 x b1.1 b1.2 (by decide) (by decide)
  have pk4 := fun x => Pick.pick_any a4 7 x b4.1 b4.2 (by decide) (by decide)
  have l0 := Pick.pick_lo a0 200 (by decide)
  have h0 := Pick.pick_hi a0 200 (by decide)
  have l1 := Pick.pick_lo a1 9 (by decide)
  have h1 := Pick.pick_hi a1 9 (by decide)
  have l4 := Pick.pick_lo a4 7 (by decide)
  have h4 := Pick.pick_hi a4 7 (by decide)
  generalize Pick.pickOf a0 200 = m0 at *
  generalize Pick.pickOf a1 9 = R at *
  generalize Pick.pickOf a4 7 = A0 at *
  obtain ⟨m, hm⟩ : ∃ m, 1 + m0 = m := ⟨_, rfl⟩
  have m1 : 1 ≤ m := by omega
  have m2 : m ≤ 200 := by omega
  have hI : isS 2 5 m = true := by simp [isS]; omega
  have NW := fun x => new_good hI x
  have p0 : 0 ≤ m * R := Int.mul_nonneg (by omega) l1
  have p1 : m * R ≤ 1600 := by have := Int.mul_le_mul m2 (show R ≤ 8 by omega) l1 (by omega); omega
  have A3 : (1 + A0 == 0) = false := by simp; omega
  have A4 : (1 + A0 == -1) = false := by simp; omega
  have m3 : (m == 0) = false := by simp; omega
  have m4 : (m == -1) = false := by simp; omega
  clear b0 b1 b4 w0 w1 w4 hI h0 h1
  go_enter Try.func6, Try.ntmps6
  go_wp2_with fail
  refine (pk0 _).mono ?_
  rintro e x0 ⟨rfl, hx0⟩
  rw [hx0]
  clear hx0 x0
  go_wp2_with fail
  try rw [hm]
  have HM0 : Hid (1 + m0 = m) := hm
  clear hm l0 pk0
  refine (NW _).mono ?_
  rintro e y ⟨rfl, My, By⟩
  have HY : Hid (Sm 63 y w.heap.size (fresh 2 5 m)) := My
  have HB : Hid (Below w.heap.size w y) := By
  clear My By NW
  obtain ⟨G, hG⟩ : ∃ G, w.heap.size = G := ⟨_, rfl⟩
  have gG : w.heap.size ≤ G := by omega
  rw [hG] at HY
  rw [hG]
  clear hG
  go_wp2_with fail
  refine (up_any HY.out).mono ?_
  rintro e y1 ⟨rfl, My, Fy⟩
  have HM1 : Hid (Sm 63 y1 G (sg m 0)) := My
  have HB1 : Hid (Below w.heap.size w y1) := Fr.under HB.out Fy (by simpa using gG) HB.out.size
  clear My Fy HY HB
  rw [show sayV (up2 (fresh 2 5 m)) = .agg #[.string ⟨#[48, 48, 49]⟩, .string ⟨#[]⟩, .bool false] from rfl]
  go_wp2_with fail
  refine (asks_any t001 _).mono ?_
  rintro e z ⟨rfl, Bz⟩
  have HM2 : Hid (Sm 63 z G (sg m 0)) := (HM1.out.alloc _).below Bz (HM1.out.alloc _).lt
  have HB2 : Hid (Below w.heap.size w z) := Kb.keepB (HB1.out.alloc HB1.out.size _) Bz
  have hX : Hid (z.heap[y1.heap.size]? = some (.cells #[.string ⟨#[48, 48, 49]⟩, .string ⟨#[]⟩, .bool false] 40)) := (Bz.block _ (by simp)).trans (Kb.h1_0 y1 _)
  have gX : y1.heap.size ≠ G := by have := HM1.out.lt; omega
  have lX : w.heap.size ≤ y1.heap.size := HB1.out.size
  obtain ⟨X, hXX⟩ : ∃ X, y1.heap.size = X := ⟨_, rfl⟩
  rw [hXX] at hX gX lX
  rw [hXX]
  clear hXX Bz HM1 HB1
  by_cases hc : a2.toList = [48, 48, 49]
  · have hc1 := tl hc
    subst hc1
    clear hc k2
    by_cases ho : a3.toList = [48, 48]
    · have ho1 := tl ho
      subst ho1
      clear ho k3
      as_aux_lemma =>
        have NCO1 : ¬ ((⟨#[48, 48, 49]⟩ : ByteArray) = t001 ∧ (⟨#[48, 49]⟩ : ByteArray) = t00) := by decide
        have ND1 : (⟨#[48, 48, 49]⟩ : ByteArray) ≠ t002 := by decide
        have NCO : Hid (¬ ((⟨#[48, 48, 49]⟩ : ByteArray) = t001 ∧ (⟨#[48, 49]⟩ : ByteArray) = t00)) := NCO1
        have ND : Hid ((⟨#[48, 48, 49]⟩ : ByteArray) ≠ t002) := ND1
        clear NCO1 ND1
        go_wp2_with fail
        go_loopw [17] (fun iv wr => ∃ (i : Int) (u v t : Value), iv = .int .i64 i ∧ 1 ≤ i ∧ i ≤ m * R + 1 ∧ Sm 63 wr G (sg m ((i - 1) % m)) ∧ Below w.heap.size w wr ∧ wr.heap[X]? = some (.cells #[u, v, t] 40)) (fun iv _ => (m * R + 2 - intOf iv).toNat)
        case atStart => exact ⟨1, _, _, _, rfl, by omega, by omega, by rw [show ((1 : Int) - 1) % m = 0 by simp]; exact HM2.out, HB2.out, hX.out⟩
        case round =>
          obtain ⟨i, u, v, t, rfl, i0, i1, Mi, Bi, Xi⟩ := hrel
          clear HM2 HB2 hX
          obtain ⟨wa, hwa⟩ : ∃ wa, (i - 1) % m = wa := ⟨_, rfl⟩
          have wa0 : 0 ≤ wa := by rw [← hwa]; exact Int.emod_nonneg _ (by omega)
          have wa1 : wa < m := by rw [← hwa]; exact Int.emod_lt_of_pos _ (by omega)
          rw [hwa] at Mi
          have HWA : Hid ((i - 1) % m = wa) := hwa
          have HM : Hid (Sm 63 wr G (sg m wa)) := Mi
          have HB : Hid (Below w.heap.size w wr) := Bi
          have HX : Hid (wr.heap[X]? = some (.cells #[u, v, t] 40)) := Xi
          have HOK : Hid (OK (sg m wa)) := ok_sg m1 m2 wa0 wa1
          clear Mi Bi Xi hwa wa0 wa1
          go_wp2_with fail
          refine (pk1 _).mono ?_
          rintro e x0 ⟨rfl, hx0⟩
          rw [hx0]
          clear hx0 x0
          by_cases hi : i ≤ m * R
          · go_wp2_with fail
            refine (pk4 _).mono ?_
            rintro e x0 ⟨rfl, hx0⟩
            rw [hx0]
            clear hx0 x0
            by_cases hr : i % (1 + A0) = 0
            · have hr1 : (i % (1 + A0) == 0) = true := by simpa using hr
              have hr2 : (i.tmod (1 + A0) == 0) = true := by rw [Int.tmod_eq_emod_of_nonneg (by omega)]; exact hr1
              clear hr
              go_wp2_with fail
              refine (ansd_any HM.out ⟨#[48, 48, 49]⟩ ⟨#[48, 49]⟩).mono ?_
              rintro e y1' ⟨rfl, My, Fy⟩
              rw [sg_ans NCO.out] at My
              have HMa : Hid (Sm 63 y1' G (sg m wa)) := My
              have HBa : Hid (Below w.heap.size w y1') := Fr.under HB.out Fy (by simpa using gG) HB.out.size
              have HXa : Hid (y1'.heap[X]? = some (.cells #[u, v, t] 40)) := res_to HX.out Fy gX
              clear My Fy HM HB HX
              rw [show sayV no = .agg #[.string ⟨#[]⟩, .string ⟨#[]⟩, .bool false] from rfl]
              go_wp2_with fail
              obtain ⟨q1, hq1⟩ : ∃ q1, y1'.alloc (.cells #[.string ⟨#[]⟩, .string ⟨#[]⟩, .bool false] 40) = q1 := ⟨_, rfl⟩
              have HMb : Hid (Sm 63 q1 G (sg m wa)) := hq1 ▸ HMa.out.alloc _
              have HBb : Hid (Below w.heap.size w q1) := hq1 ▸ HBa.out.alloc HBa.out.size _
              have hYb : Hid (q1.heap[y1'.heap.size]? = some (.cells #[.string ⟨#[]⟩, .string ⟨#[]⟩, .bool false] 40)) := hq1 ▸ Kb.h1_0 y1' _
              have HXb : Hid (q1.heap[X]? = some (.cells #[u, v, t] 40)) := hq1 ▸ (Below.heap_alloc _ _ _ (Array.getElem?_eq_some_iff.1 HXa.out).1).trans HXa.out
              have gYb : y1'.heap.size ≠ G := by have := HMa.out.lt; omega
              obtain ⟨Yb, eqYb⟩ : ∃ Yb, y1'.heap.size = Yb := ⟨_, rfl⟩
              rw [eqYb] at hYb gYb
              rw [hq1, eqYb]
              clear hq1 eqYb HMa HBa HXa
              refine (heard_any HMb.out).mono ?_
              rintro e y2 ⟨rfl, My, Fy⟩
              have HMc : Hid (Sm 63 y2 G (sg m wa)) := My
              have HBc : Hid (Below w.heap.size w y2) := Fr.under HBb.out Fy (by simpa using gG) HBb.out.size
              have HXc : Hid (y2.heap[X]? = some (.cells #[u, v, t] 40)) := res_to HXb.out Fy gX
              have hYc : Hid (y2.heap[Yb]? = some (.cells #[.string ⟨#[]⟩, .string ⟨#[]⟩, .bool false] 40)) := res_to hYb.out Fy gYb
              clear My Fy HMb HBb HXb hYb
              go_wp2_with fail
              refine (asked_any HMc.out ⟨#[48, 48, 49]⟩ (by decide)).mono ?_
              rintro e y3 ⟨rfl, My, Fy⟩
              rw [sg_asked ND.out] at My
              have HMd : Hid (Sm 63 y3 G (sg m wa)) := My
              have HBd : Hid (Below w.heap.size w y3) := Fr.under HBc.out Fy (by simpa using gG) HBc.out.size
              have HXd : Hid (y3.heap[X]? = some (.cells #[u, v, t] 40)) := res_to HXc.out Fy gX
              have hYd : Hid (y3.heap[Yb]? = some (.cells #[.string ⟨#[]⟩, .string ⟨#[]⟩, .bool false] 40)) := res_to hYc.out Fy gYb
              clear My Fy HMc HBc HXc hYc
              obtain ⟨rr, hrr, hsay⟩ := sg_say (m := m) (wa := wa) ⟨#[48, 48, 49]⟩
              rw [show sayV (asked2 (sg m wa) ⟨#[48, 48, 49]⟩) = .agg #[.string ⟨#[48, 48, 49]⟩, .string rr, .bool false] by rw [hsay]; rfl]
              have hr0 : (rr.toList == []) = false := by rcases hrr with rfl | rfl <;> (rw [ByteArray.toList_eq]; decide)
              clear hrr hsay
              have hYe : (y3.alloc (.cells #[.string ⟨#[48, 48, 49]⟩, .string rr, .bool false] 40)).heap[Yb]? = some (.cells #[.string ⟨#[]⟩, .string ⟨#[]⟩, .bool false] 40) := (Below.heap_alloc _ _ _ (Array.getElem?_eq_some_iff.1 hYd.out).1).trans hYd.out
              obtain ⟨k0, k1, kk2, _⟩ := cells3 hYe
              clear hYe
              go_wp2_with fail
              obtain ⟨q3, hq3⟩ : ∃ q3, y3.alloc (.cells #[.string ⟨#[48, 48, 49]⟩, .string rr, .bool false] 40) = q3 := ⟨_, rfl⟩
              have HMe : Hid (Sm 63 q3 G (sg m wa)) := hq3 ▸ HMd.out.alloc _
              have HBe : Hid (Below w.heap.size w q3) := hq3 ▸ HBd.out.alloc HBd.out.size _
              have hZb : Hid (q3.heap[y3.heap.size]? = some (.cells #[.string ⟨#[48, 48, 49]⟩, .string rr, .bool false] 40)) := hq3 ▸ Kb.h1_0 y3 _
              have HXe : Hid (q3.heap[X]? = some (.cells #[u, v, t] 40)) := hq3 ▸ (Below.heap_alloc _ _ _ (Array.getElem?_eq_some_iff.1 HXd.out).1).trans HXd.out
              have gZb : y3.heap.size ≠ G := by have := HMd.out.lt; omega
              obtain ⟨Zb, eqZb⟩ : ∃ Zb, y3.heap.size = Zb := ⟨_, rfl⟩
              rw [eqZb] at hZb gZb
              rw [hq3, eqZb]
              clear hq3 eqZb HMd HBd HXd
              clear k0 k1 kk2 hYd
              refine (nothing_no _).mono ?_
              rintro e z3 ⟨rfl, Bz⟩
              have HMf : Hid (Sm 63 z3 G (sg m wa)) := HMe.out.below Bz HMe.out.lt
              have HBf : Hid (Below w.heap.size w z3) := Kb.keepB HBe.out Bz
              have HXf : Hid (z3.heap[X]? = some (.cells #[u, v, t] 40)) := (Bz.block _ (Array.getElem?_eq_some_iff.1 HXe.out).1).trans HXe.out
              have hZf := (Bz.block _ (Array.getElem?_eq_some_iff.1 hZb.out).1).trans hZb.out
              obtain ⟨k0, k1, kk2, _⟩ := cells3 hZf
              clear Bz HMe HBe HXe hZb hZf
              go_wp2_with fail
              clear k0 k1 kk2
              by_cases hw : wa + 1 < m
              · refine (tick_any HMf.out HOK.out).mono ?_
                rintro e y5 ⟨rfl, My, Fy⟩
                rw [(sg_tick hw).1] at My
                have HM5 : Hid (Sm 63 y5 G (sg m (wa + 1))) := My
                have HB5 : Hid (Below w.heap.size w y5) := Fr.under HBf.out Fy (by simpa using gG) HBf.out.size
                have HX5 : Hid (y5.heap[X]? = some (.cells #[u, v, t] 40)) := res_to HXf.out Fy gX
                clear My Fy HMf HBf HXf
                obtain ⟨j0, j1, j2, jf⟩ := cells3 HX5.out
                have jf0 := jf 0
                have jf1 := jf 1
                have jf2 := jf 2
                clear jf
                rw [show sayV (tick2 (sg m wa)) = .agg #[.string ⟨#[]⟩, .string ⟨#[]⟩, .bool false] by rw [(sg_tick hw).2]; rfl]
                go_wp2_with fail
                obtain ⟨q5, hq5⟩ : ∃ q5, ((y5.setCell ⟨X, 0, none⟩ (.string ⟨#[]⟩)).setCell ⟨X, 1, none⟩ (.string ⟨#[]⟩)).setCell ⟨X, 2, none⟩ (.bool false) = q5 := ⟨_, rfl⟩
                have HM6 : Hid (Sm 63 q5 G (sg m (wa + 1))) := hq5 ▸ sm_set3 HM5.out gX _ _ _
                have HB6 : Hid (Below w.heap.size w q5) := hq5 ▸ ((HB5.out.setCell (p := ⟨X, 0, none⟩) lX _).setCell (p := ⟨X, 1, none⟩) lX _).setCell (p := ⟨X, 2, none⟩) lX _
                have HX6 : Hid (q5.heap[X]? = some (.cells #[.string ⟨#[]⟩, .string ⟨#[]⟩, .bool false] 40)) := hq5 ▸ setCell_heap (setCell_heap (setCell_heap HX5.out 0 _) 1 _) 2 _
                rw [hq5]
                clear hq5 HM5 HB5 HX5 j0 j1 j2 jf0 jf1 jf2
                refine (nothing_no _).mono ?_
                rintro e z6 ⟨rfl, Bz⟩
                have HM7 : Hid (Sm 63 z6 G (sg m (wa + 1))) := HM6.out.below Bz HM6.out.lt
                have HB7 : Hid (Below w.heap.size w z6) := Kb.keepB HB6.out Bz
                have HX7 : Hid (z6.heap[X]? = some (.cells #[.string ⟨#[]⟩, .string ⟨#[]⟩, .bool false] 40)) := (Bz.block _ (Array.getElem?_eq_some_iff.1 HX6.out).1).trans HX6.out
                clear Bz HM6 HB6 HX6
                obtain ⟨j0, j1, j2, _⟩ := cells3 HX7.out
                have e1 : i % m = wa + 1 := rem_step m1 i0 HWA.out (by omega)
                have wa0 : 0 ≤ wa := by rw [← HWA.out]; exact Int.emod_nonneg _ (by omega)
                have e2 : (i % m == 0) = false := by rw [e1]; simp; omega
                have e3 : (i.tmod m == 0) = false := by rw [Int.tmod_eq_emod_of_nonneg (by omega)]; exact e2
                replace e1 : Hid (i % m = wa + 1) := e1
                go_wp2_with fail
                refine (state_any HM7.out).mono ?_
                rintro e x0 ⟨rfl, hx0⟩
                rw [hx0]
                clear hx0 x0
                rw [show (sg m (wa + 1)).st = 2 from rfl]
                go_wp2_with fail
                refine (ready_any HM7.out).mono ?_
                rintro e x0 ⟨rfl, hx0⟩
                rw [hx0, show decide ((sg m (wa + 1)).st = 3 ∨ (sg m (wa + 1)).st = 4) = false from rfl]
                clear hx0 x0
                go_wp2_with fail
                refine ⟨⟨i + 1, _, _, _, by simp, by omega, by omega, by rw [show i + 1 - 1 = i by omega, e1.out]; exact HM7.out, HB7.out, HX7.out⟩, ?_⟩
                simp only [intOf]
                omega
              · refine (tick_any HMf.out HOK.out).mono ?_
                rintro e y5 ⟨rfl, My, Fy⟩
                rw [(sg_tock hw).1] at My
                have HM5 : Hid (Sm 63 y5 G (sg m 0)) := My
                have HB5 : Hid (Below w.heap.size w y5) := Fr.under HBf.out Fy (by simpa using gG) HBf.out.size
                have HX5 : Hid (y5.heap[X]? = some (.cells #[u, v, t] 40)) := res_to HXf.out Fy gX
                clear My Fy HMf HBf HXf
                obtain ⟨j0, j1, j2, jf⟩ := cells3 HX5.out
                have jf0 := jf 0
                have jf1 := jf 1
                have jf2 := jf 2
                clear jf
                rw [show sayV (tick2 (sg m wa)) = .agg #[.string ⟨#[48, 48, 49]⟩, .string ⟨#[]⟩, .bool false] by rw [(sg_tock hw).2]; rfl]
                go_wp2_with fail
                obtain ⟨q5, hq5⟩ : ∃ q5, ((y5.setCell ⟨X, 0, none⟩ (.string ⟨#[48, 48, 49]⟩)).setCell ⟨X, 1, none⟩ (.string ⟨#[]⟩)).setCell ⟨X, 2, none⟩ (.bool false) = q5 := ⟨_, rfl⟩
                have HM6 : Hid (Sm 63 q5 G (sg m 0)) := hq5 ▸ sm_set3 HM5.out gX _ _ _
                have HB6 : Hid (Below w.heap.size w q5) := hq5 ▸ ((HB5.out.setCell (p := ⟨X, 0, none⟩) lX _).setCell (p := ⟨X, 1, none⟩) lX _).setCell (p := ⟨X, 2, none⟩) lX _
                have HX6 : Hid (q5.heap[X]? = some (.cells #[.string ⟨#[48, 48, 49]⟩, .string ⟨#[]⟩, .bool false] 40)) := hq5 ▸ setCell_heap (setCell_heap (setCell_heap HX5.out 0 _) 1 _) 2 _
                rw [hq5]
                clear hq5 HM5 HB5 HX5 j0 j1 j2 jf0 jf1 jf2
                refine (nothing_001 _).mono ?_
                rintro e z6 ⟨rfl, Bz⟩
                have HM7 : Hid (Sm 63 z6 G (sg m 0)) := HM6.out.below Bz HM6.out.lt
                have HB7 : Hid (Below w.heap.size w z6) := Kb.keepB HB6.out Bz
                have HX7 : Hid (z6.heap[X]? = some (.cells #[.string ⟨#[48, 48, 49]⟩, .string ⟨#[]⟩, .bool false] 40)) := (Bz.block _ (Array.getElem?_eq_some_iff.1 HX6.out).1).trans HX6.out
                clear Bz HM6 HB6 HX6
                obtain ⟨j0, j1, j2, _⟩ := cells3 HX7.out
                have e1 : i % m = 0 := rem_zero m1 i0 HWA.out (by omega)
                have e2 : (i % m == 0) = true := by simpa using e1
                have e3 : (i.tmod m == 0) = true := by rw [Int.tmod_eq_emod_of_nonneg (by omega)]; exact e2
                replace e1 : Hid (i % m = 0) := e1
                go_wp2_with fail
                refine (asks_any t001 _).mono ?_
                rintro e z7 ⟨rfl, Bz⟩
                have HM8 : Hid (Sm 63 z7 G (sg m 0)) := HM7.out.below Bz HM7.out.lt
                have HB8 : Hid (Below w.heap.size w z7) := Kb.keepB HB7.out Bz
                have HX8 : Hid (z7.heap[X]? = some (.cells #[.string ⟨#[48, 48, 49]⟩, .string ⟨#[]⟩, .bool false] 40)) := (Bz.block _ (Array.getElem?_eq_some_iff.1 HX7.out).1).trans HX7.out
                clear Bz HM7 HB7 HX7 j0 j1 j2
                go_wp2_with fail
                refine (state_any HM8.out).mono ?_
                rintro e x0 ⟨rfl, hx0⟩
                rw [hx0]
                clear hx0 x0
                rw [show (sg m 0).st = 2 from rfl]
                go_wp2_with fail
                refine (ready_any HM8.out).mono ?_
                rintro e x0 ⟨rfl, hx0⟩
                rw [hx0, show decide ((sg m 0).st = 3 ∨ (sg m 0).st = 4) = false from rfl]
                clear hx0 x0
                go_wp2_with fail
                refine ⟨⟨i + 1, _, _, _, by simp, by omega, by omega, by rw [show i + 1 - 1 = i by omega, e1.out]; exact HM8.out, HB8.out, HX8.out⟩, ?_⟩
                simp only [intOf]
                omega
            · have hr1 : (i % (1 + A0) == 0) = false := by simpa using hr
              have hr2 : (i.tmod (1 + A0) == 0) = false := by rw [Int.tmod_eq_emod_of_nonneg (by omega)]; exact hr1
              clear hr
              go_wp2_with fail
              by_cases hw : wa + 1 < m
              · refine (tick_any HM.out HOK.out).mono ?_
                rintro e y5 ⟨rfl, My, Fy⟩
                rw [(sg_tick hw).1] at My
                have HM5 : Hid (Sm 63 y5 G (sg m (wa + 1))) := My
                have HB5 : Hid (Below w.heap.size w y5) := Fr.under HB.out Fy (by simpa using gG) HB.out.size
                have HX5 : Hid (y5.heap[X]? = some (.cells #[u, v, t] 40)) := res_to HX.out Fy gX
                clear My Fy HM HB HX
                obtain ⟨j0, j1, j2, jf⟩ := cells3 HX5.out
                have jf0 := jf 0
                have jf1 := jf 1
                have jf2 := jf 2
                clear jf
                rw [show sayV (tick2 (sg m wa)) = .agg #[.string ⟨#[]⟩, .string ⟨#[]⟩, .bool false] by rw [(sg_tick hw).2]; rfl]
                go_wp2_with fail
                obtain ⟨q5, hq5⟩ : ∃ q5, ((y5.setCell ⟨X, 0, none⟩ (.string ⟨#[]⟩)).setCell ⟨X, 1, none⟩ (.string ⟨#[]⟩)).setCell ⟨X, 2, none⟩ (.bool false) = q5 := ⟨_, rfl⟩
                have HM6 : Hid (Sm 63 q5 G (sg m (wa + 1))) := hq5 ▸ sm_set3 HM5.out gX _ _ _
                have HB6 : Hid (Below w.heap.size w q5) := hq5 ▸ ((HB5.out.setCell (p := ⟨X, 0, none⟩) lX _).setCell (p := ⟨X, 1, none⟩) lX _).setCell (p := ⟨X, 2, none⟩) lX _
                have HX6 : Hid (q5.heap[X]? = some (.cells #[.string ⟨#[]⟩, .string ⟨#[]⟩, .bool false] 40)) := hq5 ▸ setCell_heap (setCell_heap (setCell_heap HX5.out 0 _) 1 _) 2 _
                rw [hq5]
                clear hq5 HM5 HB5 HX5 j0 j1 j2 jf0 jf1 jf2
                refine (nothing_no _).mono ?_
                rintro e z6 ⟨rfl, Bz⟩
                have HM7 : Hid (Sm 63 z6 G (sg m (wa + 1))) := HM6.out.below Bz HM6.out.lt
                have HB7 : Hid (Below w.heap.size w z6) := Kb.keepB HB6.out Bz
                have HX7 : Hid (z6.heap[X]? = some (.cells #[.string ⟨#[]⟩, .string ⟨#[]⟩, .bool false] 40)) := (Bz.block _ (Array.getElem?_eq_some_iff.1 HX6.out).1).trans HX6.out
                clear Bz HM6 HB6 HX6
                obtain ⟨j0, j1, j2, _⟩ := cells3 HX7.out
                have e1 : i % m = wa + 1 := rem_step m1 i0 HWA.out (by omega)
                have wa0 : 0 ≤ wa := by rw [← HWA.out]; exact Int.emod_nonneg _ (by omega)
                have e2 : (i % m == 0) = false := by rw [e1]; simp; omega
                have e3 : (i.tmod m == 0) = false := by rw [Int.tmod_eq_emod_of_nonneg (by omega)]; exact e2
                replace e1 : Hid (i % m = wa + 1) := e1
                go_wp2_with fail
                refine (state_any HM7.out).mono ?_
                rintro e x0 ⟨rfl, hx0⟩
                rw [hx0]
                clear hx0 x0
                rw [show (sg m (wa + 1)).st = 2 from rfl]
                go_wp2_with fail
                refine (ready_any HM7.out).mono ?_
                rintro e x0 ⟨rfl, hx0⟩
                rw [hx0, show decide ((sg m (wa + 1)).st = 3 ∨ (sg m (wa + 1)).st = 4) = false from rfl]
                clear hx0 x0
                go_wp2_with fail
                refine ⟨⟨i + 1, _, _, _, by simp, by omega, by omega, by rw [show i + 1 - 1 = i by omega, e1.out]; exact HM7.out, HB7.out, HX7.out⟩, ?_⟩
                simp only [intOf]
                omega
              · refine (tick_any HM.out HOK.out).mono ?_
                rintro e y5 ⟨rfl, My, Fy⟩
                rw [(sg_tock hw).1] at My
                have HM5 : Hid (Sm 63 y5 G (sg m 0)) := My
                have HB5 : Hid (Below w.heap.size w y5) := Fr.under HB.out Fy (by simpa using gG) HB.out.size
                have HX5 : Hid (y5.heap[X]? = some (.cells #[u, v, t] 40)) := res_to HX.out Fy gX
                clear My Fy HM HB HX
                obtain ⟨j0, j1, j2, jf⟩ := cells3 HX5.out
                have jf0 := jf 0
                have jf1 := jf 1
                have jf2 := jf 2
                clear jf
                rw [show sayV (tick2 (sg m wa)) = .agg #[.string ⟨#[48, 48, 49]⟩, .string ⟨#[]⟩, .bool false] by rw [(sg_tock hw).2]; rfl]
                go_wp2_with fail
                obtain ⟨q5, hq5⟩ : ∃ q5, ((y5.setCell ⟨X, 0, none⟩ (.string ⟨#[48, 48, 49]⟩)).setCell ⟨X, 1, none⟩ (.string ⟨#[]⟩)).setCell ⟨X, 2, none⟩ (.bool false) = q5 := ⟨_, rfl⟩
                have HM6 : Hid (Sm 63 q5 G (sg m 0)) := hq5 ▸ sm_set3 HM5.out gX _ _ _
                have HB6 : Hid (Below w.heap.size w q5) := hq5 ▸ ((HB5.out.setCell (p := ⟨X, 0, none⟩) lX _).setCell (p := ⟨X, 1, none⟩) lX _).setCell (p := ⟨X, 2, none⟩) lX _
                have HX6 : Hid (q5.heap[X]? = some (.cells #[.string ⟨#[48, 48, 49]⟩, .string ⟨#[]⟩, .bool false] 40)) := hq5 ▸ setCell_heap (setCell_heap (setCell_heap HX5.out 0 _) 1 _) 2 _
                rw [hq5]
                clear hq5 HM5 HB5 HX5 j0 j1 j2 jf0 jf1 jf2
                refine (nothing_001 _).mono ?_
                rintro e z6 ⟨rfl, Bz⟩
                have HM7 : Hid (Sm 63 z6 G (sg m 0)) := HM6.out.below Bz HM6.out.lt
                have HB7 : Hid (Below w.heap.size w z6) := Kb.keepB HB6.out Bz
                have HX7 : Hid (z6.heap[X]? = some (.cells #[.string ⟨#[48, 48, 49]⟩, .string ⟨#[]⟩, .bool false] 40)) := (Bz.block _ (Array.getElem?_eq_some_iff.1 HX6.out).1).trans HX6.out
                clear Bz HM6 HB6 HX6
                obtain ⟨j0, j1, j2, _⟩ := cells3 HX7.out
                have e1 : i % m = 0 := rem_zero m1 i0 HWA.out (by omega)
                have e2 : (i % m == 0) = true := by simpa using e1
                have e3 : (i.tmod m == 0) = true := by rw [Int.tmod_eq_emod_of_nonneg (by omega)]; exact e2
                replace e1 : Hid (i % m = 0) := e1
                go_wp2_with fail
                refine (asks_any t001 _).mono ?_
                rintro e z7 ⟨rfl, Bz⟩
                have HM8 : Hid (Sm 63 z7 G (sg m 0)) := HM7.out.below Bz HM7.out.lt
                have HB8 : Hid (Below w.heap.size w z7) := Kb.keepB HB7.out Bz
                have HX8 : Hid (z7.heap[X]? = some (.cells #[.string ⟨#[48, 48, 49]⟩, .string ⟨#[]⟩, .bool false] 40)) := (Bz.block _ (Array.getElem?_eq_some_iff.1 HX7.out).1).trans HX7.out
                clear Bz HM7 HB7 HX7 j0 j1 j2
                go_wp2_with fail
                refine (state_any HM8.out).mono ?_
                rintro e x0 ⟨rfl, hx0⟩
                rw [hx0]
                clear hx0 x0
                rw [show (sg m 0).st = 2 from rfl]
                go_wp2_with fail
                refine (ready_any HM8.out).mono ?_
                rintro e x0 ⟨rfl, hx0⟩
                rw [hx0, show decide ((sg m 0).st = 3 ∨ (sg m 0).st = 4) = false from rfl]
                clear hx0 x0
                go_wp2_with fail
                refine ⟨⟨i + 1, _, _, _, by simp, by omega, by omega, by rw [show i + 1 - 1 = i by omega, e1.out]; exact HM8.out, HB8.out, HX8.out⟩, ?_⟩
                simp only [intOf]
                omega
          · go_wp2_with fail
            refine (ansd_any HM.out t001 t00).mono ?_
            rintro e y9 ⟨rfl, My, Fy⟩
            have HM9 : Hid (Sm 63 y9 G ⟨2, 5, m, 3, wa, 0, 0⟩) := My
            have HB9 : Hid (Below w.heap.size w y9) := Fr.under HB.out Fy (by simpa using gG) HB.out.size
            clear My Fy HM HB HX
            rw [show sayV no = .agg #[.string ⟨#[]⟩, .string ⟨#[]⟩, .bool false] from rfl]
            go_wp2_with fail
            refine (nothing_no _).mono ?_
            rintro e z9 ⟨rfl, Bz⟩
            have HMz : Hid (Sm 63 z9 G ⟨2, 5, m, 3, wa, 0, 0⟩) := (HM9.out.alloc _).below Bz (HM9.out.alloc _).lt
            have HBz : Hid (Below w.heap.size w z9) := Kb.keepB (HB9.out.alloc HB9.out.size _) Bz
            clear Bz HM9 HB9
            go_wp2_with fail
            refine (state_any HMz.out).mono ?_
            rintro e x0 ⟨rfl, hx0⟩
            rw [hx0]
            clear hx0 x0
            go_wp2_with fail
            refine (ready_any HMz.out).mono ?_
            rintro e x0 ⟨rfl, hx0⟩
            rw [hx0]
            clear hx0 x0
            go_wp2_with fail
            go_ret
            exact ⟨rfl, HBz.out⟩
    · have o1 : (a3.toList == [48, 48]) = false := by simpa using ho
      have NCO0 : ¬ ((⟨#[48, 48, 49]⟩ : ByteArray) = t001 ∧ a3 = t00) := fun h => ne_code ho h.2
      clear ho
      as_aux_lemma =>
        have NCO1 : ¬ ((⟨#[48, 48, 49]⟩ : ByteArray) = t001 ∧ (a3 : ByteArray) = t00) := NCO0
        have ND1 : (⟨#[48, 48, 49]⟩ : ByteArray) ≠ t002 := by decide
        have NCO : Hid (¬ ((⟨#[48, 48, 49]⟩ : ByteArray) = t001 ∧ (a3 : ByteArray) = t00)) := NCO1
        have ND : Hid ((⟨#[48, 48, 49]⟩ : ByteArray) ≠ t002) := ND1
        clear NCO1 ND1
        clear NCO0
        go_wp2_with fail
        go_loopw [17] (fun iv wr => ∃ (i : Int) (u v t : Value), iv = .int .i64 i ∧ 1 ≤ i ∧ i ≤ m * R + 1 ∧ Sm 63 wr G (sg m ((i - 1) % m)) ∧ Below w.heap.size w wr ∧ wr.heap[X]? = some (.cells #[u, v, t] 40)) (fun iv _ => (m * R + 2 - intOf iv).toNat)
        case atStart => exact ⟨1, _, _, _, rfl, by omega, by omega, by rw [show ((1 : Int) - 1) % m = 0 by simp]; exact HM2.out, HB2.out, hX.out⟩
        case round =>
          obtain ⟨i, u, v, t, rfl, i0, i1, Mi, Bi, Xi⟩ := hrel
          clear HM2 HB2 hX
          obtain ⟨wa, hwa⟩ : ∃ wa, (i - 1) % m = wa := ⟨_, rfl⟩
          have wa0 : 0 ≤ wa := by rw [← hwa]; exact Int.emod_nonneg _ (by omega)
          have wa1 : wa < m := by rw [← hwa]; exact Int.emod_lt_of_pos _ (by omega)
          rw [hwa] at Mi
          have HWA : Hid ((i - 1) % m = wa) := hwa
          have HM : Hid (Sm 63 wr G (sg m wa)) := Mi
          have HB : Hid (Below w.heap.size w wr) := Bi
          have HX : Hid (wr.heap[X]? = some (.cells #[u, v, t] 40)) := Xi
          have HOK : Hid (OK (sg m wa)) := ok_sg m1 m2 wa0 wa1
          clear Mi Bi Xi hwa wa0 wa1
          go_wp2_with fail
          refine (pk1 _).mono ?_
          rintro e x0 ⟨rfl, hx0⟩
          rw [hx0]
          clear hx0 x0
          by_cases hi : i ≤ m * R
          · go_wp2_with fail
            refine (pk4 _).mono ?_
            rintro e x0 ⟨rfl, hx0⟩
            rw [hx0]
            clear hx0 x0
            by_cases hr : i % (1 + A0) = 0
            · have hr1 : (i % (1 + A0) == 0) = true := by simpa using hr
              have hr2 : (i.tmod (1 + A0) == 0) = true := by rw [Int.tmod_eq_emod_of_nonneg (by omega)]; exact hr1
              clear hr
              go_wp2_with fail
              refine (ansd_any HM.out ⟨#[48, 48, 49]⟩ a3).mono ?_
              rintro e y1' ⟨rfl, My, Fy⟩
              rw [sg_ans NCO.out] at My
              have HMa : Hid (Sm 63 y1' G (sg m wa)) := My
              have HBa : Hid (Below w.heap.size w y1') := Fr.under HB.out Fy (by simpa using gG) HB.out.size
              have HXa : Hid (y1'.heap[X]? = some (.cells #[u, v, t] 40)) := res_to HX.out Fy gX
              clear My Fy HM HB HX
              rw [show sayV no = .agg #[.string ⟨#[]⟩, .string ⟨#[]⟩, .bool false] from rfl]
              go_wp2_with fail
              obtain ⟨q1, hq1⟩ : ∃ q1, y1'.alloc (.cells #[.string ⟨#[]⟩, .string ⟨#[]⟩, .bool false] 40) = q1 := ⟨_, rfl⟩
              have HMb : Hid (Sm 63 q1 G (sg m wa)) := hq1 ▸ HMa.out.alloc _
              have HBb : Hid (Below w.heap.size w q1) := hq1 ▸ HBa.out.alloc HBa.out.size _
              have hYb : Hid (q1.heap[y1'.heap.size]? = some (.cells #[.string ⟨#[]⟩, .string ⟨#[]⟩, .bool false] 40)) := hq1 ▸ Kb.h1_0 y1' _
              have HXb : Hid (q1.heap[X]? = some (.cells #[u, v, t] 40)) := hq1 ▸ (Below.heap_alloc _ _ _ (Array.getElem?_eq_some_iff.1 HXa.out).1).trans HXa.out
              have gYb : y1'.heap.size ≠ G := by have := HMa.out.lt; omega
              obtain ⟨Yb, eqYb⟩ : ∃ Yb, y1'.heap.size = Yb := ⟨_, rfl⟩
              rw [eqYb] at hYb gYb
              rw [hq1, eqYb]
              clear hq1 eqYb HMa HBa HXa
              refine (heard_any HMb.out).mono ?_
              rintro e y2 ⟨rfl, My, Fy⟩
              have HMc : Hid (Sm 63 y2 G (sg m wa)) := My
              have HBc : Hid (Below w.heap.size w y2) := Fr.under HBb.out Fy (by simpa using gG) HBb.out.size
              have HXc : Hid (y2.heap[X]? = some (.cells #[u, v, t] 40)) := res_to HXb.out Fy gX
              have hYc : Hid (y2.heap[Yb]? = some (.cells #[.string ⟨#[]⟩, .string ⟨#[]⟩, .bool false] 40)) := res_to hYb.out Fy gYb
              clear My Fy HMb HBb HXb hYb
              go_wp2_with fail
              refine (asked_any HMc.out ⟨#[48, 48, 49]⟩ (by decide)).mono ?_
              rintro e y3 ⟨rfl, My, Fy⟩
              rw [sg_asked ND.out] at My
              have HMd : Hid (Sm 63 y3 G (sg m wa)) := My
              have HBd : Hid (Below w.heap.size w y3) := Fr.under HBc.out Fy (by simpa using gG) HBc.out.size
              have HXd : Hid (y3.heap[X]? = some (.cells #[u, v, t] 40)) := res_to HXc.out Fy gX
              have hYd : Hid (y3.heap[Yb]? = some (.cells #[.string ⟨#[]⟩, .string ⟨#[]⟩, .bool false] 40)) := res_to hYc.out Fy gYb
              clear My Fy HMc HBc HXc hYc
              obtain ⟨rr, hrr, hsay⟩ := sg_say (m := m) (wa := wa) ⟨#[48, 48, 49]⟩
              rw [show sayV (asked2 (sg m wa) ⟨#[48, 48, 49]⟩) = .agg #[.string ⟨#[48, 48, 49]⟩, .string rr, .bool false] by rw [hsay]; rfl]
              have hr0 : (rr.toList == []) = false := by rcases hrr with rfl | rfl <;> (rw [ByteArray.toList_eq]; decide)
              clear hrr hsay
              have hYe : (y3.alloc (.cells #[.string ⟨#[48, 48, 49]⟩, .string rr, .bool false] 40)).heap[Yb]? = some (.cells #[.string ⟨#[]⟩, .string ⟨#[]⟩, .bool false] 40) := (Below.heap_alloc _ _ _ (Array.getElem?_eq_some_iff.1 hYd.out).1).trans hYd.out
              obtain ⟨k0, k1, kk2, _⟩ := cells3 hYe
              clear hYe
              go_wp2_with fail
              obtain ⟨q3, hq3⟩ : ∃ q3, y3.alloc (.cells #[.string ⟨#[48, 48, 49]⟩, .string rr, .bool false] 40) = q3 := ⟨_, rfl⟩
              have HMe : Hid (Sm 63 q3 G (sg m wa)) := hq3 ▸ HMd.out.alloc _
              have HBe : Hid (Below w.heap.size w q3) := hq3 ▸ HBd.out.alloc HBd.out.size _
              have hZb : Hid (q3.heap[y3.heap.size]? = some (.cells #[.string ⟨#[48, 48, 49]⟩, .string rr, .bool false] 40)) := hq3 ▸ Kb.h1_0 y3 _
              have HXe : Hid (q3.heap[X]? = some (.cells #[u, v, t] 40)) := hq3 ▸ (Below.heap_alloc _ _ _ (Array.getElem?_eq_some_iff.1 HXd.out).1).trans HXd.out
              have gZb : y3.heap.size ≠ G := by have := HMd.out.lt; omega
              obtain ⟨Zb, eqZb⟩ : ∃ Zb, y3.heap.size = Zb := ⟨_, rfl⟩
              rw [eqZb] at hZb gZb
              rw [hq3, eqZb]
              clear hq3 eqZb HMd HBd HXd
              clear k0 k1 kk2 hYd
              refine (nothing_no _).mono ?_
              rintro e z3 ⟨rfl, Bz⟩
              have HMf : Hid (Sm 63 z3 G (sg m wa)) := HMe.out.below Bz HMe.out.lt
              have HBf : Hid (Below w.heap.size w z3) := Kb.keepB HBe.out Bz
              have HXf : Hid (z3.heap[X]? = some (.cells #[u, v, t] 40)) := (Bz.block _ (Array.getElem?_eq_some_iff.1 HXe.out).1).trans HXe.out
              have hZf := (Bz.block _ (Array.getElem?_eq_some_iff.1 hZb.out).1).trans hZb.out
              obtain ⟨k0, k1, kk2, _⟩ := cells3 hZf
              clear Bz HMe HBe HXe hZb hZf
              go_wp2_with fail
              clear k0 k1 kk2
              by_cases hw : wa + 1 < m
              · refine (tick_any HMf.out HOK.out).mono ?_
                rintro e y5 ⟨rfl, My, Fy⟩
                rw [(sg_tick hw).1] at My
                have HM5 : Hid (Sm 63 y5 G (sg m (wa + 1))) := My
                have HB5 : Hid (Below w.heap.size w y5) := Fr.under HBf.out Fy (by simpa using gG) HBf.out.size
                have HX5 : Hid (y5.heap[X]? = some (.cells #[u, v, t] 40)) := res_to HXf.out Fy gX
                clear My Fy HMf HBf HXf
                obtain ⟨j0, j1, j2, jf⟩ := cells3 HX5.out
                have jf0 := jf 0
                have jf1 := jf 1
                have jf2 := jf 2
                clear jf
                rw [show sayV (tick2 (sg m wa)) = .agg #[.string ⟨#[]⟩, .string ⟨#[]⟩, .bool false] by rw [(sg_tick hw).2]; rfl]
                go_wp2_with fail
                obtain ⟨q5, hq5⟩ : ∃ q5, ((y5.setCell ⟨X, 0, none⟩ (.string ⟨#[]⟩)).setCell ⟨X, 1, none⟩ (.string ⟨#[]⟩)).setCell ⟨X, 2, none⟩ (.bool false) = q5 := ⟨_, rfl⟩
                have HM6 : Hid (Sm 63 q5 G (sg m (wa + 1))) := hq5 ▸ sm_set3 HM5.out gX _ _ _
                have HB6 : Hid (Below w.heap.size w q5) := hq5 ▸ ((HB5.out.setCell (p := ⟨X, 0, none⟩) lX _).setCell (p := ⟨X, 1, none⟩) lX _).setCell (p := ⟨X, 2, none⟩) lX _
                have HX6 : Hid (q5.heap[X]? = some (.cells #[.string ⟨#[]⟩, .string ⟨#[]⟩, .bool false] 40)) := hq5 ▸ setCell_heap (setCell_heap (setCell_heap HX5.out 0 _) 1 _) 2 _
                rw [hq5]
                clear hq5 HM5 HB5 HX5 j0 j1 j2 jf0 jf1 jf2
                refine (nothing_no _).mono ?_
                rintro e z6 ⟨rfl, Bz⟩
                have HM7 : Hid (Sm 63 z6 G (sg m (wa + 1))) := HM6.out.below Bz HM6.out.lt
                have HB7 : Hid (Below w.heap.size w z6) := Kb.keepB HB6.out Bz
                have HX7 : Hid (z6.heap[X]? = some (.cells #[.string ⟨#[]⟩, .string ⟨#[]⟩, .bool false] 40)) := (Bz.block _ (Array.getElem?_eq_some_iff.1 HX6.out).1).trans HX6.out
                clear Bz HM6 HB6 HX6
                obtain ⟨j0, j1, j2, _⟩ := cells3 HX7.out
                have e1 : i % m = wa + 1 := rem_step m1 i0 HWA.out (by omega)
                have wa0 : 0 ≤ wa := by rw [← HWA.out]; exact Int.emod_nonneg _ (by omega)
                have e2 : (i % m == 0) = false := by rw [e1]; simp; omega
                have e3 : (i.tmod m == 0) = false := by rw [Int.tmod_eq_emod_of_nonneg (by omega)]; exact e2
                replace e1 : Hid (i % m = wa + 1) := e1
                go_wp2_with fail
                refine (state_any HM7.out).mono ?_
                rintro e x0 ⟨rfl, hx0⟩
                rw [hx0]
                clear hx0 x0
                rw [show (sg m (wa + 1)).st = 2 from rfl]
                go_wp2_with fail
                refine (ready_any HM7.out).mono ?_
                rintro e x0 ⟨rfl, hx0⟩
                rw [hx0, show decide ((sg m (wa + 1)).st = 3 ∨ (sg m (wa + 1)).st = 4) = false from rfl]
                clear hx0 x0
                go_wp2_with fail
                refine ⟨⟨i + 1, _, _, _, by simp, by omega, by omega, by rw [show i + 1 - 1 = i by omega, e1.out]; exact HM7.out, HB7.out, HX7.out⟩, ?_⟩
                simp only [intOf]
                omega
              · refine (tick_any HMf.out HOK.out).mono ?_
                rintro e y5 ⟨rfl, My, Fy⟩
                rw [(sg_tock hw).1] at My
                have HM5 : Hid (Sm 63 y5 G (sg m 0)) := My
                have HB5 : Hid (Below w.heap.size w y5) := Fr.under HBf.out Fy (by simpa using gG) HBf.out.size
                have HX5 : Hid (y5.heap[X]? = some (.cells #[u, v, t] 40)) := res_to HXf.out Fy gX
                clear My Fy HMf HBf HXf
                obtain ⟨j0, j1, j2, jf⟩ := cells3 HX5.out
                have jf0 := jf 0
                have jf1 := jf 1
                have jf2 := jf 2
                clear jf
                rw [show sayV (tick2 (sg m wa)) = .agg #[.string ⟨#[48, 48, 49]⟩, .string ⟨#[]⟩, .bool false] by rw [(sg_tock hw).2]; rfl]
                go_wp2_with fail
                obtain ⟨q5, hq5⟩ : ∃ q5, ((y5.setCell ⟨X, 0, none⟩ (.string ⟨#[48, 48, 49]⟩)).setCell ⟨X, 1, none⟩ (.string ⟨#[]⟩)).setCell ⟨X, 2, none⟩ (.bool false) = q5 := ⟨_, rfl⟩
                have HM6 : Hid (Sm 63 q5 G (sg m 0)) := hq5 ▸ sm_set3 HM5.out gX _ _ _
                have HB6 : Hid (Below w.heap.size w q5) := hq5 ▸ ((HB5.out.setCell (p := ⟨X, 0, none⟩) lX _).setCell (p := ⟨X, 1, none⟩) lX _).setCell (p := ⟨X, 2, none⟩) lX _
                have HX6 : Hid (q5.heap[X]? = some (.cells #[.string ⟨#[48, 48, 49]⟩, .string ⟨#[]⟩, .bool false] 40)) := hq5 ▸ setCell_heap (setCell_heap (setCell_heap HX5.out 0 _) 1 _) 2 _
                rw [hq5]
                clear hq5 HM5 HB5 HX5 j0 j1 j2 jf0 jf1 jf2
                refine (nothing_001 _).mono ?_
                rintro e z6 ⟨rfl, Bz⟩
                have HM7 : Hid (Sm 63 z6 G (sg m 0)) := HM6.out.below Bz HM6.out.lt
                have HB7 : Hid (Below w.heap.size w z6) := Kb.keepB HB6.out Bz
                have HX7 : Hid (z6.heap[X]? = some (.cells #[.string ⟨#[48, 48, 49]⟩, .string ⟨#[]⟩, .bool false] 40)) := (Bz.block _ (Array.getElem?_eq_some_iff.1 HX6.out).1).trans HX6.out
                clear Bz HM6 HB6 HX6
                obtain ⟨j0, j1, j2, _⟩ := cells3 HX7.out
                have e1 : i % m = 0 := rem_zero m1 i0 HWA.out (by omega)
                have e2 : (i % m == 0) = true := by simpa using e1
                have e3 : (i.tmod m == 0) = true := by rw [Int.tmod_eq_emod_of_nonneg (by omega)]; exact e2
                replace e1 : Hid (i % m = 0) := e1
                go_wp2_with fail
                refine (asks_any t001 _).mono ?_
                rintro e z7 ⟨rfl, Bz⟩
                have HM8 : Hid (Sm 63 z7 G (sg m 0)) := HM7.out.below Bz HM7.out.lt
                have HB8 : Hid (Below w.heap.size w z7) := Kb.keepB HB7.out Bz
                have HX8 : Hid (z7.heap[X]? = some (.cells #[.string ⟨#[48, 48, 49]⟩, .string ⟨#[]⟩, .bool false] 40)) := (Bz.block _ (Array.getElem?_eq_some_iff.1 HX7.out).1).trans HX7.out
                clear Bz HM7 HB7 HX7 j0 j1 j2
                go_wp2_with fail
                refine (state_any HM8.out).mono ?_
                rintro e x0 ⟨rfl, hx0⟩
                rw [hx0]
                clear hx0 x0
                rw [show (sg m 0).st = 2 from rfl]
                go_wp2_with fail
                refine (ready_any HM8.out).mono ?_
                rintro e x0 ⟨rfl, hx0⟩
                rw [hx0, show decide ((sg m 0).st = 3 ∨ (sg m 0).st = 4) = false from rfl]
                clear hx0 x0
                go_wp2_with fail
                refine ⟨⟨i + 1, _, _, _, by simp, by omega, by omega, by rw [show i + 1 - 1 = i by omega, e1.out]; exact HM8.out, HB8.out, HX8.out⟩, ?_⟩
                simp only [intOf]
                omega
            · have hr1 : (i % (1 + A0) == 0) = false := by simpa using hr
              have hr2 : (i.tmod (1 + A0) == 0) = false := by rw [Int.tmod_eq_emod_of_nonneg (by omega)]; exact hr1
              clear hr
              go_wp2_with fail
              by_cases hw : wa + 1 < m
              · refine (tick_any HM.out HOK.out).mono ?_
                rintro e y5 ⟨rfl, My, Fy⟩
                rw [(sg_tick hw).1] at My
                have HM5 : Hid (Sm 63 y5 G (sg m (wa + 1))) := My
                have HB5 : Hid (Below w.heap.size w y5) := Fr.under HB.out Fy (by simpa using gG) HB.out.size
                have HX5 : Hid (y5.heap[X]? = some (.cells #[u, v, t] 40)) := res_to HX.out Fy gX
                clear My Fy HM HB HX
                obtain ⟨j0, j1, j2, jf⟩ := cells3 HX5.out
                have jf0 := jf 0
                have jf1 := jf 1
                have jf2 := jf 2
                clear jf
                rw [show sayV (tick2 (sg m wa)) = .agg #[.string ⟨#[]⟩, .string ⟨#[]⟩, .bool false] by rw [(sg_tick hw).2]; rfl]
                go_wp2_with fail
                obtain ⟨q5, hq5⟩ : ∃ q5, ((y5.setCell ⟨X, 0, none⟩ (.string ⟨#[]⟩)).setCell ⟨X, 1, none⟩ (.string ⟨#[]⟩)).setCell ⟨X, 2, none⟩ (.bool false) = q5 := ⟨_, rfl⟩
                have HM6 : Hid (Sm 63 q5 G (sg m (wa + 1))) := hq5 ▸ sm_set3 HM5.out gX _ _ _
                have HB6 : Hid (Below w.heap.size w q5) := hq5 ▸ ((HB5.out.setCell (p := ⟨X, 0, none⟩) lX _).setCell (p := ⟨X, 1, none⟩) lX _).setCell (p := ⟨X, 2, none⟩) lX _
                have HX6 : Hid (q5.heap[X]? = some (.cells #[.string ⟨#[]⟩, .string ⟨#[]⟩, .bool false] 40)) := hq5 ▸ setCell_heap (setCell_heap (setCell_heap HX5.out 0 _) 1 _) 2 _
                rw [hq5]
                clear hq5 HM5 HB5 HX5 j0 j1 j2 jf0 jf1 jf2
                refine (nothing_no _).mono ?_
                rintro e z6 ⟨rfl, Bz⟩
                have HM7 : Hid (Sm 63 z6 G (sg m (wa + 1))) := HM6.out.below Bz HM6.out.lt
                have HB7 : Hid (Below w.heap.size w z6) := Kb.keepB HB6.out Bz
                have HX7 : Hid (z6.heap[X]? = some (.cells #[.string ⟨#[]⟩, .string ⟨#[]⟩, .bool false] 40)) := (Bz.block _ (Array.getElem?_eq_some_iff.1 HX6.out).1).trans HX6.out
                clear Bz HM6 HB6 HX6
                obtain ⟨j0, j1, j2, _⟩ := cells3 HX7.out
                have e1 : i % m = wa + 1 := rem_step m1 i0 HWA.out (by omega)
                have wa0 : 0 ≤ wa := by rw [← HWA.out]; exact Int.emod_nonneg _ (by omega)
                have e2 : (i % m == 0) = false := by rw [e1]; simp; omega
                have e3 : (i.tmod m == 0) = false := by rw [Int.tmod_eq_emod_of_nonneg (by omega)]; exact e2
                replace e1 : Hid (i % m = wa + 1) := e1
                go_wp2_with fail
                refine (state_any HM7.out).mono ?_
                rintro e x0 ⟨rfl, hx0⟩
                rw [hx0]
                clear hx0 x0
                rw [show (sg m (wa + 1)).st = 2 from rfl]
                go_wp2_with fail
                refine (ready_any HM7.out).mono ?_
                rintro e x0 ⟨rfl, hx0⟩
                rw [hx0, show decide ((sg m (wa + 1)).st = 3 ∨ (sg m (wa + 1)).st = 4) = false from rfl]
                clear hx0 x0
                go_wp2_with fail
                refine ⟨⟨i + 1, _, _, _, by simp, by omega, by omega, by rw [show i + 1 - 1 = i by omega, e1.out]; exact HM7.out, HB7.out, HX7.out⟩, ?_⟩
                simp only [intOf]
                omega
              · refine (tick_any HM.out HOK.out).mono ?_
                rintro e y5 ⟨rfl, My, Fy⟩
                rw [(sg_tock hw).1] at My
                have HM5 : Hid (Sm 63 y5 G (sg m 0)) := My
                have HB5 : Hid (Below w.heap.size w y5) := Fr.under HB.out Fy (by simpa using gG) HB.out.size
                have HX5 : Hid (y5.heap[X]? = some (.cells #[u, v, t] 40)) := res_to HX.out Fy gX
                clear My Fy HM HB HX
                obtain ⟨j0, j1, j2, jf⟩ := cells3 HX5.out
                have jf0 := jf 0
                have jf1 := jf 1
                have jf2 := jf 2
                clear jf
                rw [show sayV (tick2 (sg m wa)) = .agg #[.string ⟨#[48, 48, 49]⟩, .string ⟨#[]⟩, .bool false] by rw [(sg_tock hw).2]; rfl]
                go_wp2_with fail
                obtain ⟨q5, hq5⟩ : ∃ q5, ((y5.setCell ⟨X, 0, none⟩ (.string ⟨#[48, 48, 49]⟩)).setCell ⟨X, 1, none⟩ (.string ⟨#[]⟩)).setCell ⟨X, 2, none⟩ (.bool false) = q5 := ⟨_, rfl⟩
                have HM6 : Hid (Sm 63 q5 G (sg m 0)) := hq5 ▸ sm_set3 HM5.out gX _ _ _
                have HB6 : Hid (Below w.heap.size w q5) := hq5 ▸ ((HB5.out.setCell (p := ⟨X, 0, none⟩) lX _).setCell (p := ⟨X, 1, none⟩) lX _).setCell (p := ⟨X, 2, none⟩) lX _
                have HX6 : Hid (q5.heap[X]? = some (.cells #[.string ⟨#[48, 48, 49]⟩, .string ⟨#[]⟩, .bool false] 40)) := hq5 ▸ setCell_heap (setCell_heap (setCell_heap HX5.out 0 _) 1 _) 2 _
                rw [hq5]
                clear hq5 HM5 HB5 HX5 j0 j1 j2 jf0 jf1 jf2
                refine (nothing_001 _).mono ?_
                rintro e z6 ⟨rfl, Bz⟩
                have HM7 : Hid (Sm 63 z6 G (sg m 0)) := HM6.out.below Bz HM6.out.lt
                have HB7 : Hid (Below w.heap.size w z6) := Kb.keepB HB6.out Bz
                have HX7 : Hid (z6.heap[X]? = some (.cells #[.string ⟨#[48, 48, 49]⟩, .string ⟨#[]⟩, .bool false] 40)) := (Bz.block _ (Array.getElem?_eq_some_iff.1 HX6.out).1).trans HX6.out
                clear Bz HM6 HB6 HX6
                obtain ⟨j0, j1, j2, _⟩ := cells3 HX7.out
                have e1 : i % m = 0 := rem_zero m1 i0 HWA.out (by omega)
                have e2 : (i % m == 0) = true := by simpa using e1
                have e3 : (i.tmod m == 0) = true := by rw [Int.tmod_eq_emod_of_nonneg (by omega)]; exact e2
                replace e1 : Hid (i % m = 0) := e1
                go_wp2_with fail
                refine (asks_any t001 _).mono ?_
                rintro e z7 ⟨rfl, Bz⟩
                have HM8 : Hid (Sm 63 z7 G (sg m 0)) := HM7.out.below Bz HM7.out.lt
                have HB8 : Hid (Below w.heap.size w z7) := Kb.keepB HB7.out Bz
                have HX8 : Hid (z7.heap[X]? = some (.cells #[.string ⟨#[48, 48, 49]⟩, .string ⟨#[]⟩, .bool false] 40)) := (Bz.block _ (Array.getElem?_eq_some_iff.1 HX7.out).1).trans HX7.out
                clear Bz HM7 HB7 HX7 j0 j1 j2
                go_wp2_with fail
                refine (state_any HM8.out).mono ?_
                rintro e x0 ⟨rfl, hx0⟩
                rw [hx0]
                clear hx0 x0
                rw [show (sg m 0).st = 2 from rfl]
                go_wp2_with fail
                refine (ready_any HM8.out).mono ?_
                rintro e x0 ⟨rfl, hx0⟩
                rw [hx0, show decide ((sg m 0).st = 3 ∨ (sg m 0).st = 4) = false from rfl]
                clear hx0 x0
                go_wp2_with fail
                refine ⟨⟨i + 1, _, _, _, by simp, by omega, by omega, by rw [show i + 1 - 1 = i by omega, e1.out]; exact HM8.out, HB8.out, HX8.out⟩, ?_⟩
                simp only [intOf]
                omega
          · go_wp2_with fail
            refine (ansd_any HM.out t001 t00).mono ?_
            rintro e y9 ⟨rfl, My, Fy⟩
            have HM9 : Hid (Sm 63 y9 G ⟨2, 5, m, 3, wa, 0, 0⟩) := My
            have HB9 : Hid (Below w.heap.size w y9) := Fr.under HB.out Fy (by simpa using gG) HB.out.size
            clear My Fy HM HB HX
            rw [show sayV no = .agg #[.string ⟨#[]⟩, .string ⟨#[]⟩, .bool false] from rfl]
            go_wp2_with fail
            refine (nothing_no _).mono ?_
            rintro e z9 ⟨rfl, Bz⟩
            have HMz : Hid (Sm 63 z9 G ⟨2, 5, m, 3, wa, 0, 0⟩) := (HM9.out.alloc _).below Bz (HM9.out.alloc _).lt
            have HBz : Hid (Below w.heap.size w z9) := Kb.keepB (HB9.out.alloc HB9.out.size _) Bz
            clear Bz HM9 HB9
            go_wp2_with fail
            refine (state_any HMz.out).mono ?_
            rintro e x0 ⟨rfl, hx0⟩
            rw [hx0]
            clear hx0 x0
            go_wp2_with fail
            refine (ready_any HMz.out).mono ?_
            rintro e x0 ⟨rfl, hx0⟩
            rw [hx0]
            clear hx0 x0
            go_wp2_with fail
            go_ret
            exact ⟨rfl, HBz.out⟩
  · have c1 : (a2.toList == [48, 48, 49]) = false := by simpa using hc
    have hc9 : a2 ≠ t001 := ne_code hc
    by_cases hd : a2.toList = [48, 48, 50]
    · have hd1 := tl hd
      subst hd1
      clear hd hc k2 c1 hc9
      as_aux_lemma =>
        have NCO1 : ¬ ((⟨#[48, 48, 50]⟩ : ByteArray) = t001 ∧ (a3 : ByteArray) = t00) := by rintro ⟨h, _⟩; exact absurd h (by decide)
        have ND1 : (⟨#[51, 48, 49]⟩ : ByteArray) ≠ t002 := by decide
        have NCO : Hid (¬ ((⟨#[48, 48, 50]⟩ : ByteArray) = t001 ∧ (a3 : ByteArray) = t00)) := NCO1
        have ND : Hid ((⟨#[51, 48, 49]⟩ : ByteArray) ≠ t002) := ND1
        clear NCO1 ND1
        go_wp2_with fail
        go_loopw [17] (fun iv wr => ∃ (i : Int) (u v t : Value), iv = .int .i64 i ∧ 1 ≤ i ∧ i ≤ m * R + 1 ∧ Sm 63 wr G (sg m ((i - 1) % m)) ∧ Below w.heap.size w wr ∧ wr.heap[X]? = some (.cells #[u, v, t] 40)) (fun iv _ => (m * R + 2 - intOf iv).toNat)
        case atStart => exact ⟨1, _, _, _, rfl, by omega, by omega, by rw [show ((1 : Int) - 1) % m = 0 by simp]; exact HM2.out, HB2.out, hX.out⟩
        case round =>
          obtain ⟨i, u, v, t, rfl, i0, i1, Mi, Bi, Xi⟩ := hrel
          clear HM2 HB2 hX
          obtain ⟨wa, hwa⟩ : ∃ wa, (i - 1) % m = wa := ⟨_, rfl⟩
          have wa0 : 0 ≤ wa := by rw [← hwa]; exact Int.emod_nonneg _ (by omega)
          have wa1 : wa < m := by rw [← hwa]; exact Int.emod_lt_of_pos _ (by omega)
          rw [hwa] at Mi
          have HWA : Hid ((i - 1) % m = wa) := hwa
          have HM : Hid (Sm 63 wr G (sg m wa)) := Mi
          have HB : Hid (Below w.heap.size w wr) := Bi
          have HX : Hid (wr.heap[X]? = some (.cells #[u, v, t] 40)) := Xi
          have HOK : Hid (OK (sg m wa)) := ok_sg m1 m2 wa0 wa1
          clear Mi Bi Xi hwa wa0 wa1
          go_wp2_with fail
          refine (pk1 _).mono ?_
          rintro e x0 ⟨rfl, hx0⟩
          rw [hx0]
          clear hx0 x0
          by_cases hi : i ≤ m * R
          · go_wp2_with fail
            refine (pk4 _).mono ?_
            rintro e x0 ⟨rfl, hx0⟩
            rw [hx0]
            clear hx0 x0
            by_cases hr : i % (1 + A0) = 0
            · have hr1 : (i % (1 + A0) == 0) = true := by simpa using hr
              have hr2 : (i.tmod (1 + A0) == 0) = true := by rw [Int.tmod_eq_emod_of_nonneg (by omega)]; exact hr1
              clear hr
              go_wp2_with fail
              refine (ansd_any HM.out ⟨#[48, 48, 50]⟩ a3).mono ?_
              rintro e y1' ⟨rfl, My, Fy⟩
              rw [sg_ans NCO.out] at My
              have HMa : Hid (Sm 63 y1' G (sg m wa)) := My
              have HBa : Hid (Below w.heap.size w y1') := Fr.under HB.out Fy (by simpa using gG) HB.out.size
              have HXa : Hid (y1'.heap[X]? = some (.cells #[u, v, t] 40)) := res_to HX.out Fy gX
              clear My Fy HM HB HX
              rw [show sayV no = .agg #[.string ⟨#[]⟩, .string ⟨#[]⟩, .bool false] from rfl]
              go_wp2_with fail
              obtain ⟨q1, hq1⟩ : ∃ q1, y1'.alloc (.cells #[.string ⟨#[]⟩, .string ⟨#[]⟩, .bool false] 40) = q1 := ⟨_, rfl⟩
              have HMb : Hid (Sm 63 q1 G (sg m wa)) := hq1 ▸ HMa.out.alloc _
              have HBb : Hid (Below w.heap.size w q1) := hq1 ▸ HBa.out.alloc HBa.out.size _
              have hYb : Hid (q1.heap[y1'.heap.size]? = some (.cells #[.string ⟨#[]⟩, .string ⟨#[]⟩, .bool false] 40)) := hq1 ▸ Kb.h1_0 y1' _
              have HXb : Hid (q1.heap[X]? = some (.cells #[u, v, t] 40)) := hq1 ▸ (Below.heap_alloc _ _ _ (Array.getElem?_eq_some_iff.1 HXa.out).1).trans HXa.out
              have gYb : y1'.heap.size ≠ G := by have := HMa.out.lt; omega
              obtain ⟨Yb, eqYb⟩ : ∃ Yb, y1'.heap.size = Yb := ⟨_, rfl⟩
              rw [eqYb] at hYb gYb
              rw [hq1, eqYb]
              clear hq1 eqYb HMa HBa HXa
              refine (heard_any HMb.out).mono ?_
              rintro e y2 ⟨rfl, My, Fy⟩
              have HMc : Hid (Sm 63 y2 G (sg m wa)) := My
              have HBc : Hid (Below w.heap.size w y2) := Fr.under HBb.out Fy (by simpa using gG) HBb.out.size
              have HXc : Hid (y2.heap[X]? = some (.cells #[u, v, t] 40)) := res_to HXb.out Fy gX
              have hYc : Hid (y2.heap[Yb]? = some (.cells #[.string ⟨#[]⟩, .string ⟨#[]⟩, .bool false] 40)) := res_to hYb.out Fy gYb
              clear My Fy HMb HBb HXb hYb
              go_wp2_with fail
              refine (asked_any HMc.out ⟨#[51, 48, 49]⟩ (by decide)).mono ?_
              rintro e y3 ⟨rfl, My, Fy⟩
              rw [sg_asked ND.out] at My
              have HMd : Hid (Sm 63 y3 G (sg m wa)) := My
              have HBd : Hid (Below w.heap.size w y3) := Fr.under HBc.out Fy (by simpa using gG) HBc.out.size
              have HXd : Hid (y3.heap[X]? = some (.cells #[u, v, t] 40)) := res_to HXc.out Fy gX
              have hYd : Hid (y3.heap[Yb]? = some (.cells #[.string ⟨#[]⟩, .string ⟨#[]⟩, .bool false] 40)) := res_to hYc.out Fy gYb
              clear My Fy HMc HBc HXc hYc
              obtain ⟨rr, hrr, hsay⟩ := sg_say (m := m) (wa := wa) ⟨#[51, 48, 49]⟩
              rw [show sayV (asked2 (sg m wa) ⟨#[51, 48, 49]⟩) = .agg #[.string ⟨#[51, 48, 49]⟩, .string rr, .bool false] by rw [hsay]; rfl]
              have hr0 : (rr.toList == []) = false := by rcases hrr with rfl | rfl <;> (rw [ByteArray.toList_eq]; decide)
              clear hrr hsay
              have hYe : (y3.alloc (.cells #[.string ⟨#[51, 48, 49]⟩, .string rr, .bool false] 40)).heap[Yb]? = some (.cells #[.string ⟨#[]⟩, .string ⟨#[]⟩, .bool false] 40) := (Below.heap_alloc _ _ _ (Array.getElem?_eq_some_iff.1 hYd.out).1).trans hYd.out
              obtain ⟨k0, k1, kk2, _⟩ := cells3 hYe
              clear hYe
              go_wp2_with fail
              obtain ⟨q3, hq3⟩ : ∃ q3, y3.alloc (.cells #[.string ⟨#[51, 48, 49]⟩, .string rr, .bool false] 40) = q3 := ⟨_, rfl⟩
              have HMe : Hid (Sm 63 q3 G (sg m wa)) := hq3 ▸ HMd.out.alloc _
              have HBe : Hid (Below w.heap.size w q3) := hq3 ▸ HBd.out.alloc HBd.out.size _
              have hZb : Hid (q3.heap[y3.heap.size]? = some (.cells #[.string ⟨#[51, 48, 49]⟩, .string rr, .bool false] 40)) := hq3 ▸ Kb.h1_0 y3 _
              have HXe : Hid (q3.heap[X]? = some (.cells #[u, v, t] 40)) := hq3 ▸ (Below.heap_alloc _ _ _ (Array.getElem?_eq_some_iff.1 HXd.out).1).trans HXd.out
              have gZb : y3.heap.size ≠ G := by have := HMd.out.lt; omega
              obtain ⟨Zb, eqZb⟩ : ∃ Zb, y3.heap.size = Zb := ⟨_, rfl⟩
              rw [eqZb] at hZb gZb
              rw [hq3, eqZb]
              clear hq3 eqZb HMd HBd HXd
              clear k0 k1 kk2 hYd
              refine (nothing_no _).mono ?_
              rintro e z3 ⟨rfl, Bz⟩
              have HMf : Hid (Sm 63 z3 G (sg m wa)) := HMe.out.below Bz HMe.out.lt
              have HBf : Hid (Below w.heap.size w z3) := Kb.keepB HBe.out Bz
              have HXf : Hid (z3.heap[X]? = some (.cells #[u, v, t] 40)) := (Bz.block _ (Array.getElem?_eq_some_iff.1 HXe.out).1).trans HXe.out
              have hZf := (Bz.block _ (Array.getElem?_eq_some_iff.1 hZb.out).1).trans hZb.out
              obtain ⟨k0, k1, kk2, _⟩ := cells3 hZf
              clear Bz HMe HBe HXe hZb hZf
              go_wp2_with fail
              clear k0 k1 kk2
              by_cases hw : wa + 1 < m
              · refine (tick_any HMf.out HOK.out).mono ?_
                rintro e y5 ⟨rfl, My, Fy⟩
                rw [(sg_tick hw).1] at My
                have HM5 : Hid (Sm 63 y5 G (sg m (wa + 1))) := My
                have HB5 : Hid (Below w.heap.size w y5) := Fr.under HBf.out Fy (by simpa using gG) HBf.out.size
                have HX5 : Hid (y5.heap[X]? = some (.cells #[u, v, t] 40)) := res_to HXf.out Fy gX
                clear My Fy HMf HBf HXf
                obtain ⟨j0, j1, j2, jf⟩ := cells3 HX5.out
                have jf0 := jf 0
                have jf1 := jf 1
                have jf2 := jf 2
                clear jf
                rw [show sayV (tick2 (sg m wa)) = .agg #[.string ⟨#[]⟩, .string ⟨#[]⟩, .bool false] by rw [(sg_tick hw).2]; rfl]
                go_wp2_with fail
                obtain ⟨q5, hq5⟩ : ∃ q5, ((y5.setCell ⟨X, 0, none⟩ (.string ⟨#[]⟩)).setCell ⟨X, 1, none⟩ (.string ⟨#[]⟩)).setCell ⟨X, 2, none⟩ (.bool false) = q5 := ⟨_, rfl⟩
                have HM6 : Hid (Sm 63 q5 G (sg m (wa + 1))) := hq5 ▸ sm_set3 HM5.out gX _ _ _
                have HB6 : Hid (Below w.heap.size w q5) := hq5 ▸ ((HB5.out.setCell (p := ⟨X, 0, none⟩) lX _).setCell (p := ⟨X, 1, none⟩) lX _).setCell (p := ⟨X, 2, none⟩) lX _
                have HX6 : Hid (q5.heap[X]? = some (.cells #[.string ⟨#[]⟩, .string ⟨#[]⟩, .bool false] 40)) := hq5 ▸ setCell_heap (setCell_heap (setCell_heap HX5.out 0 _) 1 _) 2 _
                rw [hq5]
                clear hq5 HM5 HB5 HX5 j0 j1 j2 jf0 jf1 jf2
                refine (nothing_no _).mono ?_
                rintro e z6 ⟨rfl, Bz⟩
                have HM7 : Hid (Sm 63 z6 G (sg m (wa + 1))) := HM6.out.below Bz HM6.out.lt
                have HB7 : Hid (Below w.heap.size w z6) := Kb.keepB HB6.out Bz
                have HX7 : Hid (z6.heap[X]? = some (.cells #[.string ⟨#[]⟩, .string ⟨#[]⟩, .bool false] 40)) := (Bz.block _ (Array.getElem?_eq_some_iff.1 HX6.out).1).trans HX6.out
                clear Bz HM6 HB6 HX6
                obtain ⟨j0, j1, j2, _⟩ := cells3 HX7.out
                have e1 : i % m = wa + 1 := rem_step m1 i0 HWA.out (by omega)
                have wa0 : 0 ≤ wa := by rw [← HWA.out]; exact Int.emod_nonneg _ (by omega)
                have e2 : (i % m == 0) = false := by rw [e1]; simp; omega
                have e3 : (i.tmod m == 0) = false := by rw [Int.tmod_eq_emod_of_nonneg (by omega)]; exact e2
                replace e1 : Hid (i % m = wa + 1) := e1
                go_wp2_with fail
                refine (state_any HM7.out).mono ?_
                rintro e x0 ⟨rfl, hx0⟩
                rw [hx0]
                clear hx0 x0
                rw [show (sg m (wa + 1)).st = 2 from rfl]
                go_wp2_with fail
                refine (ready_any HM7.out).mono ?_
                rintro e x0 ⟨rfl, hx0⟩
                rw [hx0, show decide ((sg m (wa + 1)).st = 3 ∨ (sg m (wa + 1)).st = 4) = false from rfl]
                clear hx0 x0
                go_wp2_with fail
                refine ⟨⟨i + 1, _, _, _, by simp, by omega, by omega, by rw [show i + 1 - 1 = i by omega, e1.out]; exact HM7.out, HB7.out, HX7.out⟩, ?_⟩
                simp only [intOf]
                omega
              · refine (tick_any HMf.out HOK.out).mono ?_
                rintro e y5 ⟨rfl, My, Fy⟩
                rw [(sg_tock hw).1] at My
                have HM5 : Hid (Sm 63 y5 G (sg m 0)) := My
                have HB5 : Hid (Below w.heap.size w y5) := Fr.under HBf.out Fy (by simpa using gG) HBf.out.size
                have HX5 : Hid (y5.heap[X]? = some (.cells #[u, v, t] 40)) := res_to HXf.out Fy gX
                clear My Fy HMf HBf HXf
                obtain ⟨j0, j1, j2, jf⟩ := cells3 HX5.out
                have jf0 := jf 0
                have jf1 := jf 1
                have jf2 := jf 2
                clear jf
                rw [show sayV (tick2 (sg m wa)) = .agg #[.string ⟨#[48, 48, 49]⟩, .string ⟨#[]⟩, .bool false] by rw [(sg_tock hw).2]; rfl]
                go_wp2_with fail
                obtain ⟨q5, hq5⟩ : ∃ q5, ((y5.setCell ⟨X, 0, none⟩ (.string ⟨#[48, 48, 49]⟩)).setCell ⟨X, 1, none⟩ (.string ⟨#[]⟩)).setCell ⟨X, 2, none⟩ (.bool false) = q5 := ⟨_, rfl⟩
                have HM6 : Hid (Sm 63 q5 G (sg m 0)) := hq5 ▸ sm_set3 HM5.out gX _ _ _
                have HB6 : Hid (Below w.heap.size w q5) := hq5 ▸ ((HB5.out.setCell (p := ⟨X, 0, none⟩) lX _).setCell (p := ⟨X, 1, none⟩) lX _).setCell (p := ⟨X, 2, none⟩) lX _
                have HX6 : Hid (q5.heap[X]? = some (.cells #[.string ⟨#[48, 48, 49]⟩, .string ⟨#[]⟩, .bool false] 40)) := hq5 ▸ setCell_heap (setCell_heap (setCell_heap HX5.out 0 _) 1 _) 2 _
                rw [hq5]
                clear hq5 HM5 HB5 HX5 j0 j1 j2 jf0 jf1 jf2
                refine (nothing_001 _).mono ?_
                rintro e z6 ⟨rfl, Bz⟩
                have HM7 : Hid (Sm 63 z6 G (sg m 0)) := HM6.out.below Bz HM6.out.lt
                have HB7 : Hid (Below w.heap.size w z6) := Kb.keepB HB6.out Bz
                have HX7 : Hid (z6.heap[X]? = some (.cells #[.string ⟨#[48, 48, 49]⟩, .string ⟨#[]⟩, .bool false] 40)) := (Bz.block _ (Array.getElem?_eq_some_iff.1 HX6.out).1).trans HX6.out
                clear Bz HM6 HB6 HX6
                obtain ⟨j0, j1, j2, _⟩ := cells3 HX7.out
                have e1 : i % m = 0 := rem_zero m1 i0 HWA.out (by omega)
                have e2 : (i % m == 0) = true := by simpa using e1
                have e3 : (i.tmod m == 0) = true := by rw [Int.tmod_eq_emod_of_nonneg (by omega)]; exact e2
                replace e1 : Hid (i % m = 0) := e1
                go_wp2_with fail
                refine (asks_any t001 _).mono ?_
                rintro e z7 ⟨rfl, Bz⟩
                have HM8 : Hid (Sm 63 z7 G (sg m 0)) := HM7.out.below Bz HM7.out.lt
                have HB8 : Hid (Below w.heap.size w z7) := Kb.keepB HB7.out Bz
                have HX8 : Hid (z7.heap[X]? = some (.cells #[.string ⟨#[48, 48, 49]⟩, .string ⟨#[]⟩, .bool false] 40)) := (Bz.block _ (Array.getElem?_eq_some_iff.1 HX7.out).1).trans HX7.out
                clear Bz HM7 HB7 HX7 j0 j1 j2
                go_wp2_with fail
                refine (state_any HM8.out).mono ?_
                rintro e x0 ⟨rfl, hx0⟩
                rw [hx0]
                clear hx0 x0
                rw [show (sg m 0).st = 2 from rfl]
                go_wp2_with fail
                refine (ready_any HM8.out).mono ?_
                rintro e x0 ⟨rfl, hx0⟩
                rw [hx0, show decide ((sg m 0).st = 3 ∨ (sg m 0).st = 4) = false from rfl]
                clear hx0 x0
                go_wp2_with fail
                refine ⟨⟨i + 1, _, _, _, by simp, by omega, by omega, by rw [show i + 1 - 1 = i by omega, e1.out]; exact HM8.out, HB8.out, HX8.out⟩, ?_⟩
                simp only [intOf]
                omega
            · have hr1 : (i % (1 + A0) == 0) = false := by simpa using hr
              have hr2 : (i.tmod (1 + A0) == 0) = false := by rw [Int.tmod_eq_emod_of_nonneg (by omega)]; exact hr1
              clear hr
              go_wp2_with fail
              by_cases hw : wa + 1 < m
              · refine (tick_any HM.out HOK.out).mono ?_
                rintro e y5 ⟨rfl, My, Fy⟩
                rw [(sg_tick hw).1] at My
                have HM5 : Hid (Sm 63 y5 G (sg m (wa + 1))) := My
                have HB5 : Hid (Below w.heap.size w y5) := Fr.under HB.out Fy (by simpa using gG) HB.out.size
                have HX5 : Hid (y5.heap[X]? = some (.cells #[u, v, t] 40)) := res_to HX.out Fy gX
                clear My Fy HM HB HX
                obtain ⟨j0, j1, j2, jf⟩ := cells3 HX5.out
                have jf0 := jf 0
                have jf1 := jf 1
                have jf2 := jf 2
                clear jf
                rw [show sayV (tick2 (sg m wa)) = .agg #[.string ⟨#[]⟩, .string ⟨#[]⟩, .bool false] by rw [(sg_tick hw).2]; rfl]
                go_wp2_with fail
                obtain ⟨q5, hq5⟩ : ∃ q5, ((y5.setCell ⟨X, 0, none⟩ (.string ⟨#[]⟩)).setCell ⟨X, 1, none⟩ (.string ⟨#[]⟩)).setCell ⟨X, 2, none⟩ (.bool false) = q5 := ⟨_, rfl⟩
                have HM6 : Hid (Sm 63 q5 G (sg m (wa + 1))) := hq5 ▸ sm_set3 HM5.out gX _ _ _
                have HB6 : Hid (Below w.heap.size w q5) := hq5 ▸ ((HB5.out.setCell (p := ⟨X, 0, none⟩) lX _).setCell (p := ⟨X, 1, none⟩) lX _).setCell (p := ⟨X, 2, none⟩) lX _
                have HX6 : Hid (q5.heap[X]? = some (.cells #[.string ⟨#[]⟩, .string ⟨#[]⟩, .bool false] 40)) := hq5 ▸ setCell_heap (setCell_heap (setCell_heap HX5.out 0 _) 1 _) 2 _
                rw [hq5]
                clear hq5 HM5 HB5 HX5 j0 j1 j2 jf0 jf1 jf2
                refine (nothing_no _).mono ?_
                rintro e z6 ⟨rfl, Bz⟩
                have HM7 : Hid (Sm 63 z6 G (sg m (wa + 1))) := HM6.out.below Bz HM6.out.lt
                have HB7 : Hid (Below w.heap.size w z6) := Kb.keepB HB6.out Bz
                have HX7 : Hid (z6.heap[X]? = some (.cells #[.string ⟨#[]⟩, .string ⟨#[]⟩, .bool false] 40)) := (Bz.block _ (Array.getElem?_eq_some_iff.1 HX6.out).1).trans HX6.out
                clear Bz HM6 HB6 HX6
                obtain ⟨j0, j1, j2, _⟩ := cells3 HX7.out
                have e1 : i % m = wa + 1 := rem_step m1 i0 HWA.out (by omega)
                have wa0 : 0 ≤ wa := by rw [← HWA.out]; exact Int.emod_nonneg _ (by omega)
                have e2 : (i % m == 0) = false := by rw [e1]; simp; omega
                have e3 : (i.tmod m == 0) = false := by rw [Int.tmod_eq_emod_of_nonneg (by omega)]; exact e2
                replace e1 : Hid (i % m = wa + 1) := e1
                go_wp2_with fail
                refine (state_any HM7.out).mono ?_
                rintro e x0 ⟨rfl, hx0⟩
                rw [hx0]
                clear hx0 x0
                rw [show (sg m (wa + 1)).st = 2 from rfl]
                go_wp2_with fail
                refine (ready_any HM7.out).mono ?_
                rintro e x0 ⟨rfl, hx0⟩
                rw [hx0, show decide ((sg m (wa + 1)).st = 3 ∨ (sg m (wa + 1)).st = 4) = false from rfl]
                clear hx0 x0
                go_wp2_with fail
                refine ⟨⟨i + 1, _, _, _, by simp, by omega, by omega, by rw [show i + 1 - 1 = i by omega, e1.out]; exact HM7.out, HB7.out, HX7.out⟩, ?_⟩
                simp only [intOf]
                omega
              · refine (tick_any HM.out HOK.out).mono ?_
                rintro e y5 ⟨rfl, My, Fy⟩
                rw [(sg_tock hw).1] at My
                have HM5 : Hid (Sm 63 y5 G (sg m 0)) := My
                have HB5 : Hid (Below w.heap.size w y5) := Fr.under HB.out Fy (by simpa using gG) HB.out.size
                have HX5 : Hid (y5.heap[X]? = some (.cells #[u, v, t] 40)) := res_to HX.out Fy gX
                clear My Fy HM HB HX
                obtain ⟨j0, j1, j2, jf⟩ := cells3 HX5.out
                have jf0 := jf 0
                have jf1 := jf 1
                have jf2 := jf 2
                clear jf
                rw [show sayV (tick2 (sg m wa)) = .agg #[.string ⟨#[48, 48, 49]⟩, .string ⟨#[]⟩, .bool false] by rw [(sg_tock hw).2]; rfl]
                go_wp2_with fail
                obtain ⟨q5, hq5⟩ : ∃ q5, ((y5.setCell ⟨X, 0, none⟩ (.string ⟨#[48, 48, 49]⟩)).setCell ⟨X, 1, none⟩ (.string ⟨#[]⟩)).setCell ⟨X, 2, none⟩ (.bool false) = q5 := ⟨_, rfl⟩
                have HM6 : Hid (Sm 63 q5 G (sg m 0)) := hq5 ▸ sm_set3 HM5.out gX _ _ _
                have HB6 : Hid (Below w.heap.size w q5) := hq5 ▸ ((HB5.out.setCell (p := ⟨X, 0, none⟩) lX _).setCell (p := ⟨X, 1, none⟩) lX _).setCell (p := ⟨X, 2, none⟩) lX _
                have HX6 : Hid (q5.heap[X]? = some (.cells #[.string ⟨#[48, 48, 49]⟩, .string ⟨#[]⟩, .bool false] 40)) := hq5 ▸ setCell_heap (setCell_heap (setCell_heap HX5.out 0 _) 1 _) 2 _
                rw [hq5]
                clear hq5 HM5 HB5 HX5 j0 j1 j2 jf0 jf1 jf2
                refine (nothing_001 _).mono ?_
                rintro e z6 ⟨rfl, Bz⟩
                have HM7 : Hid (Sm 63 z6 G (sg m 0)) := HM6.out.below Bz HM6.out.lt
                have HB7 : Hid (Below w.heap.size w z6) := Kb.keepB HB6.out Bz
                have HX7 : Hid (z6.heap[X]? = some (.cells #[.string ⟨#[48, 48, 49]⟩, .string ⟨#[]⟩, .bool false] 40)) := (Bz.block _ (Array.getElem?_eq_some_iff.1 HX6.out).1).trans HX6.out
                clear Bz HM6 HB6 HX6
                obtain ⟨j0, j1, j2, _⟩ := cells3 HX7.out
                have e1 : i % m = 0 := rem_zero m1 i0 HWA.out (by omega)
                have e2 : (i % m == 0) = true := by simpa using e1
                have e3 : (i.tmod m == 0) = true := by rw [Int.tmod_eq_emod_of_nonneg (by omega)]; exact e2
                replace e1 : Hid (i % m = 0) := e1
                go_wp2_with fail
                refine (asks_any t001 _).mono ?_
                rintro e z7 ⟨rfl, Bz⟩
                have HM8 : Hid (Sm 63 z7 G (sg m 0)) := HM7.out.below Bz HM7.out.lt
                have HB8 : Hid (Below w.heap.size w z7) := Kb.keepB HB7.out Bz
                have HX8 : Hid (z7.heap[X]? = some (.cells #[.string ⟨#[48, 48, 49]⟩, .string ⟨#[]⟩, .bool false] 40)) := (Bz.block _ (Array.getElem?_eq_some_iff.1 HX7.out).1).trans HX7.out
                clear Bz HM7 HB7 HX7 j0 j1 j2
                go_wp2_with fail
                refine (state_any HM8.out).mono ?_
                rintro e x0 ⟨rfl, hx0⟩
                rw [hx0]
                clear hx0 x0
                rw [show (sg m 0).st = 2 from rfl]
                go_wp2_with fail
                refine (ready_any HM8.out).mono ?_
                rintro e x0 ⟨rfl, hx0⟩
                rw [hx0, show decide ((sg m 0).st = 3 ∨ (sg m 0).st = 4) = false from rfl]
                clear hx0 x0
                go_wp2_with fail
                refine ⟨⟨i + 1, _, _, _, by simp, by omega, by omega, by rw [show i + 1 - 1 = i by omega, e1.out]; exact HM8.out, HB8.out, HX8.out⟩, ?_⟩
                simp only [intOf]
                omega
          · go_wp2_with fail
            refine (ansd_any HM.out t001 t00).mono ?_
            rintro e y9 ⟨rfl, My, Fy⟩
            have HM9 : Hid (Sm 63 y9 G ⟨2, 5, m, 3, wa, 0, 0⟩) := My
            have HB9 : Hid (Below w.heap.size w y9) := Fr.under HB.out Fy (by simpa using gG) HB.out.size
            clear My Fy HM HB HX
            rw [show sayV no = .agg #[.string ⟨#[]⟩, .string ⟨#[]⟩, .bool false] from rfl]
            go_wp2_with fail
            refine (nothing_no _).mono ?_
            rintro e z9 ⟨rfl, Bz⟩
            have HMz : Hid (Sm 63 z9 G ⟨2, 5, m, 3, wa, 0, 0⟩) := (HM9.out.alloc _).below Bz (HM9.out.alloc _).lt
            have HBz : Hid (Below w.heap.size w z9) := Kb.keepB (HB9.out.alloc HB9.out.size _) Bz
            clear Bz HM9 HB9
            go_wp2_with fail
            refine (state_any HMz.out).mono ?_
            rintro e x0 ⟨rfl, hx0⟩
            rw [hx0]
            clear hx0 x0
            go_wp2_with fail
            refine (ready_any HMz.out).mono ?_
            rintro e x0 ⟨rfl, hx0⟩
            rw [hx0]
            clear hx0 x0
            go_wp2_with fail
            go_ret
            exact ⟨rfl, HBz.out⟩
    · have c2 : (a2.toList == [48, 48, 50]) = false := by simpa using hd
      have hd9 : a2 ≠ t002 := ne_code hd
      as_aux_lemma =>
        have NCO1 : ¬ ((a2 : ByteArray) = t001 ∧ (a3 : ByteArray) = t00) := fun h => hc9 h.1
        have ND1 : (a2 : ByteArray) ≠ t002 := hd9
        have NCO : Hid (¬ ((a2 : ByteArray) = t001 ∧ (a3 : ByteArray) = t00)) := NCO1
        have ND : Hid ((a2 : ByteArray) ≠ t002) := ND1
        clear NCO1 ND1
        have k22 : Hid (a2.size ≤ 281474976710656) := by show a2.size ≤ 281474976710656; omega
        clear hc hd hc9 hd9 k2
        go_wp2_with fail
        go_loopw [17] (fun iv wr => ∃ (i : Int) (u v t : Value), iv = .int .i64 i ∧ 1 ≤ i ∧ i ≤ m * R + 1 ∧ Sm 63 wr G (sg m ((i - 1) % m)) ∧ Below w.heap.size w wr ∧ wr.heap[X]? = some (.cells #[u, v, t] 40)) (fun iv _ => (m * R + 2 - intOf iv).toNat)
        case atStart => exact ⟨1, _, _, _, rfl, by omega, by omega, by rw [show ((1 : Int) - 1) % m = 0 by simp]; exact HM2.out, HB2.out, hX.out⟩
        case round =>
          obtain ⟨i, u, v, t, rfl, i0, i1, Mi, Bi, Xi⟩ := hrel
          clear HM2 HB2 hX
          obtain ⟨wa, hwa⟩ : ∃ wa, (i - 1) % m = wa := ⟨_, rfl⟩
          have wa0 : 0 ≤ wa := by rw [← hwa]; exact Int.emod_nonneg _ (by omega)
          have wa1 : wa < m := by rw [← hwa]; exact Int.emod_lt_of_pos _ (by omega)
          rw [hwa] at Mi
          have HWA : Hid ((i - 1) % m = wa) := hwa
          have HM : Hid (Sm 63 wr G (sg m wa)) := Mi
          have HB : Hid (Below w.heap.size w wr) := Bi
          have HX : Hid (wr.heap[X]? = some (.cells #[u, v, t] 40)) := Xi
          have HOK : Hid (OK (sg m wa)) := ok_sg m1 m2 wa0 wa1
          clear Mi Bi Xi hwa wa0 wa1
          go_wp2_with fail
          refine (pk1 _).mono ?_
          rintro e x0 ⟨rfl, hx0⟩
          rw [hx0]
          clear hx0 x0
          by_cases hi : i ≤ m * R
          · go_wp2_with fail
            refine (pk4 _).mono ?_
            rintro e x0 ⟨rfl, hx0⟩
            rw [hx0]
            clear hx0 x0
            by_cases hr : i % (1 + A0) = 0
            · have hr1 : (i % (1 + A0) == 0) = true := by simpa using hr
              have hr2 : (i.tmod (1 + A0) == 0) = true := by rw [Int.tmod_eq_emod_of_nonneg (by omega)]; exact hr1
              clear hr
              go_wp2_with fail
              refine (ansd_any HM.out a2 a3).mono ?_
              rintro e y1' ⟨rfl, My, Fy⟩
              rw [sg_ans NCO.out] at My
              have HMa : Hid (Sm 63 y1' G (sg m wa)) := My
              have HBa : Hid (Below w.heap.size w y1') := Fr.under HB.out Fy (by simpa using gG) HB.out.size
              have HXa : Hid (y1'.heap[X]? = some (.cells #[u, v, t] 40)) := res_to HX.out Fy gX
              clear My Fy HM HB HX
              rw [show sayV no = .agg #[.string ⟨#[]⟩, .string ⟨#[]⟩, .bool false] from rfl]
              go_wp2_with fail
              obtain ⟨q1, hq1⟩ : ∃ q1, y1'.alloc (.cells #[.string ⟨#[]⟩, .string ⟨#[]⟩, .bool false] 40) = q1 := ⟨_, rfl⟩
              have HMb : Hid (Sm 63 q1 G (sg m wa)) := hq1 ▸ HMa.out.alloc _
              have HBb : Hid (Below w.heap.size w q1) := hq1 ▸ HBa.out.alloc HBa.out.size _
              have hYb : Hid (q1.heap[y1'.heap.size]? = some (.cells #[.string ⟨#[]⟩, .string ⟨#[]⟩, .bool false] 40)) := hq1 ▸ Kb.h1_0 y1' _
              have HXb : Hid (q1.heap[X]? = some (.cells #[u, v, t] 40)) := hq1 ▸ (Below.heap_alloc _ _ _ (Array.getElem?_eq_some_iff.1 HXa.out).1).trans HXa.out
              have gYb : y1'.heap.size ≠ G := by have := HMa.out.lt; omega
              obtain ⟨Yb, eqYb⟩ : ∃ Yb, y1'.heap.size = Yb := ⟨_, rfl⟩
              rw [eqYb] at hYb gYb
              rw [hq1, eqYb]
              clear hq1 eqYb HMa HBa HXa
              refine (heard_any HMb.out).mono ?_
              rintro e y2 ⟨rfl, My, Fy⟩
              have HMc : Hid (Sm 63 y2 G (sg m wa)) := My
              have HBc : Hid (Below w.heap.size w y2) := Fr.under HBb.out Fy (by simpa using gG) HBb.out.size
              have HXc : Hid (y2.heap[X]? = some (.cells #[u, v, t] 40)) := res_to HXb.out Fy gX
              have hYc : Hid (y2.heap[Yb]? = some (.cells #[.string ⟨#[]⟩, .string ⟨#[]⟩, .bool false] 40)) := res_to hYb.out Fy gYb
              clear My Fy HMb HBb HXb hYb
              go_wp2_with fail
              refine (asked_any HMc.out a2 k22.out).mono ?_
              rintro e y3 ⟨rfl, My, Fy⟩
              rw [sg_asked ND.out] at My
              have HMd : Hid (Sm 63 y3 G (sg m wa)) := My
              have HBd : Hid (Below w.heap.size w y3) := Fr.under HBc.out Fy (by simpa using gG) HBc.out.size
              have HXd : Hid (y3.heap[X]? = some (.cells #[u, v, t] 40)) := res_to HXc.out Fy gX
              have hYd : Hid (y3.heap[Yb]? = some (.cells #[.string ⟨#[]⟩, .string ⟨#[]⟩, .bool false] 40)) := res_to hYc.out Fy gYb
              clear My Fy HMc HBc HXc hYc
              obtain ⟨rr, hrr, hsay⟩ := sg_say (m := m) (wa := wa) a2
              rw [show sayV (asked2 (sg m wa) a2) = .agg #[.string a2, .string rr, .bool false] by rw [hsay]; rfl]
              have hr0 : (rr.toList == []) = false := by rcases hrr with rfl | rfl <;> (rw [ByteArray.toList_eq]; decide)
              clear hrr hsay
              have hYe : (y3.alloc (.cells #[.string a2, .string rr, .bool false] 40)).heap[Yb]? = some (.cells #[.string ⟨#[]⟩, .string ⟨#[]⟩, .bool false] 40) := (Below.heap_alloc _ _ _ (Array.getElem?_eq_some_iff.1 hYd.out).1).trans hYd.out
              obtain ⟨k0, k1, kk2, _⟩ := cells3 hYe
              clear hYe
              go_wp2_with fail
              obtain ⟨q3, hq3⟩ : ∃ q3, y3.alloc (.cells #[.string a2, .string rr, .bool false] 40) = q3 := ⟨_, rfl⟩
              have HMe : Hid (Sm 63 q3 G (sg m wa)) := hq3 ▸ HMd.out.alloc _
              have HBe : Hid (Below w.heap.size w q3) := hq3 ▸ HBd.out.alloc HBd.out.size _
              have hZb : Hid (q3.heap[y3.heap.size]? = some (.cells #[.string a2, .string rr, .bool false] 40)) := hq3 ▸ Kb.h1_0 y3 _
              have HXe : Hid (q3.heap[X]? = some (.cells #[u, v, t] 40)) := hq3 ▸ (Below.heap_alloc _ _ _ (Array.getElem?_eq_some_iff.1 HXd.out).1).trans HXd.out
              have gZb : y3.heap.size ≠ G := by have := HMd.out.lt; omega
              obtain ⟨Zb, eqZb⟩ : ∃ Zb, y3.heap.size = Zb := ⟨_, rfl⟩
              rw [eqZb] at hZb gZb
              rw [hq3, eqZb]
              clear hq3 eqZb HMd HBd HXd
              clear k0 k1 kk2 hYd
              refine (nothing_no _).mono ?_
              rintro e z3 ⟨rfl, Bz⟩
              have HMf : Hid (Sm 63 z3 G (sg m wa)) := HMe.out.below Bz HMe.out.lt
              have HBf : Hid (Below w.heap.size w z3) := Kb.keepB HBe.out Bz
              have HXf : Hid (z3.heap[X]? = some (.cells #[u, v, t] 40)) := (Bz.block _ (Array.getElem?_eq_some_iff.1 HXe.out).1).trans HXe.out
              have hZf := (Bz.block _ (Array.getElem?_eq_some_iff.1 hZb.out).1).trans hZb.out
              obtain ⟨k0, k1, kk2, _⟩ := cells3 hZf
              clear Bz HMe HBe HXe hZb hZf
              go_wp2_with fail
              clear k0 k1 kk2
              by_cases hw : wa + 1 < m
              · refine (tick_any HMf.out HOK.out).mono ?_
                rintro e y5 ⟨rfl, My, Fy⟩
                rw [(sg_tick hw).1] at My
                have HM5 : Hid (Sm 63 y5 G (sg m (wa + 1))) := My
                have HB5 : Hid (Below w.heap.size w y5) := Fr.under HBf.out Fy (by simpa using gG) HBf.out.size
                have HX5 : Hid (y5.heap[X]? = some (.cells #[u, v, t] 40)) := res_to HXf.out Fy gX
                clear My Fy HMf HBf HXf
                obtain ⟨j0, j1, j2, jf⟩ := cells3 HX5.out
                have jf0 := jf 0
                have jf1 := jf 1
                have jf2 := jf 2
                clear jf
                rw [show sayV (tick2 (sg m wa)) = .agg #[.string ⟨#[]⟩, .string ⟨#[]⟩, .bool false] by rw [(sg_tick hw).2]; rfl]
                go_wp2_with fail
                obtain ⟨q5, hq5⟩ : ∃ q5, ((y5.setCell ⟨X, 0, none⟩ (.string ⟨#[]⟩)).setCell ⟨X, 1, none⟩ (.string ⟨#[]⟩)).setCell ⟨X, 2, none⟩ (.bool false) = q5 := ⟨_, rfl⟩
                have HM6 : Hid (Sm 63 q5 G (sg m (wa + 1))) := hq5 ▸ sm_set3 HM5.out gX _ _ _
                have HB6 : Hid (Below w.heap.size w q5) := hq5 ▸ ((HB5.out.setCell (p := ⟨X, 0, none⟩) lX _).setCell (p := ⟨X, 1, none⟩) lX _).setCell (p := ⟨X, 2, none⟩) lX _
                have HX6 : Hid (q5.heap[X]? = some (.cells #[.string ⟨#[]⟩, .string ⟨#[]⟩, .bool false] 40)) := hq5 ▸ setCell_heap (setCell_heap (setCell_heap HX5.out 0 _) 1 _) 2 _
                rw [hq5]
                clear hq5 HM5 HB5 HX5 j0 j1 j2 jf0 jf1 jf2
                refine (nothing_no _).mono ?_
                rintro e z6 ⟨rfl, Bz⟩
                have HM7 : Hid (Sm 63 z6 G (sg m (wa + 1))) := HM6.out.below Bz HM6.out.lt
                have HB7 : Hid (Below w.heap.size w z6) := Kb.keepB HB6.out Bz
                have HX7 : Hid (z6.heap[X]? = some (.cells #[.string ⟨#[]⟩, .string ⟨#[]⟩, .bool false] 40)) := (Bz.block _ (Array.getElem?_eq_some_iff.1 HX6.out).1).trans HX6.out
                clear Bz HM6 HB6 HX6
                obtain ⟨j0, j1, j2, _⟩ := cells3 HX7.out
                have e1 : i % m = wa + 1 := rem_step m1 i0 HWA.out (by omega)
                have wa0 : 0 ≤ wa := by rw [← HWA.out]; exact Int.emod_nonneg _ (by omega)
                have e2 : (i % m == 0) = false := by rw [e1]; simp; omega
                have e3 : (i.tmod m == 0) = false := by rw [Int.tmod_eq_emod_of_nonneg (by omega)]; exact e2
                replace e1 : Hid (i % m = wa + 1) := e1
                go_wp2_with fail
                refine (state_any HM7.out).mono ?_
                rintro e x0 ⟨rfl, hx0⟩
                rw [hx0]
                clear hx0 x0
                rw [show (sg m (wa + 1)).st = 2 from rfl]
                go_wp2_with fail
                refine (ready_any HM7.out).mono ?_
                rintro e x0 ⟨rfl, hx0⟩
                rw [hx0, show decide ((sg m (wa + 1)).st = 3 ∨ (sg m (wa + 1)).st = 4) = false from rfl]
                clear hx0 x0
                go_wp2_with fail
                refine ⟨⟨i + 1, _, _, _, by simp, by omega, by omega, by rw [show i + 1 - 1 = i by omega, e1.out]; exact HM7.out, HB7.out, HX7.out⟩, ?_⟩
                simp only [intOf]
                omega
              · refine (tick_any HMf.out HOK.out).mono ?_
                rintro e y5 ⟨rfl, My, Fy⟩
                rw [(sg_tock hw).1] at My
                have HM5 : Hid (Sm 63 y5 G (sg m 0)) := My
                have HB5 : Hid (Below w.heap.size w y5) := Fr.under HBf.out Fy (by simpa using gG) HBf.out.size
                have HX5 : Hid (y5.heap[X]? = some (.cells #[u, v, t] 40)) := res_to HXf.out Fy gX
                clear My Fy HMf HBf HXf
                obtain ⟨j0, j1, j2, jf⟩ := cells3 HX5.out
                have jf0 := jf 0
                have jf1 := jf 1
                have jf2 := jf 2
                clear jf
                rw [show sayV (tick2 (sg m wa)) = .agg #[.string ⟨#[48, 48, 49]⟩, .string ⟨#[]⟩, .bool false] by rw [(sg_tock hw).2]; rfl]
                go_wp2_with fail
                obtain ⟨q5, hq5⟩ : ∃ q5, ((y5.setCell ⟨X, 0, none⟩ (.string ⟨#[48, 48, 49]⟩)).setCell ⟨X, 1, none⟩ (.string ⟨#[]⟩)).setCell ⟨X, 2, none⟩ (.bool false) = q5 := ⟨_, rfl⟩
                have HM6 : Hid (Sm 63 q5 G (sg m 0)) := hq5 ▸ sm_set3 HM5.out gX _ _ _
                have HB6 : Hid (Below w.heap.size w q5) := hq5 ▸ ((HB5.out.setCell (p := ⟨X, 0, none⟩) lX _).setCell (p := ⟨X, 1, none⟩) lX _).setCell (p := ⟨X, 2, none⟩) lX _
                have HX6 : Hid (q5.heap[X]? = some (.cells #[.string ⟨#[48, 48, 49]⟩, .string ⟨#[]⟩, .bool false] 40)) := hq5 ▸ setCell_heap (setCell_heap (setCell_heap HX5.out 0 _) 1 _) 2 _
                rw [hq5]
                clear hq5 HM5 HB5 HX5 j0 j1 j2 jf0 jf1 jf2
                refine (nothing_001 _).mono ?_
                rintro e z6 ⟨rfl, Bz⟩
                have HM7 : Hid (Sm 63 z6 G (sg m 0)) := HM6.out.below Bz HM6.out.lt
                have HB7 : Hid (Below w.heap.size w z6) := Kb.keepB HB6.out Bz
                have HX7 : Hid (z6.heap[X]? = some (.cells #[.string ⟨#[48, 48, 49]⟩, .string ⟨#[]⟩, .bool false] 40)) := (Bz.block _ (Array.getElem?_eq_some_iff.1 HX6.out).1).trans HX6.out
                clear Bz HM6 HB6 HX6
                obtain ⟨j0, j1, j2, _⟩ := cells3 HX7.out
                have e1 : i % m = 0 := rem_zero m1 i0 HWA.out (by omega)
                have e2 : (i % m == 0) = true := by simpa using e1
                have e3 : (i.tmod m == 0) = true := by rw [Int.tmod_eq_emod_of_nonneg (by omega)]; exact e2
                replace e1 : Hid (i % m = 0) := e1
                go_wp2_with fail
                refine (asks_any t001 _).mono ?_
                rintro e z7 ⟨rfl, Bz⟩
                have HM8 : Hid (Sm 63 z7 G (sg m 0)) := HM7.out.below Bz HM7.out.lt
                have HB8 : Hid (Below w.heap.size w z7) := Kb.keepB HB7.out Bz
                have HX8 : Hid (z7.heap[X]? = some (.cells #[.string ⟨#[48, 48, 49]⟩, .string ⟨#[]⟩, .bool false] 40)) := (Bz.block _ (Array.getElem?_eq_some_iff.1 HX7.out).1).trans HX7.out
                clear Bz HM7 HB7 HX7 j0 j1 j2
                go_wp2_with fail
                refine (state_any HM8.out).mono ?_
                rintro e x0 ⟨rfl, hx0⟩
                rw [hx0]
                clear hx0 x0
                rw [show (sg m 0).st = 2 from rfl]
                go_wp2_with fail
                refine (ready_any HM8.out).mono ?_
                rintro e x0 ⟨rfl, hx0⟩
                rw [hx0, show decide ((sg m 0).st = 3 ∨ (sg m 0).st = 4) = false from rfl]
                clear hx0 x0
                go_wp2_with fail
                refine ⟨⟨i + 1, _, _, _, by simp, by omega, by omega, by rw [show i + 1 - 1 = i by omega, e1.out]; exact HM8.out, HB8.out, HX8.out⟩, ?_⟩
                simp only [intOf]
                omega
            · have hr1 : (i % (1 + A0) == 0) = false := by simpa using hr
              have hr2 : (i.tmod (1 + A0) == 0) = false := by rw [Int.tmod_eq_emod_of_nonneg (by omega)]; exact hr1
              clear hr
              go_wp2_with fail
              by_cases hw : wa + 1 < m
              · refine (tick_any HM.out HOK.out).mono ?_
                rintro e y5 ⟨rfl, My, Fy⟩
                rw [(sg_tick hw).1] at My
                have HM5 : Hid (Sm 63 y5 G (sg m (wa + 1))) := My
                have HB5 : Hid (Below w.heap.size w y5) := Fr.under HB.out Fy (by simpa using gG) HB.out.size
                have HX5 : Hid (y5.heap[X]? = some (.cells #[u, v, t] 40)) := res_to HX.out Fy gX
                clear My Fy HM HB HX
                obtain ⟨j0, j1, j2, jf⟩ := cells3 HX5.out
                have jf0 := jf 0
                have jf1 := jf 1
                have jf2 := jf 2
                clear jf
                rw [show sayV (tick2 (sg m wa)) = .agg #[.string ⟨#[]⟩, .string ⟨#[]⟩, .bool false] by rw [(sg_tick hw).2]; rfl]
                go_wp2_with fail
                obtain ⟨q5, hq5⟩ : ∃ q5, ((y5.setCell ⟨X, 0, none⟩ (.string ⟨#[]⟩)).setCell ⟨X, 1, none⟩ (.string ⟨#[]⟩)).setCell ⟨X, 2, none⟩ (.bool false) = q5 := ⟨_, rfl⟩
                have HM6 : Hid (Sm 63 q5 G (sg m (wa + 1))) := hq5 ▸ sm_set3 HM5.out gX _ _ _
                have HB6 : Hid (Below w.heap.size w q5) := hq5 ▸ ((HB5.out.setCell (p := ⟨X, 0, none⟩) lX _).setCell (p := ⟨X, 1, none⟩) lX _).setCell (p := ⟨X, 2, none⟩) lX _
                have HX6 : Hid (q5.heap[X]? = some (.cells #[.string ⟨#[]⟩, .string ⟨#[]⟩, .bool false] 40)) := hq5 ▸ setCell_heap (setCell_heap (setCell_heap HX5.out 0 _) 1 _) 2 _
                rw [hq5]
                clear hq5 HM5 HB5 HX5 j0 j1 j2 jf0 jf1 jf2
                refine (nothing_no _).mono ?_
                rintro e z6 ⟨rfl, Bz⟩
                have HM7 : Hid (Sm 63 z6 G (sg m (wa + 1))) := HM6.out.below Bz HM6.out.lt
                have HB7 : Hid (Below w.heap.size w z6) := Kb.keepB HB6.out Bz
                have HX7 : Hid (z6.heap[X]? = some (.cells #[.string ⟨#[]⟩, .string ⟨#[]⟩, .bool false] 40)) := (Bz.block _ (Array.getElem?_eq_some_iff.1 HX6.out).1).trans HX6.out
                clear Bz HM6 HB6 HX6
                obtain ⟨j0, j1, j2, _⟩ := cells3 HX7.out
                have e1 : i % m = wa + 1 := rem_step m1 i0 HWA.out (by omega)
                have wa0 : 0 ≤ wa := by rw [← HWA.out]; exact Int.emod_nonneg _ (by omega)
                have e2 : (i % m == 0) = false := by rw [e1]; simp; omega
                have e3 : (i.tmod m == 0) = false := by rw [Int.tmod_eq_emod_of_nonneg (by omega)]; exact e2
                replace e1 : Hid (i % m = wa + 1) := e1
                go_wp2_with fail
                refine (state_any HM7.out).mono ?_
                rintro e x0 ⟨rfl, hx0⟩
                rw [hx0]
                clear hx0 x0
                rw [show (sg m (wa + 1)).st = 2 from rfl]
                go_wp2_with fail
                refine (ready_any HM7.out).mono ?_
                rintro e x0 ⟨rfl, hx0⟩
                rw [hx0, show decide ((sg m (wa + 1)).st = 3 ∨ (sg m (wa + 1)).st = 4) = false from rfl]
                clear hx0 x0
                go_wp2_with fail
                refine ⟨⟨i + 1, _, _, _, by simp, by omega, by omega, by rw [show i + 1 - 1 = i by omega, e1.out]; exact HM7.out, HB7.out, HX7.out⟩, ?_⟩
                simp only [intOf]
                omega
              · refine (tick_any HM.out HOK.out).mono ?_
                rintro e y5 ⟨rfl, My, Fy⟩
                rw [(sg_tock hw).1] at My
                have HM5 : Hid (Sm 63 y5 G (sg m 0)) := My
                have HB5 : Hid (Below w.heap.size w y5) := Fr.under HB.out Fy (by simpa using gG) HB.out.size
                have HX5 : Hid (y5.heap[X]? = some (.cells #[u, v, t] 40)) := res_to HX.out Fy gX
                clear My Fy HM HB HX
                obtain ⟨j0, j1, j2, jf⟩ := cells3 HX5.out
                have jf0 := jf 0
                have jf1 := jf 1
                have jf2 := jf 2
                clear jf
                rw [show sayV (tick2 (sg m wa)) = .agg #[.string ⟨#[48, 48, 49]⟩, .string ⟨#[]⟩, .bool false] by rw [(sg_tock hw).2]; rfl]
                go_wp2_with fail
                obtain ⟨q5, hq5⟩ : ∃ q5, ((y5.setCell ⟨X, 0, none⟩ (.string ⟨#[48, 48, 49]⟩)).setCell ⟨X, 1, none⟩ (.string ⟨#[]⟩)).setCell ⟨X, 2, none⟩ (.bool false) = q5 := ⟨_, rfl⟩
                have HM6 : Hid (Sm 63 q5 G (sg m 0)) := hq5 ▸ sm_set3 HM5.out gX _ _ _
                have HB6 : Hid (Below w.heap.size w q5) := hq5 ▸ ((HB5.out.setCell (p := ⟨X, 0, none⟩) lX _).setCell (p := ⟨X, 1, none⟩) lX _).setCell (p := ⟨X, 2, none⟩) lX _
                have HX6 : Hid (q5.heap[X]? = some (.cells #[.string ⟨#[48, 48, 49]⟩, .string ⟨#[]⟩, .bool false] 40)) := hq5 ▸ setCell_heap (setCell_heap (setCell_heap HX5.out 0 _) 1 _) 2 _
                rw [hq5]
                clear hq5 HM5 HB5 HX5 j0 j1 j2 jf0 jf1 jf2
                refine (nothing_001 _).mono ?_
                rintro e z6 ⟨rfl, Bz⟩
                have HM7 : Hid (Sm 63 z6 G (sg m 0)) := HM6.out.below Bz HM6.out.lt
                have HB7 : Hid (Below w.heap.size w z6) := Kb.keepB HB6.out Bz
                have HX7 : Hid (z6.heap[X]? = some (.cells #[.string ⟨#[48, 48, 49]⟩, .string ⟨#[]⟩, .bool false] 40)) := (Bz.block _ (Array.getElem?_eq_some_iff.1 HX6.out).1).trans HX6.out
                clear Bz HM6 HB6 HX6
                obtain ⟨j0, j1, j2, _⟩ := cells3 HX7.out
                have e1 : i % m = 0 := rem_zero m1 i0 HWA.out (by omega)
                have e2 : (i % m == 0) = true := by simpa using e1
                have e3 : (i.tmod m == 0) = true := by rw [Int.tmod_eq_emod_of_nonneg (by omega)]; exact e2
                replace e1 : Hid (i % m = 0) := e1
                go_wp2_with fail
                refine (asks_any t001 _).mono ?_
                rintro e z7 ⟨rfl, Bz⟩
                have HM8 : Hid (Sm 63 z7 G (sg m 0)) := HM7.out.below Bz HM7.out.lt
                have HB8 : Hid (Below w.heap.size w z7) := Kb.keepB HB7.out Bz
                have HX8 : Hid (z7.heap[X]? = some (.cells #[.string ⟨#[48, 48, 49]⟩, .string ⟨#[]⟩, .bool false] 40)) := (Bz.block _ (Array.getElem?_eq_some_iff.1 HX7.out).1).trans HX7.out
                clear Bz HM7 HB7 HX7 j0 j1 j2
                go_wp2_with fail
                refine (state_any HM8.out).mono ?_
                rintro e x0 ⟨rfl, hx0⟩
                rw [hx0]
                clear hx0 x0
                rw [show (sg m 0).st = 2 from rfl]
                go_wp2_with fail
                refine (ready_any HM8.out).mono ?_
                rintro e x0 ⟨rfl, hx0⟩
                rw [hx0, show decide ((sg m 0).st = 3 ∨ (sg m 0).st = 4) = false from rfl]
                clear hx0 x0
                go_wp2_with fail
                refine ⟨⟨i + 1, _, _, _, by simp, by omega, by omega, by rw [show i + 1 - 1 = i by omega, e1.out]; exact HM8.out, HB8.out, HX8.out⟩, ?_⟩
                simp only [intOf]
                omega
          · go_wp2_with fail
            refine (ansd_any HM.out t001 t00).mono ?_
            rintro e y9 ⟨rfl, My, Fy⟩
            have HM9 : Hid (Sm 63 y9 G ⟨2, 5, m, 3, wa, 0, 0⟩) := My
            have HB9 : Hid (Below w.heap.size w y9) := Fr.under HB.out Fy (by simpa using gG) HB.out.size
            clear My Fy HM HB HX
            rw [show sayV no = .agg #[.string ⟨#[]⟩, .string ⟨#[]⟩, .bool false] from rfl]
            go_wp2_with fail
            refine (nothing_no _).mono ?_
            rintro e z9 ⟨rfl, Bz⟩
            have HMz : Hid (Sm 63 z9 G ⟨2, 5, m, 3, wa, 0, 0⟩) := (HM9.out.alloc _).below Bz (HM9.out.alloc _).lt
            have HBz : Hid (Below w.heap.size w z9) := Kb.keepB (HB9.out.alloc HB9.out.size _) Bz
            clear Bz HM9 HB9
            go_wp2_with fail
            refine (state_any HMz.out).mono ?_
            rintro e x0 ⟨rfl, hx0⟩
            rw [hx0]
            clear hx0 x0
            go_wp2_with fail
            refine (ready_any HMz.out).mono ?_
            rintro e x0 ⟨rfl, hx0⟩
            rw [hx0]
            clear hx0 x0
            go_wp2_with fail
            go_ret
            exact ⟨rfl, HBz.out⟩
end Go.Proofs.Ythfpjkboglbcaaa.Sn
