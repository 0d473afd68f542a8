/- SessionQuiet: its walk. -/
import Derived.Test.YthfpjkboglbcaaaSe
import Derived.Test.YthfpjkboglbcaaaSg
namespace Go.Proofs.Ythfpjkboglbcaaa.Su
set_option linter.unusedVariables false
set_option linter.unusedSimpArgs false
open Go.RowKit Lib0 Kb Sp Sa Sc Se
theorem bnd {x : Int} (h : (Lit.int .i64 x).wf = true) : -9223372036854775808 ≤ x ∧ x ≤ 9223372036854775807 := by
  simp [Lit.wf, IntKind.min, IntKind.max, IntKind.signed, IntKind.bits] at h; omega
/-- On, so many ticks quiet -/
def qS (n m q : Int) : Ss := ⟨2, n, m, 3, 0, q, 0⟩
theorem ok_qS {n m q : Int} (n1 : 2 ≤ n) (n2 : n ≤ 301) (m1 : 1 ≤ m) (m2 : m ≤ 50) (q0 : 0 ≤ q) (q1 : q < n) : OK (qS n m q) := by
  constructor <;> dsimp only [qS] <;> first | omega | (simp; done) | (simp; omega)
theorem q_tick {n m q : Int} (n1 : 2 ≤ n) (h : q + 1 < n) : tick1 (qS n m q) = qS n m (q + 1) ∧ tick2 (qS n m q) = no := by
  constructor <;> simp [tick1, tick2, qS, h, show ¬ n = 0 by omega]
theorem q_tock {n m q : Int} (n1 : 2 ≤ n) (h : q + 1 = n) : tick1 (qS n m q) = ⟨2, n, m, 4, 0, n, 1⟩ ∧ tick2 (qS n m q) = asks t301 := by
  constructor <;> simp [tick1, tick2, qS, show ¬ q + 1 < n by omega, show ¬ n = 0 by omega]; omega
theorem q_301 {n m q : Int} : asked1 (qS n m q) t301 = qS n m 0 := by simp [asked1, grant1, qS, heard, t_ne]
theorem q_001 {n m q : Int} : asked1 (qS n m q) t001 = qS n m 0 := by simp [asked1, grant1, qS, heard, t_ne]
theorem q_ans {n m q : Int} (c b : ByteArray) : ansd (qS n m q) c b = qS n m 0 := by simp [ansd, ansd0, qS, heard]
theorem q_heard {n m q : Int} : heard (qS n m q) = qS n m 0 := by simp [qS, heard]
theorem e_301 {n m : Int} : asked1 ⟨2, n, m, 4, 0, n, 1⟩ t301 = ⟨2, n, m, 4, 0, n, 1⟩ := by simp [asked1, grant1, heard, t_ne]
theorem e_ans {n m : Int} : ansd ⟨2, n, m, 4, 0, n, 1⟩ t001 t00 = ⟨2, n, m, 4, 0, n, 1⟩ := by simp [ansd, ansd0, heard, t_ne]
theorem e_on {n m : Int} (b : ByteArray) : ansd ⟨2, n, m, 4, 0, n, 1⟩ t301 b = ⟨2, n, m, 3, 0, 0, 1⟩ := by simp [ansd, ansd0, heard]
/-- behind k ticks of the last loop -/
def qL (n m k : Int) : Ss := if k < n then qS n m k else ⟨2, n, m, 4, 0, n, 1⟩
set_option maxHeartbeats 12800000 in
set_option maxRecDepth 100000 in
theorem walk (a0 a1 : Int) (v2 : Value) (z2 : List Int) (v3 : Value) (z3 : List Int) (w : World) (w0 : (Lit.int .i64 a0).wf = true) (w1 : (Lit.int .i64 a1).wf = true) (w2 : Sg.LiesI w v2 z2) (w3 : Sg.LiesI w v3 z3) :
    Calls Try.prog 7 #[.int .i64 a0, .int .i64 a1, v2, v3] w fun e w' => e = .returned (.bool true) ∧ Below w.heap.size w w' := by
  have b0 := bnd w0
  have b1 := bnd w1
  have pk0 := fun x => Pick.pick_any a0 300 x b0.1 b0.2 (by decide) (by decide)
  have pk1 := fun x => Pick.pick_any a1 50 x b1.1 b1.2 (by decide) (by decide)
  have l0 := Pick.pick_lo a0 300 (by decide)
  have h0 := Pick.pick_hi a0 300 (by decide)
  have l1 := Pick.pick_lo a1 50 (by decide)
  have h1 := Pick.pick_hi a1 50 (by decide)
  generalize Pick.pickOf a0 300 = n0 at *
  generalize Pick.pickOf a1 50 = m0 at *
  obtain ⟨n, hn⟩ : ∃ n, 2 + n0 = n := ⟨_, rfl⟩
  obtain ⟨m, hm⟩ : ∃ m, 1 + m0 = m := ⟨_, rfl⟩
  have n1 : 2 ≤ n := by omega
  have n2 : n ≤ 301 := by omega
  have m1 : 1 ≤ m := by omega
  have m2 : m ≤ 50 := by omega
  have SG := fun x => signed_any (n := n) (m := m) (by omega) (by omega) m1 (by omega) x
  have HS2 : Hid (Sg.LiesI w v2 z2) := w2
  have HS3 : Hid (Sg.LiesI w v3 z3) := w3
  obtain ⟨so, scap, hv2, lz2, _⟩ := w2
  subst hv2
  obtain ⟨to, tcap, hv3, lz3, _⟩ := w3
  subst hv3
  clear b0 b1 w0 w1
  go_enter Try.func7, Try.ntmps7
  go_wp2_with fail
  refine (pk0 _).mono ?_
  rintro e x0 ⟨rfl, hx0⟩
  rw [hx0]
  clear hx0 x0
  go_wp2_with fail
  try rw [hn]
  have HN0 : Hid (2 + n0 = n) := hn
  clear hn l0 h0 pk0
  refine (pk1 _).mono ?_
  rintro e x0 ⟨rfl, hx0⟩
  rw [hx0]
  clear hx0 x0
  go_wp2_with fail
  try rw [hm]
  have HM0 : Hid (1 + m0 = m) := hm
  clear hm l1 h1 pk1
  refine (SG _).mono ?_
  rintro e y ⟨rfl, My, By⟩
  have HY : Hid (Sm 63 y w.heap.size (qS n m 0)) := My
  have HB : Hid (Below w.heap.size w y) := By
  clear My By SG
  obtain ⟨G, hG⟩ : ∃ G, w.heap.size = G := ⟨_, rfl⟩
  have gG : w.heap.size ≤ G := by omega
  rw [hG] at HY
  rw [hG]
  clear hG
  go_wp2_with fail
  go_loopw [12] (fun iv wr => ∃ i : Nat, iv = .int .i64 (i : Int) ∧ i ≤ z2.length ∧ i ≤ 40 ∧ Sm 63 wr G (qS n m 0) ∧ Below w.heap.size w wr) (fun iv _ => 41 - (intOf iv).toNat)
  case atStart => exact ⟨0, rfl, Nat.zero_le _, by omega, HY.out, HB.out⟩
  case round =>
    obtain ⟨i, rfl, hi, hi2, Mi, Bi⟩ := hrel
    clear HY HB
    have HM : Hid (Sm 63 wr G (qS n m 0)) := Mi
    have HB : Hid (Below w.heap.size w wr) := Bi
    clear Mi Bi
    by_cases hc : i < z2.length
    · by_cases hc2 : i < 40
      · have q0 : (i : Int) < (z2.length : Int) := by omega
        have q1 : (0 : Int) ≤ (i : Int) := by omega
        have q2 : (i : Int) < 40 := by omega
        obtain ⟨so', scap', hso, _, hat⟩ := HS2.out
        injection hso with hso1 _ hso2
        subst hso1 hso2
        obtain ⟨oa, rfl, hat1, hf1⟩ := hat i hc
        have HAT : Hid (w.cell? (oa.add i) = some (.int .i64 z2[i])) := hat1
        have bz := bnd hf1
        have pg := fun x => Pick.pick_any z2[i] n x bz.1 bz.2 (by omega) (by omega)
        have g0 := Pick.pick_lo z2[i] n (by omega)
        have g1 := Pick.pick_hi z2[i] n (by omega)
        generalize Pick.pickOf z2[i] n = g at *
        generalize z2[i] = zi at *
        have HC : Hid (i < z2.length ∧ i < 40) := ⟨hc, hc2⟩
        clear hat hat1 hf1 bz hc hc2 hi hi2
        go_wp2_with fail
        go_loopw [13] (fun kv wr => ∃ k : Int, kv = .int .i64 k ∧ 0 ≤ k ∧ k ≤ g ∧ Sm 63 wr G (qS n m k) ∧ Below w.heap.size w wr) (fun kv _ => (g + 1 - intOf kv).toNat)
        case atStart => exact ⟨0, rfl, by omega, by omega, HM.out, HB.out⟩
        case round =>
          obtain ⟨k, rfl, k0, k1, Mk, Bk⟩ := hrel
          clear HM HB
          have HM : Hid (Sm 63 wr G (qS n m k)) := Mk
          have HB : Hid (Below w.heap.size w wr) := Bk
          have t0 : wr.cell? (oa.add i) = some (.int .i64 zi) := (Bk.cell (World.block_lt_of_cell? w _ HAT.out)).trans HAT.out
          clear Mk Bk
          by_cases hk : k < g
          · have HOK : Hid (OK (qS n m k)) := ok_qS n1 n2 m1 m2 k0 (by omega)
            have HT : Hid (tick1 (qS n m k) = qS n m (k + 1) ∧ tick2 (qS n m k) = no) := q_tick n1 (by omega)
            go_wp2_with fail
            refine (pg _).mono ?_
            rintro e x0 ⟨rfl, hx0⟩
            rw [hx0]
            clear hx0 x0
            go_wp2_with fail
            refine (tick_any HM.out HOK.out).mono ?_
            rintro e y1 ⟨rfl, My, Fy⟩
            rw [HT.out.1] at My
            have HM1 : Hid (Sm 63 y1 G (qS n m (k + 1))) := My
            have HB1 : Hid (Below w.heap.size w y1) := Fr.under HB.out Fy (by simpa using gG) HB.out.size
            clear My Fy HM HB
            rw [show sayV (tick2 (qS n m k)) = .agg #[.string ⟨#[]⟩, .string ⟨#[]⟩, .bool false] by rw [HT.out.2]; rfl]
            go_wp2_with fail
            refine (nothing_no _).mono ?_
            rintro e z1 ⟨rfl, Bz⟩
            have HM2 : Hid (Sm 63 z1 G (qS n m (k + 1))) := (HM1.out.alloc _).below Bz (HM1.out.alloc _).lt
            have HB2 : Hid (Below w.heap.size w z1) := Kb.keepB (HB1.out.alloc HB1.out.size _) Bz
            clear Bz HM1 HB1
            go_wp2_with fail
            refine (state_any HM2.out).mono ?_
            rintro e x0 ⟨rfl, hx0⟩
            rw [hx0]
            clear hx0 x0
            rw [show (qS n m (k + 1)).st = 3 from rfl]
            go_wp2_with fail
            refine ⟨⟨k + 1, by simp, by omega, by omega, HM2.out, HB2.out⟩, ?_⟩
            simp only [intOf]
            omega
          · have HN : Hid (¬ k < g) := hk
            by_cases hd : i < z3.length
            · have d0 : (i : Int) < (z3.length : Int) := by omega
              obtain ⟨to', tcap', hto, _, hat⟩ := HS3.out
              injection hto with hto1 _ hto2
              subst hto1 hto2
              obtain ⟨ob, rfl, hat1, hf1⟩ := hat i hd
              have u0 : wr.cell? (ob.add i) = some (.int .i64 z3[i]) := (HB.out.cell (World.block_lt_of_cell? w _ hat1)).trans hat1
              have bz := bnd hf1
              have pw := fun x => Pick.pick_any z3[i] 5 x bz.1 bz.2 (by decide) (by decide)
              have hK : Pick.pickOf z3[i] 5 = 0 ∨ Pick.pickOf z3[i] 5 = 1 ∨ Pick.pickOf z3[i] 5 = 2 ∨ Pick.pickOf z3[i] 5 = 3 ∨ Pick.pickOf z3[i] 5 = 4 := by have := Pick.pick_lo z3[i] 5 (by decide); have := Pick.pick_hi z3[i] 5 (by decide); omega
              generalize Pick.pickOf z3[i] 5 = K at *
              generalize z3[i] = wi at *
              clear hat hat1 hf1 bz hd
              rcases hK with rfl | rfl | rfl | rfl | rfl
              · go_wp2_with fail
                refine (pg _).mono ?_
                rintro e x0 ⟨rfl, hx0⟩
                rw [hx0]
                clear hx0 x0
                go_wp2_with fail
                refine (pw _).mono ?_
                rintro e x0 ⟨rfl, hx0⟩
                rw [hx0]
                clear hx0 x0
                go_wp2_with fail
                refine (heard_any HM.out).mono ?_
                rintro e y5 ⟨rfl, My, Fy⟩
                rw [q_heard] at My
                have HM5 : Hid (Sm 63 y5 G (qS n m 0)) := My
                have HB5 : Hid (Below w.heap.size w y5) := Fr.under HB.out Fy (by simpa using gG) HB.out.size
                clear My Fy HM HB
                go_wp2_with fail
                refine (state_any HM5.out).mono ?_
                rintro e x0 ⟨rfl, hx0⟩
                rw [hx0]
                clear hx0 x0
                rw [show (qS n m 0).st = 3 from rfl]
                go_wp2_with fail
                refine ⟨⟨i + 1, by simp, HC.out.1, HC.out.2, HM5.out, HB5.out⟩, ?_⟩
                simp only [intOf]
                have := HC.out.2
                omega
              · go_wp2_with fail
                refine (pg _).mono ?_
                rintro e x0 ⟨rfl, hx0⟩
                rw [hx0]
                clear hx0 x0
                go_wp2_with fail
                refine (pw _).mono ?_
                rintro e x0 ⟨rfl, hx0⟩
                rw [hx0]
                clear hx0 x0
                go_wp2_with fail
                refine (asked_any HM.out t301 (by decide)).mono ?_
                rintro e y5 ⟨rfl, My, Fy⟩
                rw [q_301] at My
                have HM5 : Hid (Sm 63 y5 G (qS n m 0)) := My
                have HB5 : Hid (Below w.heap.size w y5) := Fr.under HB.out Fy (by simpa using gG) HB.out.size
                clear My Fy HM HB
                go_wp2_with fail
                refine (state_any HM5.out).mono ?_
                rintro e x0 ⟨rfl, hx0⟩
                rw [hx0]
                clear hx0 x0
                rw [show (qS n m 0).st = 3 from rfl]
                go_wp2_with fail
                refine ⟨⟨i + 1, by simp, HC.out.1, HC.out.2, HM5.out, HB5.out⟩, ?_⟩
                simp only [intOf]
                have := HC.out.2
                omega
              · go_wp2_with fail
                refine (pg _).mono ?_
                rintro e x0 ⟨rfl, hx0⟩
                rw [hx0]
                clear hx0 x0
                go_wp2_with fail
                refine (pw _).mono ?_
                rintro e x0 ⟨rfl, hx0⟩
                rw [hx0]
                clear hx0 x0
                go_wp2_with fail
                refine (ansd_any HM.out t301 t00).mono ?_
                rintro e y5 ⟨rfl, My, Fy⟩
                rw [q_ans] at My
                have HM5 : Hid (Sm 63 y5 G (qS n m 0)) := My
                have HB5 : Hid (Below w.heap.size w y5) := Fr.under HB.out Fy (by simpa using gG) HB.out.size
                clear My Fy HM HB
                go_wp2_with fail
                refine (state_any HM5.out).mono ?_
                rintro e x0 ⟨rfl, hx0⟩
                rw [hx0]
                clear hx0 x0
                rw [show (qS n m 0).st = 3 from rfl]
                go_wp2_with fail
                refine ⟨⟨i + 1, by simp, HC.out.1, HC.out.2, HM5.out, HB5.out⟩, ?_⟩
                simp only [intOf]
                have := HC.out.2
                omega
              · go_wp2_with fail
                refine (pg _).mono ?_
                rintro e x0 ⟨rfl, hx0⟩
                rw [hx0]
                clear hx0 x0
                go_wp2_with fail
                refine (pw _).mono ?_
                rintro e x0 ⟨rfl, hx0⟩
                rw [hx0]
                clear hx0 x0
                go_wp2_with fail
                refine (asked_any HM.out t001 (by decide)).mono ?_
                rintro e y5 ⟨rfl, My, Fy⟩
                rw [q_001] at My
                have HM5 : Hid (Sm 63 y5 G (qS n m 0)) := My
                have HB5 : Hid (Below w.heap.size w y5) := Fr.under HB.out Fy (by simpa using gG) HB.out.size
                clear My Fy HM HB
                go_wp2_with fail
                refine (state_any HM5.out).mono ?_
                rintro e x0 ⟨rfl, hx0⟩
                rw [hx0]
                clear hx0 x0
                rw [show (qS n m 0).st = 3 from rfl]
                go_wp2_with fail
                refine ⟨⟨i + 1, by simp, HC.out.1, HC.out.2, HM5.out, HB5.out⟩, ?_⟩
                simp only [intOf]
                have := HC.out.2
                omega
              · go_wp2_with fail
                refine (pg _).mono ?_
                rintro e x0 ⟨rfl, hx0⟩
                rw [hx0]
                clear hx0 x0
                go_wp2_with fail
                refine (pw _).mono ?_
                rintro e x0 ⟨rfl, hx0⟩
                rw [hx0]
                clear hx0 x0
                go_wp2_with fail
                refine (ansd_any HM.out ⟨#[120]⟩ ⟨#[]⟩).mono ?_
                rintro e y5 ⟨rfl, My, Fy⟩
                rw [q_ans] at My
                have HM5 : Hid (Sm 63 y5 G (qS n m 0)) := My
                have HB5 : Hid (Below w.heap.size w y5) := Fr.under HB.out Fy (by simpa using gG) HB.out.size
                clear My Fy HM HB
                go_wp2_with fail
                refine (state_any HM5.out).mono ?_
                rintro e x0 ⟨rfl, hx0⟩
                rw [hx0]
                clear hx0 x0
                rw [show (qS n m 0).st = 3 from rfl]
                go_wp2_with fail
                refine ⟨⟨i + 1, by simp, HC.out.1, HC.out.2, HM5.out, HB5.out⟩, ?_⟩
                simp only [intOf]
                have := HC.out.2
                omega
            · have d0 : ¬ (i : Int) < (z3.length : Int) := by omega
              clear hd
              go_wp2_with fail
              refine (pg _).mono ?_
              rintro e x0 ⟨rfl, hx0⟩
              rw [hx0]
              clear hx0 x0
              go_wp2_with fail
              refine (heard_any HM.out).mono ?_
              rintro e y5 ⟨rfl, My, Fy⟩
              rw [q_heard] at My
              have HM5 : Hid (Sm 63 y5 G (qS n m 0)) := My
              have HB5 : Hid (Below w.heap.size w y5) := Fr.under HB.out Fy (by simpa using gG) HB.out.size
              clear My Fy HM HB
              go_wp2_with fail
              refine (state_any HM5.out).mono ?_
              rintro e x0 ⟨rfl, hx0⟩
              rw [hx0]
              clear hx0 x0
              rw [show (qS n m 0).st = 3 from rfl]
              go_wp2_with fail
              refine ⟨⟨i + 1, by simp, HC.out.1, HC.out.2, HM5.out, HB5.out⟩, ?_⟩
              simp only [intOf]
              have := HC.out.2
              omega
      · have q0 : (i : Int) < (z2.length : Int) := by omega
        have q2 : ¬ (i : Int) < 40 := by omega
        clear hc hc2 hi hi2
        go_wp2_with fail
        have HM0' : Hid (Sm 63 wr G (qL n m 0)) := by rw [show qL n m 0 = qS n m 0 by simp [qL, show 0 < n by omega]]; exact HM.out
        clear HM
        go_loopw [17] (fun kv wr => ∃ k : Int, kv = .int .i64 k ∧ 1 ≤ k ∧ k ≤ n + 1 ∧ Sm 63 wr G (qL n m (k - 1)) ∧ Below w.heap.size w wr) (fun kv _ => (n + 2 - intOf kv).toNat)
        case atStart => exact ⟨1, rfl, by omega, by omega, HM0'.out, HB.out⟩
        case round =>
          obtain ⟨k, rfl, k0, k1, Mk, Bk⟩ := hrel
          clear HM0' HB
          have HB : Hid (Below w.heap.size w wr) := Bk
          by_cases hk : k ≤ n
          · have e0 : qL n m (k - 1) = qS n m (k - 1) := by simp [qL, show k - 1 < n by omega]
            rw [e0] at Mk
            have HM : Hid (Sm 63 wr G (qS n m (k - 1))) := Mk
            have HOK : Hid (OK (qS n m (k - 1))) := ok_qS n1 n2 m1 m2 (by omega) (by omega)
            clear Mk Bk e0
            by_cases hl : k < n
            · have HT : Hid (tick1 (qS n m (k - 1)) = qL n m k ∧ tick2 (qS n m (k - 1)) = no) := by
                have := q_tick (m := m) (q := k - 1) n1 (by omega)
                rw [show k - 1 + 1 = k by omega] at this
                rw [show qL n m k = qS n m k by simp [qL, hl]]; exact this
              have hl2 : (k == n) = false := by simp; omega
              go_wp2_with fail
              refine (tick_any HM.out HOK.out).mono ?_
              rintro e y1 ⟨rfl, My, Fy⟩
              rw [HT.out.1] at My
              have HM1 : Hid (Sm 63 y1 G (qL n m k)) := My
              have HB1 : Hid (Below w.heap.size w y1) := Fr.under HB.out Fy (by simpa using gG) HB.out.size
              clear My Fy HM HB
              rw [show sayV (tick2 (qS n m (k - 1))) = .agg #[.string ⟨#[]⟩, .string ⟨#[]⟩, .bool false] by rw [HT.out.2]; rfl]
              go_wp2_with fail
              refine (nothing_no _).mono ?_
              rintro e z1 ⟨rfl, Bz⟩
              have HM2 : Hid (Sm 63 z1 G (qL n m k)) := (HM1.out.alloc _).below Bz (HM1.out.alloc _).lt
              have HB2 : Hid (Below w.heap.size w z1) := Kb.keepB (HB1.out.alloc HB1.out.size _) Bz
              clear Bz HM1 HB1
              go_wp2_with fail
              refine ⟨⟨k + 1, by simp, by omega, by omega, by rw [show k + 1 - 1 = k by omega]; exact HM2.out, HB2.out⟩, ?_⟩
              simp only [intOf]
              omega
            · have hkn : k = n := by omega
              have HT : Hid (tick1 (qS n m (k - 1)) = qL n m k ∧ tick2 (qS n m (k - 1)) = asks t301) := by
                have := q_tock (m := m) (q := k - 1) n1 (by omega)
                rw [show qL n m k = ⟨2, n, m, 4, 0, n, 1⟩ by simp [qL, hl]]; exact this
              have hl2 : (k == n) = true := by simpa using hkn
              replace hkn : Hid (k = n) := hkn
              clear hl
              go_wp2_with fail
              refine (tick_any HM.out HOK.out).mono ?_
              rintro e y1 ⟨rfl, My, Fy⟩
              rw [HT.out.1] at My
              have HM1 : Hid (Sm 63 y1 G (qL n m k)) := My
              have HB1 : Hid (Below w.heap.size w y1) := Fr.under HB.out Fy (by simpa using gG) HB.out.size
              clear My Fy HM HB
              rw [show sayV (tick2 (qS n m (k - 1))) = .agg #[.string ⟨#[51, 48, 49]⟩, .string ⟨#[]⟩, .bool false] by rw [HT.out.2]; rfl]
              go_wp2_with fail
              refine (nothing_301 _).mono ?_
              rintro e z1 ⟨rfl, Bz⟩
              have HM2 : Hid (Sm 63 z1 G (qL n m k)) := (HM1.out.alloc _).below Bz (HM1.out.alloc _).lt
              have HB2 : Hid (Below w.heap.size w z1) := Kb.keepB (HB1.out.alloc HB1.out.size _) Bz
              have hx : z1.heap[y1.heap.size]? = some (.cells #[.string ⟨#[51, 48, 49]⟩, .string ⟨#[]⟩, .bool false] 40) := (Bz.block _ (by simp)).trans (Kb.h1_0 y1 _)
              clear Bz HM1 HB1
              obtain ⟨j0, j1, j2, _⟩ := cells3 hx
              clear hx
              go_wp2_with fail
              refine (asks_any t301 _).mono ?_
              rintro e z2' ⟨rfl, Bz⟩
              have HM3 : Hid (Sm 63 z2' G (qL n m k)) := HM2.out.below Bz HM2.out.lt
              have HB3 : Hid (Below w.heap.size w z2') := Kb.keepB HB2.out Bz
              clear Bz HM2 HB2 j0 j1 j2
              go_wp2_with fail
              refine ⟨⟨k + 1, by simp, by omega, by have := hkn.out; omega, by rw [show k + 1 - 1 = k by omega]; exact HM3.out, HB3.out⟩, ?_⟩
              simp only [intOf]
              have := hkn.out
              omega
          · have e0 : qL n m (k - 1) = ⟨2, n, m, 4, 0, n, 1⟩ := by simp [qL, show ¬ k - 1 < n by omega]
            rw [e0] at Mk
            have HM : Hid (Sm 63 wr G ⟨2, n, m, 4, 0, n, 1⟩) := Mk
            clear Mk Bk e0
            go_wp2_with fail
            refine (state_any HM.out).mono ?_
            rintro e x0 ⟨rfl, hx0⟩
            rw [hx0]
            clear hx0 x0
            go_wp2_with fail
            refine (heard_any HM.out).mono ?_
            rintro e y1 ⟨rfl, My, Fy⟩
            rw [show heard ⟨2, n, m, 4, 0, n, 1⟩ = ⟨2, n, m, 4, 0, n, 1⟩ from rfl] at My
            have HM1 : Hid (Sm 63 y1 G ⟨2, n, m, 4, 0, n, 1⟩) := My
            have HB1 : Hid (Below w.heap.size w y1) := Fr.under HB.out Fy (by simpa using gG) HB.out.size
            clear My Fy HM HB
            go_wp2_with fail
            refine (asked_any HM1.out t301 (by decide)).mono ?_
            rintro e y2 ⟨rfl, My, Fy⟩
            rw [e_301] at My
            have HM2 : Hid (Sm 63 y2 G ⟨2, n, m, 4, 0, n, 1⟩) := My
            have HB2 : Hid (Below w.heap.size w y2) := Fr.under HB1.out Fy (by simpa using gG) HB1.out.size
            clear My Fy HM1 HB1
            go_wp2_with fail
            refine (ansd_any HM2.out t001 t00).mono ?_
            rintro e y3 ⟨rfl, My, Fy⟩
            rw [e_ans] at My
            have HM3 : Hid (Sm 63 y3 G ⟨2, n, m, 4, 0, n, 1⟩) := My
            have HB3 : Hid (Below w.heap.size w y3) := Fr.under HB2.out Fy (by simpa using gG) HB2.out.size
            clear My Fy HM2 HB2
            go_wp2_with fail
            refine (state_any HM3.out).mono ?_
            rintro e x0 ⟨rfl, hx0⟩
            rw [hx0]
            clear hx0 x0
            go_wp2_with fail
            refine (ansd_any HM3.out t301 ⟨#[57, 57]⟩).mono ?_
            rintro e y4 ⟨rfl, My, Fy⟩
            rw [e_on] at My
            have HM4 : Hid (Sm 63 y4 G ⟨2, n, m, 3, 0, 0, 1⟩) := My
            have HB4 : Hid (Below w.heap.size w y4) := Fr.under HB3.out Fy (by simpa using gG) HB3.out.size
            clear My Fy HM3 HB3
            go_wp2_with fail
            refine (state_any HM4.out).mono ?_
            rintro e x0 ⟨rfl, hx0⟩
            rw [hx0]
            clear hx0 x0
            go_wp2_with fail
            go_ret
            exact ⟨rfl, HB4.out⟩
    · have q0 : ¬ (i : Int) < (z2.length : Int) := by omega
      clear hc hi hi2
      go_wp2_with fail
      have HM0' : Hid (Sm 63 wr G (qL n m 0)) := by rw [show qL n m 0 = qS n m 0 by simp [qL, show 0 < n by omega]]; exact HM.out
      clear HM
      go_loopw [17] (fun kv wr => ∃ k : Int, kv = .int .i64 k ∧ 1 ≤ k ∧ k ≤ n + 1 ∧ Sm 63 wr G (qL n m (k - 1)) ∧ Below w.heap.size w wr) (fun kv _ => (n + 2 - intOf kv).toNat)
      case atStart => exact ⟨1, rfl, by omega, by omega, HM0'.out, HB.out⟩
      case round =>
        obtain ⟨k, rfl, k0, k1, Mk, Bk⟩ := hrel
        clear HM0' HB
        have HB : Hid (Below w.heap.size w wr) := Bk
        by_cases hk : k ≤ n
        · have e0 : qL n m (k - 1) = qS n m (k - 1) := by simp [qL, show k - 1 < n by omega]
          rw [e0] at Mk
          have HM : Hid (Sm 63 wr G (qS n m (k - 1))) := Mk
          have HOK : Hid (OK (qS n m (k - 1))) := ok_qS n1 n2 m1 m2 (by omega) (by omega)
          clear Mk Bk e0
          by_cases hl : k < n
          · have HT : Hid (tick1 (qS n m (k - 1)) = qL n m k ∧ tick2 (qS n m (k - 1)) = no) := by
              have := q_tick (m := m) (q := k - 1) n1 (by omega)
              rw [show k - 1 + 1 = k by omega] at this
              rw [show qL n m k = qS n m k by simp [qL, hl]]; exact this
            have hl2 : (k == n) = false := by simp; omega
            go_wp2_with fail
            refine (tick_any HM.out HOK.out).mono ?_
            rintro e y1 ⟨rfl, My, Fy⟩
            rw [HT.out.1] at My
            have HM1 : Hid (Sm 63 y1 G (qL n m k)) := My
            have HB1 : Hid (Below w.heap.size w y1) := Fr.under HB.out Fy (by simpa using gG) HB.out.size
            clear My Fy HM HB
            rw [show sayV (tick2 (qS n m (k - 1))) = .agg #[.string ⟨#[]⟩, .string ⟨#[]⟩, .bool false] by rw [HT.out.2]; rfl]
            go_wp2_with fail
            refine (nothing_no _).mono ?_
            rintro e z1 ⟨rfl, Bz⟩
            have HM2 : Hid (Sm 63 z1 G (qL n m k)) := (HM1.out.alloc _).below Bz (HM1.out.alloc _).lt
            have HB2 : Hid (Below w.heap.size w z1) := Kb.keepB (HB1.out.alloc HB1.out.size _) Bz
            clear Bz HM1 HB1
            go_wp2_with fail
            refine ⟨⟨k + 1, by simp, by omega, by omega, by rw [show k + 1 - 1 = k by omega]; exact HM2.out, HB2.out⟩, ?_⟩
            simp only [intOf]
            omega
          · have hkn : k = n := by omega
            have HT : Hid (tick1 (qS n m (k - 1)) = qL n m k ∧ tick2 (qS n m (k - 1)) = asks t301) := by
              have := q_tock (m := m) (q := k - 1) n1 (by omega)
              rw [show qL n m k = ⟨2, n, m, 4, 0, n, 1⟩ by simp [qL, hl]]; exact this
            have hl2 : (k == n) = true := by simpa using hkn
            replace hkn : Hid (k = n) := hkn
            clear hl
            go_wp2_with fail
            refine (tick_any HM.out HOK.out).mono ?_
            rintro e y1 ⟨rfl, My, Fy⟩
            rw [HT.out.1] at My
            have HM1 : Hid (Sm 63 y1 G (qL n m k)) := My
            have HB1 : Hid (Below w.heap.size w y1) := Fr.under HB.out Fy (by simpa using gG) HB.out.size
            clear My Fy HM HB
            rw [show sayV (tick2 (qS n m (k - 1))) = .agg #[.string ⟨#[51, 48, 49]⟩, .string ⟨#[]⟩, .bool false] by rw [HT.out.2]; rfl]
            go_wp2_with fail
            refine (nothing_301 _).mono ?_
            rintro e z1 ⟨rfl, Bz⟩
            have HM2 : Hid (Sm 63 z1 G (qL n m k)) := (HM1.out.alloc _).below Bz (HM1.out.alloc _).lt
            have HB2 : Hid (Below w.heap.size w z1) := Kb.keepB (HB1.out.alloc HB1.out.size _) Bz
            have hx : z1.heap[y1.heap.size]? = some (.cells #[.string ⟨#[51, 48, 49]⟩, .string ⟨#[]⟩, .bool false] 40) := (Bz.block _ (by simp)).trans (Kb.h1_0 y1 _)
            clear Bz HM1 HB1
            obtain ⟨j0, j1, j2, _⟩ := cells3 hx
            clear hx
            go_wp2_with fail
            refine (asks_any t301 _).mono ?_
            rintro e z2' ⟨rfl, Bz⟩
            have HM3 : Hid (Sm 63 z2' G (qL n m k)) := HM2.out.below Bz HM2.out.lt
            have HB3 : Hid (Below w.heap.size w z2') := Kb.keepB HB2.out Bz
            clear Bz HM2 HB2 j0 j1 j2
            go_wp2_with fail
            refine ⟨⟨k + 1, by simp, by omega, by have := hkn.out; omega, by rw [show k + 1 - 1 = k by omega]; exact HM3.out, HB3.out⟩, ?_⟩
            simp only [intOf]
            have := hkn.out
            omega
        · have e0 : qL n m (k - 1) = ⟨2, n, m, 4, 0, n, 1⟩ := by simp [qL, show ¬ k - 1 < n by omega]
          rw [e0] at Mk
          have HM : Hid (Sm 63 wr G ⟨2, n, m, 4, 0, n, 1⟩) := Mk
          clear Mk Bk e0
          go_wp2_with fail
          refine (state_any HM.out).mono ?_
          rintro e x0 ⟨rfl, hx0⟩
          rw [hx0]
          clear hx0 x0
          go_wp2_with fail
          refine (heard_any HM.out).mono ?_
          rintro e y1 ⟨rfl, My, Fy⟩
          rw [show heard ⟨2, n, m, 4, 0, n, 1⟩ = ⟨2, n, m, 4, 0, n, 1⟩ from rfl] at My
          have HM1 : Hid (Sm 63 y1 G ⟨2, n, m, 4, 0, n, 1⟩) := My
          have HB1 : Hid (Below w.heap.size w y1) := Fr.under HB.out Fy (by simpa using gG) HB.out.size
          clear My Fy HM HB
          go_wp2_with fail
          refine (asked_any HM1.out t301 (by decide)).mono ?_
          rintro e y2 ⟨rfl, My, Fy⟩
          rw [e_301] at My
          have HM2 : Hid (Sm 63 y2 G ⟨2, n, m, 4, 0, n, 1⟩) := My
          have HB2 : Hid (Below w.heap.size w y2) := Fr.under HB1.out Fy (by simpa using gG) HB1.out.size
          clear My Fy HM1 HB1
          go_wp2_with fail
          refine (ansd_any HM2.out t001 t00).mono ?_
          rintro e y3 ⟨rfl, My, Fy⟩
          rw [e_ans] at My
          have HM3 : Hid (Sm 63 y3 G ⟨2, n, m, 4, 0, n, 1⟩) := My
          have HB3 : Hid (Below w.heap.size w y3) := Fr.under HB2.out Fy (by simpa using gG) HB2.out.size
          clear My Fy HM2 HB2
          go_wp2_with fail
          refine (state_any HM3.out).mono ?_
          rintro e x0 ⟨rfl, hx0⟩
          rw [hx0]
          clear hx0 x0
          go_wp2_with fail
          refine (ansd_any HM3.out t301 ⟨#[57, 57]⟩).mono ?_
          rintro e y4 ⟨rfl, My, Fy⟩
          rw [e_on] at My
          have HM4 : Hid (Sm 63 y4 G ⟨2, n, m, 3, 0, 0, 1⟩) := My
          have HB4 : Hid (Below w.heap.size w y4) := Fr.under HB3.out Fy (by simpa using gG) HB3.out.size
          clear My Fy HM3 HB3
          go_wp2_with fail
          refine (state_any HM4.out).mono ?_
          rintro e x0 ⟨rfl, hx0⟩
          rw [hx0]
          clear hx0 x0
          go_wp2_with fail
          go_ret
          exact ⟨rfl, HB4.out⟩
end Go.Proofs.Ythfpjkboglbcaaa.Su
