/- SessionLost: its walk. -/
import Derived.Test.YthfpjkboglbcaaaSe
namespace Go.Proofs.Ythfpjkboglbcaaa.Sl
set_option linter.unusedVariables false
set_option linter.unusedSimpArgs false
open Go.RowKit Lib0 Kb Sp Sa Sc Se
theorem bnd {x : Int} (h : (Lit.int .i64 x).wf = true) : -9223372036854775808 ≤ x ∧ x ≤ 9223372036854775807 := by
  simp [Lit.wf, IntKind.min, IntKind.max, IntKind.signed, IntKind.bits] at h; omega
/-- behind i ticks -/
def lostS (n m i : Int) : Ss := if i < n then ⟨2, n, m, 3, 0, i, 0⟩ else if i < n + m then ⟨2, n, m, 4, i - n, n, 1⟩ else if i < n + 2 * m then ⟨2, n, m, 4, i - n - m, n, 2⟩ else if i < n + 3 * m then ⟨2, n, m, 4, i - n - 2 * m, n, 3⟩ else ⟨2, n, m, 0, m, n, 3⟩
theorem lost_ok {n m i : Int} (n1 : 1 ≤ n) (n2 : n ≤ 100000) (m1 : 1 ≤ m) (m2 : m ≤ 100000) (i0 : 0 ≤ i) : OK (lostS n m i) := by
  unfold lostS
  repeat' split
  all_goals constructor <;> dsimp only <;> first | omega | (simp; done) | (simp; omega)
theorem lost_step {n m i : Int} (n1 : 1 ≤ n) (m1 : 1 ≤ m) (i0 : 0 ≤ i) (i1 : i < n + 3 * m) : tick1 (lostS n m i) = lostS n m (i + 1) := by
  by_cases h1 : i < n
  · rw [show lostS n m i = ⟨2, n, m, 3, 0, i, 0⟩ by simp [lostS, h1]]
    by_cases h2 : i + 1 < n
    · rw [show lostS n m (i + 1) = ⟨2, n, m, 3, 0, i + 1, 0⟩ by simp [lostS, h2]]
      simp [tick1, h2, show ¬ n = 0 by omega]
    · obtain rfl : n = i + 1 := by omega
      simp [tick1, lostS, show ¬ i + 1 = 0 by omega, show i + 1 < i + 1 + m by omega]
  by_cases h2 : i < n + m
  · rw [show lostS n m i = ⟨2, n, m, 4, i - n, n, 1⟩ by simp [lostS, h1, h2]]
    by_cases h3 : i + 1 < n + m
    · rw [show lostS n m (i + 1) = ⟨2, n, m, 4, i + 1 - n, n, 1⟩ by simp [lostS, h3, show ¬ i + 1 < n by omega]]
      simp [tick1, show i - n + 1 < m by omega]; omega
    · rw [show lostS n m (i + 1) = ⟨2, n, m, 4, 0, n, 2⟩ by simp [lostS, h3, show ¬ i + 1 < n by omega, show i + 1 < n + 2 * m by omega]; omega]
      simp [tick1, show ¬ i - n + 1 < m by omega]
  by_cases h3 : i < n + 2 * m
  · rw [show lostS n m i = ⟨2, n, m, 4, i - n - m, n, 2⟩ by simp [lostS, h1, h2, h3]]
    by_cases h4 : i + 1 < n + 2 * m
    · rw [show lostS n m (i + 1) = ⟨2, n, m, 4, i + 1 - n - m, n, 2⟩ by simp [lostS, h4, show ¬ i + 1 < n by omega, show ¬ i + 1 < n + m by omega]]
      simp [tick1, show i - n - m + 1 < m by omega]; omega
    · rw [show lostS n m (i + 1) = ⟨2, n, m, 4, 0, n, 3⟩ by simp [lostS, h4, show ¬ i + 1 < n by omega, show ¬ i + 1 < n + m by omega, show i + 1 < n + 3 * m by omega]; omega]
      simp [tick1, show ¬ i - n - m + 1 < m by omega]
  rw [show lostS n m i = ⟨2, n, m, 4, i - n - 2 * m, n, 3⟩ by simp [lostS, h1, h2, h3, i1]]
  by_cases h4 : i + 1 < n + 3 * m
  · rw [show lostS n m (i + 1) = ⟨2, n, m, 4, i + 1 - n - 2 * m, n, 3⟩ by simp [lostS, h4, show ¬ i + 1 < n by omega, show ¬ i + 1 < n + m by omega, show ¬ i + 1 < n + 2 * m by omega]]
    simp [tick1, show i - n - 2 * m + 1 < m by omega]; omega
  · rw [show lostS n m (i + 1) = ⟨2, n, m, 0, m, n, 3⟩ by simp [lostS, h4, show ¬ i + 1 < n by omega, show ¬ i + 1 < n + m by omega, show ¬ i + 1 < n + 2 * m by omega]]
    simp [tick1, show ¬ i - n - 2 * m + 1 < m by omega]; omega
theorem lost_say {n m i : Int} (n1 : 1 ≤ n) (m1 : 1 ≤ m) (i0 : 0 ≤ i) (i1 : i < n + 3 * m) : tick2 (lostS n m i) = if i + 1 = n ∨ i + 1 = n + m ∨ i + 1 = n + 2 * m then asks t301 else if i + 1 = n + 3 * m then gone else no := by
  by_cases h1 : i < n
  · rw [show lostS n m i = ⟨2, n, m, 3, 0, i, 0⟩ by simp [lostS, h1]]
    by_cases h2 : i + 1 < n
    · rw [if_neg (by omega), if_neg (by omega)]; simp [tick2, h2, show ¬ n = 0 by omega]
    · rw [if_pos (by omega)]; simp [tick2, h2, show ¬ n = 0 by omega]
  by_cases h2 : i < n + m
  · rw [show lostS n m i = ⟨2, n, m, 4, i - n, n, 1⟩ by simp [lostS, h1, h2]]
    by_cases h3 : i + 1 < n + m
    · rw [if_neg (by omega), if_neg (by omega)]; simp [tick2, show i - n + 1 < m by omega]
    · rw [if_pos (by omega)]; simp [tick2, show ¬ i - n + 1 < m by omega]
  by_cases h3 : i < n + 2 * m
  · rw [show lostS n m i = ⟨2, n, m, 4, i - n - m, n, 2⟩ by simp [lostS, h1, h2, h3]]
    by_cases h4 : i + 1 < n + 2 * m
    · rw [if_neg (by omega), if_neg (by omega)]; simp [tick2, show i - n - m + 1 < m by omega]
    · rw [if_pos (by omega)]; simp [tick2, show ¬ i - n - m + 1 < m by omega]
  rw [show lostS n m i = ⟨2, n, m, 4, i - n - 2 * m, n, 3⟩ by simp [lostS, h1, h2, h3, i1]]
  by_cases h4 : i + 1 < n + 3 * m
  · rw [if_neg (by omega), if_neg (by omega)]; simp [tick2, show i - n - 2 * m + 1 < m by omega]
  · rw [if_neg (by omega), if_pos (by omega)]; simp [tick2, show ¬ i - n - 2 * m + 1 < m by omega]
theorem lost_st {n m i : Int} (n1 : 1 ≤ n) (m1 : 1 ≤ m) (i0 : 0 ≤ i) : ((lostS n m i).st = 3 ∨ (lostS n m i).st = 4) ↔ i < n + 3 * m := by
  unfold lostS
  repeat' split
  all_goals simp; omega
theorem lost_st0 {n m : Int} (n1 : 1 ≤ n) (m1 : 1 ≤ m) : lostS n m (n + 3 * m) = ⟨2, n, m, 0, m, n, 3⟩ := by
  simp [lostS, show ¬ n + 3 * m < n by omega, show ¬ n + 3 * m < n + m by omega, show ¬ n + 3 * m < n + 2 * m by omega]
set_option maxHeartbeats 6400000 in
set_option maxRecDepth 100000 in
theorem walk (a0 a1 : Int) (w : World) (w0 : (Lit.int .i64 a0).wf = true) (w1 : (Lit.int .i64 a1).wf = true) :
    Calls Try.prog 5 #[.int .i64 a0, .int .i64 a1] w fun e w' => e = .returned (.bool true) ∧ Below w.heap.size w w' := by
  have b0 := bnd w0
  have b1 := bnd w1
  have pk0 := fun x => Pick.pick_any a0 100001 x b0.1 b0.2 (by decide) (by decide)
  have pk1 := fun x => Pick.pick_any a1 100000 x b1.1 b1.2 (by decide) (by decide)
  have l0 := Pick.pick_lo a0 100001 (by decide)
  have h0 := Pick.pick_hi a0 100001 (by decide)
  have l1 := Pick.pick_lo a1 100000 (by decide)
  have h1 := Pick.pick_hi a1 100000 (by decide)
  generalize Pick.pickOf a0 100001 = n at *
  generalize Pick.pickOf a1 100000 = m0 at *
  have n2 : n ≤ 100000 := by omega
  obtain ⟨m, hm⟩ : ∃ m, 1 + m0 = m := ⟨_, rfl⟩
  have m1 : 1 ≤ m := by omega
  have m2 : m ≤ 100000 := by omega
  have SG := fun x => signed_any l0 n2 m1 m2 x
  have HO : Hid (OK (onS n m)) := ok_onS l0 n2 m1 m2
  clear h0 b0 b1 w0 w1
  go_enter Try.func5, Try.ntmps5
  go_wp2_with fail
  refine (pk0 _).mono ?_
  rintro e x0 ⟨rfl, hx0⟩
  rw [hx0]
  clear hx0 x0
  go_wp2_with fail
  refine (pk1 _).mono ?_
  rintro e x0 ⟨rfl, hx0⟩
  rw [hx0]
  clear hx0 x0 pk0 pk1
  go_wp2_with fail
  try rw [hm]
  have HM0 : Hid (1 + m0 = m) := hm
  clear hm l1 h1
  refine (SG _).mono ?_
  rintro e y ⟨rfl, My, By⟩
  have HY : Hid (Sm 63 y w.heap.size (onS n m)) := My
  have HB : Hid (Below w.heap.size w y) := By
  clear My By SG
  obtain ⟨G, hG⟩ : ∃ G, w.heap.size = G := ⟨_, rfl⟩
  have gG : w.heap.size ≤ G := by omega
  rw [hG] at HY
  rw [hG]
  clear hG
  by_cases hn : n = 0
  · subst hn
    go_wp2_with fail
    go_loopw [8] (fun iv wr => ∃ i : Int, iv = .int .i64 i ∧ 0 ≤ i ∧ i ≤ 300 ∧ Sm 63 wr G (onS 0 m) ∧ Below w.heap.size w wr) (fun iv _ => (301 - intOf iv).toNat)
    case atStart => exact ⟨0, rfl, by omega, by omega, HY.out, HB.out⟩
    case round =>
      obtain ⟨i, rfl, i0, i1, Mi, Bi⟩ := hrel
      clear HY HB
      have HM : Hid (Sm 63 wr G (onS 0 m)) := Mi
      have HB : Hid (Below w.heap.size w wr) := Bi
      clear Mi Bi
      by_cases hi : i < 300
      · go_wp2_with fail
        refine (tick_any HM.out HO.out).mono ?_
        rintro e y1 ⟨rfl, My, Fy⟩
        rw [show tick1 (onS 0 m) = onS 0 m from rfl] at My
        have HM1 : Hid (Sm 63 y1 G (onS 0 m)) := My
        have HB1 : Hid (Below w.heap.size w y1) := Fr.under HB.out Fy (by simpa using gG) HB.out.size
        clear My Fy HM HB
        rw [show sayV (tick2 (onS 0 m)) = .agg #[.string ⟨#[]⟩, .string ⟨#[]⟩, .bool false] from rfl]
        go_wp2_with fail
        refine (nothing_no _).mono ?_
        rintro e z1 ⟨rfl, Bz⟩
        have HM2 : Hid (Sm 63 z1 G (onS 0 m)) := (HM1.out.alloc _).below Bz (HM1.out.alloc _).lt
        have HB2 : Hid (Below w.heap.size w z1) := Kb.keepB (HB1.out.alloc HB1.out.size _) Bz
        clear Bz HM1 HB1
        go_wp2_with fail
        refine (state_any HM2.out).mono ?_
        rintro e x0 ⟨rfl, hx0⟩
        rw [hx0]
        clear hx0 x0
        rw [show (onS 0 m).st = 3 from rfl]
        go_wp2_with fail
        refine ⟨⟨i + 1, by simp, by omega, by omega, HM2.out, HB2.out⟩, ?_⟩
        simp only [intOf]
        omega
      · go_wp2_with fail
        go_ret
        exact ⟨rfl, HB.out⟩
  · have n1 : 1 ≤ n := by omega
    have hn2 : (n == 0) = false := by simpa using hn
    have s0 : lostS n m 0 = onS n m := by simp [lostS, onS, show 0 < n by omega]
    have HY0 : Hid (Sm 63 y G (lostS n m 0)) := by rw [s0]; exact HY.out
    clear HY s0 l0
    go_wp2_with fail
    go_loopw [11] (fun iv wr => ∃ i : Int, iv = .int .i64 i ∧ 1 ≤ i ∧ i ≤ n + 3 * m + 1 ∧ Sm 63 wr G (lostS n m (i - 1)) ∧ Below w.heap.size w wr) (fun iv _ => (n + 3 * m + 2 - intOf iv).toNat)
    case atStart => exact ⟨1, rfl, by omega, by omega, HY0.out, HB.out⟩
    case round =>
      obtain ⟨i, rfl, i0, i1, Mi, Bi⟩ := hrel
      clear HY0 HB HO
      have HM : Hid (Sm 63 wr G (lostS n m (i - 1))) := Mi
      have HB : Hid (Below w.heap.size w wr) := Bi
      clear Mi Bi
      by_cases hi : i ≤ n + 3 * m
      · have HS : Hid (tick1 (lostS n m (i - 1)) = lostS n m i) := by have := lost_step (i := i - 1) n1 m1 (by omega) (by omega); rw [show i - 1 + 1 = i by omega] at this; exact this
        have HT := lost_say (i := i - 1) n1 m1 (by omega) (by omega)
        rw [show i - 1 + 1 = i by omega] at HT
        have HOK : Hid (OK (lostS n m (i - 1))) := lost_ok n1 n2 m1 m2 (by omega)
        have HST : Hid (((lostS n m i).st = 3 ∨ (lostS n m i).st = 4) ↔ i < n + 3 * m) := lost_st n1 m1 (by omega)
        by_cases e0 : i = n
        · have hc0 : i = n := by omega
          have hd0 : (i == n) = true := by simpa using hc0
          have hc1 : ¬ i = n + m := by omega
          have hd1 : (i == n + m) = false := by simpa using hc1
          have hc2 : ¬ i = n + 2 * m := by omega
          have hd2 : (i == n + 2 * m) = false := by simpa using hc2
          have hc3 : ¬ i = n + 3 * m := by omega
          have hd3 : (i == n + 3 * m) = false := by simpa using hc3
          replace hc0 : Hid (i = n) := hc0
          clear e0
          have HT2 : Hid (tick2 (lostS n m (i - 1)) = asks t301) := by rw [HT, if_pos (by have := hc0.out; omega)]; rfl
          clear HT
          go_wp2_with fail
          refine (tick_any HM.out HOK.out).mono ?_
          rintro e y1 ⟨rfl, My, Fy⟩
          rw [HS.out] at My
          have HM1 : Hid (Sm 63 y1 G (lostS n m i)) := My
          have HB1 : Hid (Below w.heap.size w y1) := Fr.under HB.out Fy (by simpa using gG) HB.out.size
          clear My Fy HM HB
          rw [show sayV (tick2 (lostS n m (i - 1))) = .agg #[.string ⟨#[51, 48, 49]⟩, .string ⟨#[]⟩, .bool false] by rw [HT2.out]; rfl]
          go_wp2_with fail
          refine (nothing_301 _).mono ?_
          rintro e z1 ⟨rfl, Bz⟩
          have HM2 : Hid (Sm 63 z1 G (lostS n m i)) := (HM1.out.alloc _).below Bz (HM1.out.alloc _).lt
          have HB2 : Hid (Below w.heap.size w z1) := Kb.keepB (HB1.out.alloc HB1.out.size _) Bz
          have hx : z1.heap[y1.heap.size]? = some (.cells #[.string ⟨#[51, 48, 49]⟩, .string ⟨#[]⟩, .bool false] 40) := (Bz.block _ (by simp)).trans (Kb.h1_0 y1 _)
          clear Bz HM1 HB1
          obtain ⟨j0, j1, j2, _⟩ := cells3 hx
          clear hx
          go_wp2_with fail
          refine (asks_any t301 _).mono ?_
          rintro e z2 ⟨rfl, Bz⟩
          have HM3 : Hid (Sm 63 z2 G (lostS n m i)) := HM2.out.below Bz HM2.out.lt
          have HB3 : Hid (Below w.heap.size w z2) := Kb.keepB HB2.out Bz
          clear Bz HM2 HB2 j0 j1 j2
          go_wp2_with fail
          refine (ready_any HM3.out).mono ?_
          rintro e x0 ⟨rfl, hx0⟩
          rw [hx0, show decide ((lostS n m i).st = 3 ∨ (lostS n m i).st = 4) = true by exact decide_eq_true (HST.out.2 (by have := hc0.out; omega))]
          clear hx0 x0
          go_wp2_with fail
          refine ⟨⟨i + 1, by simp, by omega, by have := hc0.out; omega, by rw [show i + 1 - 1 = i by omega]; exact HM3.out, HB3.out⟩, ?_⟩
          simp only [intOf]
          omega
        by_cases e1 : i = n + m
        · have hc0 : ¬ i = n := by omega
          have hd0 : (i == n) = false := by simpa using hc0
          have hc1 : i = n + m := by omega
          have hd1 : (i == n + m) = true := by simpa using hc1
          have hc2 : ¬ i = n + 2 * m := by omega
          have hd2 : (i == n + 2 * m) = false := by simpa using hc2
          have hc3 : ¬ i = n + 3 * m := by omega
          have hd3 : (i == n + 3 * m) = false := by simpa using hc3
          replace hc1 : Hid (i = n + m) := hc1
          clear e1
          have HT2 : Hid (tick2 (lostS n m (i - 1)) = asks t301) := by rw [HT, if_pos (by have := hc1.out; omega)]; rfl
          clear HT
          go_wp2_with fail
          refine (tick_any HM.out HOK.out).mono ?_
          rintro e y1 ⟨rfl, My, Fy⟩
          rw [HS.out] at My
          have HM1 : Hid (Sm 63 y1 G (lostS n m i)) := My
          have HB1 : Hid (Below w.heap.size w y1) := Fr.under HB.out Fy (by simpa using gG) HB.out.size
          clear My Fy HM HB
          rw [show sayV (tick2 (lostS n m (i - 1))) = .agg #[.string ⟨#[51, 48, 49]⟩, .string ⟨#[]⟩, .bool false] by rw [HT2.out]; rfl]
          go_wp2_with fail
          refine (nothing_301 _).mono ?_
          rintro e z1 ⟨rfl, Bz⟩
          have HM2 : Hid (Sm 63 z1 G (lostS n m i)) := (HM1.out.alloc _).below Bz (HM1.out.alloc _).lt
          have HB2 : Hid (Below w.heap.size w z1) := Kb.keepB (HB1.out.alloc HB1.out.size _) Bz
          have hx : z1.heap[y1.heap.size]? = some (.cells #[.string ⟨#[51, 48, 49]⟩, .string ⟨#[]⟩, .bool false] 40) := (Bz.block _ (by simp)).trans (Kb.h1_0 y1 _)
          clear Bz HM1 HB1
          obtain ⟨j0, j1, j2, _⟩ := cells3 hx
          clear hx
          go_wp2_with fail
          refine (asks_any t301 _).mono ?_
          rintro e z2 ⟨rfl, Bz⟩
          have HM3 : Hid (Sm 63 z2 G (lostS n m i)) := HM2.out.below Bz HM2.out.lt
          have HB3 : Hid (Below w.heap.size w z2) := Kb.keepB HB2.out Bz
          clear Bz HM2 HB2 j0 j1 j2
          go_wp2_with fail
          refine (ready_any HM3.out).mono ?_
          rintro e x0 ⟨rfl, hx0⟩
          rw [hx0, show decide ((lostS n m i).st = 3 ∨ (lostS n m i).st = 4) = true by exact decide_eq_true (HST.out.2 (by have := hc1.out; omega))]
          clear hx0 x0
          go_wp2_with fail
          refine ⟨⟨i + 1, by simp, by omega, by have := hc1.out; omega, by rw [show i + 1 - 1 = i by omega]; exact HM3.out, HB3.out⟩, ?_⟩
          simp only [intOf]
          omega
        by_cases e2 : i = n + 2 * m
        · have hc0 : ¬ i = n := by omega
          have hd0 : (i == n) = false := by simpa using hc0
          have hc1 : ¬ i = n + m := by omega
          have hd1 : (i == n + m) = false := by simpa using hc1
          have hc2 : i = n + 2 * m := by omega
          have hd2 : (i == n + 2 * m) = true := by simpa using hc2
          have hc3 : ¬ i = n + 3 * m := by omega
          have hd3 : (i == n + 3 * m) = false := by simpa using hc3
          replace hc2 : Hid (i = n + 2 * m) := hc2
          clear e2
          have HT2 : Hid (tick2 (lostS n m (i - 1)) = asks t301) := by rw [HT, if_pos (by have := hc2.out; omega)]; rfl
          clear HT
          go_wp2_with fail
          refine (tick_any HM.out HOK.out).mono ?_
          rintro e y1 ⟨rfl, My, Fy⟩
          rw [HS.out] at My
          have HM1 : Hid (Sm 63 y1 G (lostS n m i)) := My
          have HB1 : Hid (Below w.heap.size w y1) := Fr.under HB.out Fy (by simpa using gG) HB.out.size
          clear My Fy HM HB
          rw [show sayV (tick2 (lostS n m (i - 1))) = .agg #[.string ⟨#[51, 48, 49]⟩, .string ⟨#[]⟩, .bool false] by rw [HT2.out]; rfl]
          go_wp2_with fail
          refine (nothing_301 _).mono ?_
          rintro e z1 ⟨rfl, Bz⟩
          have HM2 : Hid (Sm 63 z1 G (lostS n m i)) := (HM1.out.alloc _).below Bz (HM1.out.alloc _).lt
          have HB2 : Hid (Below w.heap.size w z1) := Kb.keepB (HB1.out.alloc HB1.out.size _) Bz
          have hx : z1.heap[y1.heap.size]? = some (.cells #[.string ⟨#[51, 48, 49]⟩, .string ⟨#[]⟩, .bool false] 40) := (Bz.block _ (by simp)).trans (Kb.h1_0 y1 _)
          clear Bz HM1 HB1
          obtain ⟨j0, j1, j2, _⟩ := cells3 hx
          clear hx
          go_wp2_with fail
          refine (asks_any t301 _).mono ?_
          rintro e z2 ⟨rfl, Bz⟩
          have HM3 : Hid (Sm 63 z2 G (lostS n m i)) := HM2.out.below Bz HM2.out.lt
          have HB3 : Hid (Below w.heap.size w z2) := Kb.keepB HB2.out Bz
          clear Bz HM2 HB2 j0 j1 j2
          go_wp2_with fail
          refine (ready_any HM3.out).mono ?_
          rintro e x0 ⟨rfl, hx0⟩
          rw [hx0, show decide ((lostS n m i).st = 3 ∨ (lostS n m i).st = 4) = true by exact decide_eq_true (HST.out.2 (by have := hc2.out; omega))]
          clear hx0 x0
          go_wp2_with fail
          refine ⟨⟨i + 1, by simp, by omega, by have := hc2.out; omega, by rw [show i + 1 - 1 = i by omega]; exact HM3.out, HB3.out⟩, ?_⟩
          simp only [intOf]
          omega
        by_cases e3 : i = n + 3 * m
        · have hc0 : ¬ i = n := by omega
          have hd0 : (i == n) = false := by simpa using hc0
          have hc1 : ¬ i = n + m := by omega
          have hd1 : (i == n + m) = false := by simpa using hc1
          have hc2 : ¬ i = n + 2 * m := by omega
          have hd2 : (i == n + 2 * m) = false := by simpa using hc2
          have hc3 : i = n + 3 * m := by omega
          have hd3 : (i == n + 3 * m) = true := by simpa using hc3
          replace hc3 : Hid (i = n + 3 * m) := hc3
          clear e3
          have HT2 : Hid (tick2 (lostS n m (i - 1)) = gone) := by rw [HT, if_neg (by omega), if_pos hc3.out]; rfl
          clear HT
          go_wp2_with fail
          refine (tick_any HM.out HOK.out).mono ?_
          rintro e y1 ⟨rfl, My, Fy⟩
          rw [HS.out] at My
          have HM1 : Hid (Sm 63 y1 G (lostS n m i)) := My
          have HB1 : Hid (Below w.heap.size w y1) := Fr.under HB.out Fy (by simpa using gG) HB.out.size
          clear My Fy HM HB
          rw [show sayV (tick2 (lostS n m (i - 1))) = .agg #[.string ⟨#[]⟩, .string ⟨#[]⟩, .bool true] by rw [HT2.out]; rfl]
          go_wp2_with fail
          refine (nothing_gone _).mono ?_
          rintro e z1 ⟨rfl, Bz⟩
          have HM2 : Hid (Sm 63 z1 G (lostS n m i)) := (HM1.out.alloc _).below Bz (HM1.out.alloc _).lt
          have HB2 : Hid (Below w.heap.size w z1) := Kb.keepB (HB1.out.alloc HB1.out.size _) Bz
          have hx : z1.heap[y1.heap.size]? = some (.cells #[.string ⟨#[]⟩, .string ⟨#[]⟩, .bool true] 40) := (Bz.block _ (by simp)).trans (Kb.h1_0 y1 _)
          clear Bz HM1 HB1
          obtain ⟨j0, j1, j2, _⟩ := cells3 hx
          clear hx
          go_wp2_with fail
          refine (state_any HM2.out).mono ?_
          rintro e x0 ⟨rfl, hx0⟩
          rw [hx0, show (lostS n m i).st = 0 by rw [hc3.out, lost_st0 n1 m1]]
          clear hx0 x0
          go_wp2_with fail
          refine (ready_any HM2.out).mono ?_
          rintro e x0 ⟨rfl, hx0⟩
          rw [hx0, show decide ((lostS n m i).st = 3 ∨ (lostS n m i).st = 4) = false by exact decide_eq_false (fun h => by have := HST.out.1 h; have := hc3.out; omega)]
          clear hx0 x0
          go_wp2_with fail
          refine ⟨⟨i + 1, by simp, by omega, by have := hc3.out; omega, by rw [show i + 1 - 1 = i by omega]; exact HM2.out, HB2.out⟩, ?_⟩
          simp only [intOf]
          omega
        have hc0 : ¬ i = n := by omega
        have hd0 : (i == n) = false := by simpa using hc0
        have hc1 : ¬ i = n + m := by omega
        have hd1 : (i == n + m) = false := by simpa using hc1
        have hc2 : ¬ i = n + 2 * m := by omega
        have hd2 : (i == n + 2 * m) = false := by simpa using hc2
        have hc3 : ¬ i = n + 3 * m := by omega
        have hd3 : (i == n + 3 * m) = false := by simpa using hc3
        have HT2 : Hid (tick2 (lostS n m (i - 1)) = no) := by rw [HT, if_neg (by omega), if_neg (by omega)]; rfl
        clear HT
        go_wp2_with fail
        refine (tick_any HM.out HOK.out).mono ?_
        rintro e y1 ⟨rfl, My, Fy⟩
        rw [HS.out] at My
        have HM1 : Hid (Sm 63 y1 G (lostS n m i)) := My
        have HB1 : Hid (Below w.heap.size w y1) := Fr.under HB.out Fy (by simpa using gG) HB.out.size
        clear My Fy HM HB
        rw [show sayV (tick2 (lostS n m (i - 1))) = .agg #[.string ⟨#[]⟩, .string ⟨#[]⟩, .bool false] by rw [HT2.out]; rfl]
        go_wp2_with fail
        refine (nothing_no _).mono ?_
        rintro e z1 ⟨rfl, Bz⟩
        have HM2 : Hid (Sm 63 z1 G (lostS n m i)) := (HM1.out.alloc _).below Bz (HM1.out.alloc _).lt
        have HB2 : Hid (Below w.heap.size w z1) := Kb.keepB (HB1.out.alloc HB1.out.size _) Bz
        have hx : z1.heap[y1.heap.size]? = some (.cells #[.string ⟨#[]⟩, .string ⟨#[]⟩, .bool false] 40) := (Bz.block _ (by simp)).trans (Kb.h1_0 y1 _)
        clear Bz HM1 HB1
        obtain ⟨j0, j1, j2, _⟩ := cells3 hx
        clear hx
        go_wp2_with fail
        refine (ready_any HM2.out).mono ?_
        rintro e x0 ⟨rfl, hx0⟩
        rw [hx0, show decide ((lostS n m i).st = 3 ∨ (lostS n m i).st = 4) = true by exact decide_eq_true (HST.out.2 (by omega))]
        clear hx0 x0
        go_wp2_with fail
        refine ⟨⟨i + 1, by simp, by omega, by omega, by rw [show i + 1 - 1 = i by omega]; exact HM2.out, HB2.out⟩, ?_⟩
        simp only [intOf]
        omega
      · obtain rfl : i = n + 3 * m + 1 := by omega
        have hS := lost_st0 n1 m1
        have HM1 : Hid (Sm 63 wr G ⟨2, n, m, 0, m, n, 3⟩) := by have := HM.out; rw [show n + 3 * m + 1 - 1 = n + 3 * m by omega, hS] at this; exact this
        have HOK : Hid (OK ⟨2, n, m, 0, m, n, 3⟩) := by rw [← hS]; exact lost_ok n1 n2 m1 m2 (by omega)
        clear HM hS
        go_wp2_with fail
        refine (asked_any HM1.out t001 (by decide)).mono ?_
        rintro e y1 ⟨rfl, My, Fy⟩
        have HM2 : Hid (Sm 63 y1 G ⟨2, n, m, 0, m, n, 3⟩) := My
        have HB2 : Hid (Below w.heap.size w y1) := Fr.under HB.out Fy (by simpa using gG) HB.out.size
        clear My Fy HM1 HB
        rw [show sayV (asked2 ⟨2, n, m, 0, m, n, 3⟩ t001) = .agg #[.string ⟨#[]⟩, .string ⟨#[]⟩, .bool false] from rfl]
        go_wp2_with fail
        obtain ⟨q1, hq1⟩ : ∃ q1, y1.alloc (.cells #[.string ⟨#[]⟩, .string ⟨#[]⟩, .bool false] 40) = q1 := ⟨_, rfl⟩
        have HMa : Hid (Sm 63 q1 G ⟨2, n, m, 0, m, n, 3⟩) := hq1 ▸ HM2.out.alloc _
        have HBa : Hid (Below w.heap.size w q1) := hq1 ▸ HB2.out.alloc HB2.out.size _
        have hx1 : q1.heap[y1.heap.size]? = some (.cells #[.string ⟨#[]⟩, .string ⟨#[]⟩, .bool false] 40) := hq1 ▸ Kb.h1_0 y1 _
        have gq1 : y1.heap.size ≠ G := by have := HM2.out.lt; omega
        obtain ⟨p1, hp1⟩ : ∃ p1, y1.heap.size = p1 := ⟨_, rfl⟩
        rw [hp1] at hx1 gq1
        rw [hq1, hp1]
        clear hq1 hp1 HM2 HB2
        refine (tick_any HMa.out HOK.out).mono ?_
        rintro e y2 ⟨rfl, My, Fy⟩
        have HMb : Hid (Sm 63 y2 G ⟨2, n, m, 0, m, n, 3⟩) := My
        have HBb : Hid (Below w.heap.size w y2) := Fr.under HBa.out Fy (by simpa using gG) HBa.out.size
        have hx2 := res_to hx1 Fy gq1
        clear My Fy HMa HBa hx1
        rw [show sayV (tick2 ⟨2, n, m, 0, m, n, 3⟩) = .agg #[.string ⟨#[]⟩, .string ⟨#[]⟩, .bool false] from rfl]
        have hx2a : (y2.alloc (.cells #[.string ⟨#[]⟩, .string ⟨#[]⟩, .bool false] 40)).heap[p1]? = some (.cells #[.string ⟨#[]⟩, .string ⟨#[]⟩, .bool false] 40) := (Below.heap_alloc _ _ _ (Array.getElem?_eq_some_iff.1 hx2).1).trans hx2
        obtain ⟨c0, c1, c2, _⟩ := cells3 hx2a
        go_wp2_with fail
        obtain ⟨q2, hq2⟩ : ∃ q2, y2.alloc (.cells #[.string ⟨#[]⟩, .string ⟨#[]⟩, .bool false] 40) = q2 := ⟨_, rfl⟩
        have HMc : Hid (Sm 63 q2 G ⟨2, n, m, 0, m, n, 3⟩) := hq2 ▸ HMb.out.alloc _
        have HBc : Hid (Below w.heap.size w q2) := hq2 ▸ HBb.out.alloc HBb.out.size _
        have hx3 : q2.heap[y2.heap.size]? = some (.cells #[.string ⟨#[]⟩, .string ⟨#[]⟩, .bool false] 40) := hq2 ▸ Kb.h1_0 y2 _
        have gq2 : y2.heap.size ≠ G := by have := HMb.out.lt; omega
        obtain ⟨p2, hp2⟩ : ∃ p2, y2.heap.size = p2 := ⟨_, rfl⟩
        rw [hp2] at hx3 gq2
        rw [hq2, hp2]
        clear hq2 hp2 HMb HBb
        refine (nothing_no _).mono ?_
        rintro e z1 ⟨rfl, Bz⟩
        have HMd : Hid (Sm 63 z1 G ⟨2, n, m, 0, m, n, 3⟩) := HMc.out.below Bz HMc.out.lt
        have HBd : Hid (Below w.heap.size w z1) := Kb.keepB HBc.out Bz
        have hx4 := (Bz.block _ (Array.getElem?_eq_some_iff.1 hx3).1).trans hx3
        clear Bz HMc HBc hx3
        obtain ⟨d0, d1, d2, _⟩ := cells3 hx4
        go_wp2_with fail
        refine (nothing_no _).mono ?_
        rintro e z2 ⟨rfl, Bz⟩
        have HMe : Hid (Sm 63 z2 G ⟨2, n, m, 0, m, n, 3⟩) := HMd.out.below Bz HMd.out.lt
        have HBe : Hid (Below w.heap.size w z2) := Kb.keepB HBd.out Bz
        clear Bz HMd HBd hx4 d0 d1 d2
        go_wp2_with fail
        refine (state_any HMe.out).mono ?_
        rintro e x0 ⟨rfl, hx0⟩
        rw [hx0]
        clear hx0 x0
        go_wp2_with fail
        go_ret
        exact ⟨rfl, HBe.out⟩
end Go.Proofs.Ythfpjkboglbcaaa.Sl
