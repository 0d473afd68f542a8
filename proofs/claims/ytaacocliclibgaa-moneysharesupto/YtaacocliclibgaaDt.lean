/- The document's Share where nothing is dealt out; both ways. -/
import Derived.Test.YtaacocliclibgaaDs
namespace Go.Proofs.Ytaacocliclibgaa.Dt
set_option linter.unusedVariables false
set_option linter.unusedSimpArgs false
open Go.RowKit Sl Kb Mp Ms So Sc Gf Tg Sa Dp Ow Ds
set_option maxRecDepth 100000 in
set_option maxHeartbeats 1600000 in
theorem dshare_arg (u : Int) (z : List Int) (a : Addr) (w : World) (cap : Nat) (hl : z.length ≤ 1048700) (hu : isA u = true) (hz : tgB z = false) (hc : ∀ i (h : i < z.length), w.cell? (a.add i) = some (.int .i64 z[i])) :
    Calls Try.prog 13 #[.int .i64 u, .slice (some a) z.length cap] w fun e w' => e = .returned (.tuple #[.slice none 0 0, .int .i64 1]) ∧ w' = w := by
  have pa := fun w => Ms.amount_any u w
  rw [hu] at pa
  have HC : Hid (∀ i (h : i < z.length), w.cell? (a.add i) = some (.int .i64 z[i])) := hc
  have HZ : Hid (tgB z = false) := hz
  obtain ⟨N, hN⟩ : ∃ N, N = z.length := ⟨_, rfl⟩
  rw [← hN]
  have HN : Hid (N = z.length) := hN
  have n1 : (N : Int) ≤ 1048700 := by omega
  clear hu hz hc hN hl
  go_enter Try.func13, Try.ntmps13
  go_wp2_with fail
  refine (pa _).mono ?_
  rintro e y ⟨rfl, hy⟩
  rw [hy]
  clear hy y pa
  by_cases h0 : (N : Int) < 1
  · go_wp2_with fail
    go_ret2
    exact ⟨rfl, rfl⟩
  have g3 : decide ((N : Int) < 1) = false := decide_eq_false h0
  by_cases h1 : (100 : Int) < (N : Int)
  · go_wp2_with fail
    go_ret2
    exact ⟨rfl, rfl⟩
  have g4 : decide ((100 : Int) < (N : Int)) = false := decide_eq_false h1
  have n2 : (N : Int) ≤ 100 := by omega
  go_wp2_with fail
  go_loopw [7, 8] (fun tt ii wr => ∃ (j : Nat) (S : Int), j ≤ N ∧ ii = .int .i64 (j : Int) ∧ tt = .int .i64 S ∧ 0 ≤ S ∧ S ≤ 100000000 ∧ Hid (S = sm (z.take j) ∧ (z.take j).all isW = true) ∧ wr = w) (fun _ ii _ => N + 1 - (intOf ii).toNat)
  case atStart => exact ⟨0, 0, by omega, rfl, rfl, by decide, by decide, ⟨rfl, rfl⟩, rfl⟩
  case round =>
    obtain ⟨j, S, hj, rfl, rfl, S0, S1, HA, rfl⟩ := hrel
    by_cases hlt : j < N
    · have q : (j : Int) < (N : Int) := by omega
      have hjl : j < z.length := by have := HN.out; omega
      obtain ⟨x, hx⟩ : ∃ x, x = z[j] := ⟨_, rfl⟩
      have cz : wr.cell? (a.add j) = some (.int .i64 x) := by rw [HC.out j hjl, hx]
      by_cases hw : isW x = true
      · have hb := (isW_iff x).1 hw
        have x0 : ¬ x < 0 := by omega
        have x1 : ¬ 1000000 < x := by omega
        have x2 := hb.1
        have x3 := hb.2
        have HA2 : Hid (S + x = sm (z.take (j + 1)) ∧ (z.take (j + 1)).all isW = true) := by
          refine ⟨?_, all_snoc z isW j hjl HA.out.2 (by rw [← hx]; exact hw)⟩
          rw [sm_snoc z j hjl, HA.out.1, hx]
        have hS2 : S + x ≤ 100000000 := by
          have := (sm_w (z.take (j + 1)) HA2.out.2).2
          rw [← HA2.out.1, List.length_take] at this
          omega
        clear hb hw hx HA
        go_wp2_with fail
        exact ⟨⟨j + 1, S + x, by omega, by go_num, by go_num, by omega, hS2, HA2, by first | rfl | trivial⟩, by simp only [intOf]; omega⟩
      · have hor : x < 0 ∨ 1000000 < x := by
          have : ¬ (0 ≤ x ∧ x ≤ 1000000) := fun h => hw ((isW_iff x).2 h)
          omega
        clear hw hx HA
        rcases hor with h0 | h0
        · go_wp2_with fail
          go_ret2
          exact ⟨rfl, rfl⟩
        · have h1 : ¬ x < 0 := by omega
          go_wp2_with fail
          go_ret2
          exact ⟨rfl, rfl⟩
    · have hS : S = 0 := by
        obtain ⟨h1, h2⟩ := HA.out
        have hn := HN.out
        rw [List.take_of_length_le (by omega)] at h1 h2
        have h3 := HZ.out
        have hw2 : wOK z = true := by
          simp only [wOK, h2, Bool.and_true, decide_eq_true_eq]; omega
        rw [tgB, hw2, Bool.true_and, decide_eq_false_iff_not] at h3
        omega
      subst hS
      have nq : ¬ (j : Int) < (N : Int) := by omega
      clear HA
      go_wp2_with fail
      go_ret2
      exact ⟨rfl, rfl⟩
set_option maxRecDepth 100000 in
set_option maxHeartbeats 800000 in
theorem dshare_nil (u : Int) (w : World) (hu : isA u = true) : Calls Try.prog 13 #[.int .i64 u, .slice none 0 0] w fun e w' => e = .returned (.tuple #[.slice none 0 0, .int .i64 1]) ∧ w' = w := by
  have pa := fun w => Ms.amount_any u w
  rw [hu] at pa
  go_enter Try.func13, Try.ntmps13
  go_wp2_with fail
  refine (pa _).mono ?_
  rintro e y ⟨rfl, hy⟩
  rw [hy]
  clear hy y pa
  go_wp2_with fail
  go_ret2
  exact ⟨rfl, rfl⟩
set_option maxRecDepth 100000 in
set_option maxHeartbeats 800000 in
theorem dshare_amt (u : Int) (v : Value) (w : World) (hu : isA u = false) : Calls Try.prog 13 #[.int .i64 u, v] w fun e w' => e = .returned (.tuple #[.slice none 0 0, .int .i64 71]) ∧ w' = w := by
  have pa := fun w => Ms.amount_any u w
  rw [hu] at pa
  go_enter Try.func13, Try.ntmps13
  go_wp2_with fail
  refine (pa _).mono ?_
  rintro e y ⟨rfl, hy⟩
  rw [hy]
  clear hy y pa
  go_wp2_with fail
  go_ret2
  exact ⟨rfl, rfl⟩
/-- not dealt out -/
theorem dshare_bad (u : Int) (z : List Int) (v : Value) (w : World) (hl : z.length ≤ 1048700) (h : Lies w v z) (hb : isA u = true → tgB z = false) :
    Calls Try.prog 13 #[.int .i64 u, v] w fun e w' => e = .returned (.tuple #[.slice none 0 0, .int .i64 (Sj.shE u z)]) ∧ w' = w := by
  cases hu : isA u with
  | false =>
    have e : Sj.shE u z = 71 := by rw [Sj.shE, hu]; rfl
    rw [e]
    exact dshare_amt u v w hu
  | true =>
    have hz := hb hu
    have e : Sj.shE u z = 1 := by rw [Sj.shE, hu, hz]; rfl
    rw [e]
    rcases h with ⟨rfl, rfl⟩ | ⟨a, cap, rfl, _, _, hc, _⟩
    · exact dshare_nil u w hu
    · exact dshare_arg u z a w cap hl hu hz hc
theorem dshare_good (u : Int) (z : List Int) (v : Value) (w : World) (c : Nat → Nat) (h : Lies w v z) (hu : isA u = true) (hz : tgB z = true) (hm : Mix id c 0 z.length) (hs : Srt (rF u z) c 0 z.length) (hcb : ∀ k, k < z.length → c k < z.length) :
    Calls Try.prog 13 #[.int .i64 u, v] w fun e w' => ∃ g co, e = .returned (.tuple #[.slice (some ⟨g, 0, none⟩) z.length co, .int .i64 0]) ∧ w'.ownsRow w.heap.size 3 1 (.slice (some ⟨g, 0, none⟩) z.length co) z.length (iv (fl (more (xF u z) c (u - xS u z z.length).toNat) z.length)) ∧ Below w.heap.size w w' := by
  rcases h with ⟨rfl, rfl⟩ | ⟨a, cap, rfl, _, _, hc, _⟩
  · simp [tgB, wOK, sm] at hz
  · exact dshare_ok u z a w cap c hu hz hc hm hs hcb
end Go.Proofs.Ytaacocliclibgaa.Dt
