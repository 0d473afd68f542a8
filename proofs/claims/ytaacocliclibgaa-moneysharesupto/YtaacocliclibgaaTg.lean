/- together. -/
import Derived.Test.YtaacocliclibgaaGf
import Derived.Test.YtaacocliclibgaaMs
namespace Go.Proofs.Ytaacocliclibgaa.Tg
set_option linter.unusedVariables false
open Go.RowKit Sl Kb Mp Ms
def isW (x : Int) : Bool := decide (0 ≤ x) && decide (x ≤ 1000000)
theorem isW_iff (x : Int) : isW x = true ↔ 0 ≤ x ∧ x ≤ 1000000 := by simp [isW]
def wOK (z : List Int) : Bool := decide (z.length ≤ 100) && z.all isW
def tgV (z : List Int) : Int := if wOK z then sm z else 0
def tgB (z : List Int) : Bool := wOK z && decide (0 < sm z)
theorem sm_w (l : List Int) (h : l.all isW = true) : 0 ≤ sm l ∧ sm l ≤ 1000000 * l.length := by
  induction l with
  | nil => simp [sm]
  | cons x l ih =>
    simp only [List.all_cons, Bool.and_eq_true] at h
    have h1 := (isW_iff x).1 h.1
    have h2 := ih h.2
    simp only [sm, List.length_cons]
    omega
set_option maxRecDepth 100000 in
set_option maxHeartbeats 800000 in
theorem together_at (l : List Int) (a : Addr) (cap : Nat) (w : World) (hl : l.length ≤ 1048700) (hc : ∀ i (h : i < l.length), w.cell? (a.add i) = some (.int .i64 l[i])) :
    Calls Try.prog 20 #[.slice (some a) l.length cap] w fun e w' => e = .returned (.tuple #[.int .i64 (tgV l), .bool (tgB l)]) ∧ w' = w := by
  have HC : Hid (∀ i (h : i < l.length), w.cell? (a.add i) = some (.int .i64 l[i])) := hc
  obtain ⟨V, hV⟩ : ∃ V, V = tgV l := ⟨_, rfl⟩
  obtain ⟨B, hB⟩ : ∃ B, B = tgB l := ⟨_, rfl⟩
  have HVB : Hid (V = tgV l ∧ B = tgB l) := ⟨hV, hB⟩
  rw [← hV, ← hB]
  obtain ⟨N, hN⟩ : ∃ N, N = l.length := ⟨_, rfl⟩
  rw [← hN]
  have HN : Hid (N = l.length) := hN
  have n1 : (N : Int) ≤ 1048700 := by omega
  clear hc hV hB hN hl
  by_cases h100 : (N : Int) ≤ 100
  · go_enter Try.func20, Try.ntmps20
    go_wp2_with fail
    rw [show decide ((100 : Int) < (N : Int)) = false by simp; omega]
    go_loopw [4, 12] (fun tt ii wr => ∃ (j : Nat) (S : Int), j ≤ N ∧ ii = .int .i64 (j : Int) ∧ tt = .int .i64 S ∧ 0 ≤ S ∧ S ≤ 100000000 ∧ Hid (S = sm (l.take j) ∧ (l.take j).all isW = true) ∧ wr = w) (fun _ ii _ => N + 1 - (intOf ii).toNat)
    case atStart => exact ⟨0, 0, by omega, rfl, rfl, by decide, by decide, ⟨rfl, rfl⟩, rfl⟩
    case round =>
      obtain ⟨j, S, hj, rfl, rfl, S0, S1, HA, rfl⟩ := hrel
      by_cases hj2 : j < N
      · have q : (j : Int) < (N : Int) := by omega
        have hjl : j < l.length := by have := HN.out; omega
        obtain ⟨x, hx⟩ : ∃ x, x = l[j] := ⟨_, rfl⟩
        have cz : wr.cell? (a.add j) = some (.int .i64 x) := by rw [HC.out j hjl, hx]
        by_cases hw : isW x = true
        · have hb := (isW_iff x).1 hw
          have x0 := hb.1
          have x1 := hb.2
          have HA2 : Hid (S + x = sm (l.take (j + 1)) ∧ (l.take (j + 1)).all isW = true) := by
            refine ⟨?_, all_snoc l isW j hjl HA.out.2 (by rw [← hx]; exact hw)⟩
            rw [sm_snoc l j hjl, HA.out.1, hx]
          have hS2 : S + x ≤ 100000000 := by
            have := (sm_w (l.take (j + 1)) HA2.out.2).2
            rw [← HA2.out.1, List.length_take] at this
            omega
          clear hb hw hx HA
          go_wp2_with fail
          exact ⟨⟨j + 1, S + x, by omega, by go_num, by go_num, by omega, hS2, HA2, by first | rfl | trivial⟩, by simp only [intOf]; omega⟩
        · have HX : Hid (V = 0 ∧ B = false) := by
            show _ ∧ _
            have hf : isW x = false := by simpa using hw
            have hw2 : wOK l = false := by
              rw [wOK, all_false l isW j hjl (by rw [← hx]; exact hf)]; simp
            rw [HVB.out.1, HVB.out.2, tgV, tgB, hw2]; exact ⟨rfl, rfl⟩
          have hor : x < 0 ∨ 1000000 < x := by
            have : ¬ (0 ≤ x ∧ x ≤ 1000000) := fun h => hw ((isW_iff x).2 h)
            omega
          clear hw hx HA
          rcases hor with h0 | h0
          · go_wp2_with fail
            go_ret2
            exact ⟨by rw [HX.out.1, HX.out.2]; rfl, rfl⟩
          · have h1 : ¬ x < 0 := by omega
            go_wp2_with fail
            go_ret2
            exact ⟨by rw [HX.out.1, HX.out.2]; rfl, rfl⟩
      · obtain rfl : j = N := by omega
        have HX : Hid (V = S ∧ B = decide (0 < S)) := by
          show _ ∧ _
          obtain ⟨h1, h2⟩ := HA.out
          rw [List.take_of_length_le (by have := HN.out; omega)] at h1 h2
          have hw2 : wOK l = true := by
            have := HN.out
            simp only [wOK, h2, Bool.and_true, decide_eq_true_eq]; omega
          rw [HVB.out.1, HVB.out.2, tgV, tgB, hw2, h1]; exact ⟨rfl, by simp⟩
        clear HA
        go_wp2_with fail
        go_ret2
        exact ⟨by rw [HX.out.1, HX.out.2]; rfl, rfl⟩
  · have HX : Hid (V = 0 ∧ B = false) := by
      show _ ∧ _
      have hw : wOK l = false := by
        have := HN.out
        simp [wOK]; intro; omega
      rw [HVB.out.1, HVB.out.2, tgV, tgB, hw]; exact ⟨rfl, rfl⟩
    have h101 : (100 : Int) < (N : Int) := by omega
    go_enter Try.func20, Try.ntmps20
    go_wp2_with fail
    go_ret2
    exact ⟨by rw [HX.out.1, HX.out.2]; rfl, rfl⟩
set_option maxRecDepth 100000 in
set_option maxHeartbeats 400000 in
theorem together_nil (w : World) : Calls Try.prog 20 #[.slice none 0 0] w fun e w' => e = .returned (.tuple #[.int .i64 0, .bool false]) ∧ w' = w := by
  go_enter Try.func20, Try.ntmps20
  go_wp2_with fail
  refine wp_loop_rounds 1 ?_
  rw [rounds_succ]
  go_wp2
  go_ret2
  exact ⟨rfl, rfl⟩
theorem together_lies (l : List Int) (v : Value) (w : World) (hl : l.length ≤ 1048700) (h : Lies w v l) : Calls Try.prog 20 #[v] w fun e w' => e = .returned (.tuple #[.int .i64 (tgV l), .bool (tgB l)]) ∧ w' = w := by
  rcases h with ⟨rfl, rfl⟩ | ⟨a, cap, rfl, _, _, hc, _⟩
  · exact together_nil w
  · exact together_at l a cap w hl hc
end Go.Proofs.Ytaacocliclibgaa.Tg
