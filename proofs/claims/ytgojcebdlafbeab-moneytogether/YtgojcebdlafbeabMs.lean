/- Amounts and sums: the program's and the document's. -/
import Derived.Test.YtgojcebdlafbeabSl
import Derived.Test.YtgojcebdlafbeabMp
import Derived.Deep.QuietTactic
namespace Go.Proofs.Ytgojcebdlafbeab.Ms
set_option linter.unusedVariables false
open Go.RowKit Mp Sl
set_option maxRecDepth 100000 in
set_option maxHeartbeats 400000 in
theorem isAmount_any (n : Int) (w : World) : Calls Try.prog 14 #[.int .i64 n] w fun e w' => e = .returned (.bool (isA n)) ∧ w' = w := by
  by_cases h0 : (0 : Int) ≤ n
  · by_cases h1 : n ≤ 999999999999
    · have e : isA n = true := (isA_iff n).2 ⟨h0, h1⟩
      rw [e]
      go_enter Try.func14, Try.ntmps14
      go_wp2
      go_ret
      exact ⟨rfl, rfl⟩
    · have e : isA n = false := by simp [isA, h1]
      rw [e]
      go_enter Try.func14, Try.ntmps14
      go_wp2
      go_ret
      exact ⟨rfl, rfl⟩
  · have e : isA n = false := by simp [isA, h0]
    rw [e]
    go_enter Try.func14, Try.ntmps14
    go_wp2
    go_ret
    exact ⟨rfl, rfl⟩
/-! allAmounts -/
set_option maxRecDepth 100000 in
set_option maxHeartbeats 400000 in
theorem allAmounts_at (l : List Int) (a : Addr) (cap : Nat) (w : World) (hl : (l.length : Int) ≤ 9223372036854775000) (hc : ∀ i (h : i < l.length), w.cell? (a.add i) = some (.int .i64 l[i])) :
    Calls Try.prog 19 #[.slice (some a) l.length cap] w fun e w' => e = .returned (.bool (l.all isA)) ∧ w' = w := by
  have HC : Hid (∀ i (h : i < l.length), w.cell? (a.add i) = some (.int .i64 l[i])) := hc
  clear hc
  go_enter Try.func19, Try.ntmps19
  go_wp2_with fail
  go_loopw [7] (fun ii wr => ∃ j : Nat, j ≤ l.length ∧ ii = .int .i64 (j : Int) ∧ Hid ((l.take j).all isA = true) ∧ wr = w) (fun ii _ => l.length + 1 - (intOf ii).toNat)
  case atStart => exact ⟨0, by omega, rfl, rfl, rfl⟩
  case round =>
    obtain ⟨j, hj, rfl, HA, rfl⟩ := hrel
    by_cases hj2 : j < l.length
    · have q : (j : Int) < (l.length : Int) := by omega
      obtain ⟨n, hn⟩ : ∃ n, n = l[j] := ⟨_, rfl⟩
      have cz : wr.cell? (a.add j) = some (.int .i64 n) := by rw [HC.out j hj2, hn]
      cases hf : isA n
      · have HV : Hid (l.all isA = false) := all_false l isA j hj2 (hn ▸ hf)
        clear hn hj hj2 HA
        go_wp2_with (go_at_call 14; refine (isAmount_any _ _).mono ?_; rintro e x ⟨rfl, rfl⟩; rw [hf])
        go_ret
        exact ⟨by rw [HV.out]; rfl, rfl⟩
      · have HA2 : Hid ((l.take (j + 1)).all isA = true) := all_snoc l isA j hj2 HA.out (hn ▸ hf)
        clear hn HA
        go_wp2_with (go_at_call 14; refine (isAmount_any _ _).mono ?_; rintro e x ⟨rfl, rfl⟩; rw [hf])
        exact ⟨⟨j + 1, by omega, by simp, HA2, by first | rfl | trivial⟩, by simp only [intOf]; omega⟩
    · obtain rfl : j = l.length := by omega
      have HV : Hid (l.all isA = true) := by have := HA.out; rwa [List.take_length] at this
      clear HA
      go_wp2_with fail
      go_ret
      exact ⟨by rw [HV.out]; rfl, rfl⟩
set_option maxRecDepth 100000 in
set_option maxHeartbeats 400000 in
theorem allAmounts_nil (w : World) : Calls Try.prog 19 #[.slice none 0 0] w fun e w' => e = .returned (.bool true) ∧ w' = w := by
  go_enter Try.func19, Try.ntmps19
  go_wp2_with fail
  refine wp_loop_rounds 1 ?_
  rw [rounds_succ]
  go_wp2
  go_ret
  exact ⟨rfl, rfl⟩
theorem allAmounts_lies (l : List Int) (v : Value) (w : World) (hl : (l.length : Int) ≤ 9223372036854775000) (h : Lies w v l) :
    Calls Try.prog 19 #[v] w fun e w' => e = .returned (.bool (l.all isA)) ∧ w' = w := by
  rcases h with ⟨rfl, rfl⟩ | ⟨a, cap, rfl, _, _, hc, _⟩
  · exact allAmounts_nil w
  · exact allAmounts_at l a cap w hl hc
/-! Sum -/
set_option maxRecDepth 100000 in
set_option maxHeartbeats 400000 in
theorem sum_at (l : List Int) (a : Addr) (cap : Nat) (w : World) (hl : (l.length : Int) ≤ 9223372036854775000) (hc : ∀ i (h : i < l.length), w.cell? (a.add i) = some (.int .i64 l[i])) (hL : Lies w (.slice (some a) l.length cap) l) :
    Calls Try.prog 12 #[.slice (some a) l.length cap] w fun e w' => e = .returned (.tuple #[.int .i64 (sumV l), .int .i64 (sumE l)]) ∧ w' = w := by
  have HC : Hid (∀ i (h : i < l.length), w.cell? (a.add i) = some (.int .i64 l[i])) := hc
  have pa := allAmounts_lies l _ w hl hL
  clear hc hL
  cases ha : l.all isA
  · rw [ha] at pa
    have hv : sumV l = 0 := by simp [sumV, ha]
    have he : sumE l = 71 := by simp [sumE, ha]
    rw [hv, he]
    go_enter Try.func12, Try.ntmps12
    go_wp2_with (go_at_call 19; refine pa.mono ?_; rintro e x ⟨rfl, rfl⟩)
    go_ret2
    exact ⟨rfl, rfl⟩
  · rw [ha] at pa
    have H0 : Hid (∀ k, 0 ≤ sm (l.take k)) := fun k => sm_nonneg _ (List.all_eq_true.2 fun x hx => List.all_eq_true.1 ha x (List.mem_of_mem_take hx))
    have HT : Hid (∀ k, sm (l.take k) ≤ sm l) := fun k => sm_take_le l ha k
    have HI : Hid (∀ i (h : i < l.length), isA l[i] = true) := fun i h => List.all_eq_true.1 ha _ (List.getElem_mem h)
    have HP : Hid (sm l ≤ 999999999999 → sumV l = sm l ∧ sumE l = 0) := fun h => by simp [sumV, sumE, ha, h]
    have HQ : Hid (¬ sm l ≤ 999999999999 → sumV l = 0 ∧ sumE l = 13) := fun h => by simp [sumV, sumE, ha, h]
    clear ha
    go_enter Try.func12, Try.ntmps12
    go_wp2_with (go_at_call 19; refine pa.mono ?_; rintro e x ⟨rfl, rfl⟩)
    clear pa
    go_loopw [4, 12] (fun tt ii wr => ∃ j : Nat, j ≤ l.length ∧ ii = .int .i64 (j : Int) ∧ tt = .int .i64 (sm (l.take j)) ∧ Hid (sm (l.take j) ≤ 999999999999) ∧ wr = x) (fun _ ii _ => l.length + 1 - (intOf ii).toNat)
    case atStart => exact ⟨0, by omega, rfl, rfl, by show _ ≤ _; simp [sm], rfl⟩
    case round =>
      obtain ⟨j, hj, rfl, rfl, HA, rfl⟩ := hrel
      by_cases hj2 : j < l.length
      · have q : (j : Int) < (l.length : Int) := by omega
        have e1 := sm_snoc l j hj2
        have e2 := H0.out (j + 1)
        have e0 := H0.out j
        have e3 := HT.out (j + 1)
        have e4 := HI.out j hj2
        obtain ⟨n, hn⟩ : ∃ n, n = l[j] := ⟨_, rfl⟩
        rw [← hn] at e1 e4
        have cz : wr.cell? (a.add j) = some (.int .i64 n) := by rw [HC.out j hj2, hn]
        have hb := (isA_iff n).1 e4
        have n1 := hb.1
        have n2 := hb.2
        have HA' := HA.out
        clear hb e4 hn
        have w1 : IntKind.i64.wrap (sm (l.take j) + n) = sm (l.take j) + n := by simp [IntKind.wrap, IntKind.signed, IntKind.bits]; omega
        have E1 : Hid (sm (l.take (j + 1)) = sm (l.take j) + n) := e1
        by_cases hs : sm (l.take (j + 1)) ≤ 999999999999
        · have e5 : isA (sm (l.take j) + n) = true := (isA_iff _).2 (by omega)
          have HS : Hid (sm (l.take (j + 1)) ≤ 999999999999) := hs
          generalize sm (l.take j) = s at *
          clear HA e1 e2 e3 hs HA'
          go_wp2_with (go_at_call 14; refine (isAmount_any _ _).mono ?_; rintro e x ⟨rfl, rfl⟩; rw [e5])
          exact ⟨⟨j + 1, by omega, by simp, by simp [E1.out], HS, by first | rfl | trivial⟩, by simp only [intOf]; omega⟩
        · have e5 : isA (sm (l.take j) + n) = false := by
            rw [Bool.eq_false_iff]; intro e; have := (isA_iff _).1 e; omega
          have HB : Hid (sumV l = 0 ∧ sumE l = 13) := HQ.out (by omega)
          generalize sm (l.take j) = s at *
          clear HA e1 e2 e3 hs HA'
          go_wp2_with (go_at_call 14; refine (isAmount_any _ _).mono ?_; rintro e x ⟨rfl, rfl⟩; rw [e5])
          go_ret2
          exact ⟨by rw [HB.out.1, HB.out.2]; rfl, rfl⟩
      · obtain rfl : j = l.length := by omega
        have HV := HA.out
        rw [List.take_length] at HV ⊢
        have HB : Hid (sumV l = sm l ∧ sumE l = 0) := HP.out HV
        clear HA HV
        go_wp2_with fail
        go_ret2
        exact ⟨by rw [HB.out.1, HB.out.2]; rfl, rfl⟩
set_option maxRecDepth 100000 in
set_option maxHeartbeats 400000 in
theorem sum_nil (w : World) : Calls Try.prog 12 #[.slice none 0 0] w fun e w' => e = .returned (.tuple #[.int .i64 0, .int .i64 0]) ∧ w' = w := by
  go_enter Try.func12, Try.ntmps12
  go_wp2_with (go_at_call 19; refine (allAmounts_nil _).mono ?_; rintro e x ⟨rfl, rfl⟩)
  refine wp_loop_rounds 1 ?_
  rw [rounds_succ]
  go_wp2
  go_ret2
  exact ⟨rfl, rfl⟩
theorem sum_lies (l : List Int) (v : Value) (w : World) (hl : (l.length : Int) ≤ 9223372036854775000) (h : Lies w v l) :
    Calls Try.prog 12 #[v] w fun e w' => e = .returned (.tuple #[.int .i64 (sumV l), .int .i64 (sumE l)]) ∧ w' = w := by
  have h' := h
  rcases h with ⟨rfl, rfl⟩ | ⟨a, cap, rfl, _, _, hc, _⟩
  · exact sum_nil w
  · exact sum_at l a cap w hl hc h'
end Go.Proofs.Ytgojcebdlafbeab.Ms
