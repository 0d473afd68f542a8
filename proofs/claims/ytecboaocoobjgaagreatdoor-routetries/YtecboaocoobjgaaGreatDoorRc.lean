/- Choose, of the program and of the document. -/
import Derived.Test.YtecboaocoobjgaaGreatDoorRs
import Derived.BigQuiet
namespace Go.Proofs.YtecboaocoobjgaaGreatDoor.Rc
set_option linter.unusedVariables false
set_option linter.unusedSimpArgs false
open Go.RowKit Lib0 Kb Rp Rw Rs
/-- numbers that can be read -/
def RI (w : World) (v : Value) (z : List Int) : Prop := ∃ o cap, v = .slice o z.length cap ∧ z.length ≤ 9223372036854775807 ∧ ∀ i (h : i < z.length), ∃ a : Addr, o = some a ∧ w.cell? (a.add i) = some (.int .i64 z[i])
/-- truths that can be read -/
def RB (w : World) (v : Value) (z : List Bool) : Prop := ∃ o cap, v = .slice o z.length cap ∧ z.length ≤ 9223372036854775807 ∧ ∀ i (h : i < z.length), ∃ a : Addr, o = some a ∧ w.cell? (a.add i) = some (.bool z[i])
theorem RI.below {w y : World} {v : Value} {z : List Int} (h : RI w v z) (hb : Below w.heap.size w y) : RI y v z := by
  obtain ⟨o, cap, e, h1, hc⟩ := h
  refine ⟨o, cap, e, h1, fun i hi => ?_⟩
  obtain ⟨a, ea, c0⟩ := hc i hi
  exact ⟨a, ea, (hb.cell (World.block_lt_of_cell? w _ c0)).trans c0⟩
theorem RB.below {w y : World} {v : Value} {z : List Bool} (h : RB w v z) (hb : Below w.heap.size w y) : RB y v z := by
  obtain ⟨o, cap, e, h1, hc⟩ := h
  refine ⟨o, cap, e, h1, fun i hi => ?_⟩
  obtain ⟨a, ea, c0⟩ := hc i hi
  exact ⟨a, ea, (hb.cell (World.block_lt_of_cell? w _ c0)).trans c0⟩
/-- a link that may be chosen -/
def fitB (rd : List Bool) (n : Int) : Bool := decide (0 ≤ n) && decide (n < (rd.length : Int)) && rd.getD n.toNat false
def cho (ls : List Int) (rd : List Bool) : Option Int := ls.find? (fitB rd)
theorem cho_hit (ls : List Int) (rd : List Bool) (k : Nat) (hk : k < ls.length) (ha : ∀ j (h : j < ls.length), j < k → fitB rd ls[j] = false) (h : fitB rd (ls[k]'hk) = true) : cho ls rd = some (ls[k]'hk) := by
  rw [cho, List.find?_eq_some_iff_getElem]
  exact ⟨h, k, hk, rfl, fun j hj => by rw [ha j (by omega) hj]; rfl⟩
theorem cho_miss (ls : List Int) (rd : List Bool) (ha : ∀ j (h : j < ls.length), fitB rd ls[j] = false) : cho ls rd = none := by
  rw [cho, List.find?_eq_none]
  intro x hx
  obtain ⟨j, hj, e⟩ := List.getElem_of_mem hx
  rw [← e, ha j hj]; decide
def chE (r : Option Int) : Ending := .returned (.tuple #[.int .i64 (r.getD 0), .bool r.isSome])
set_option maxRecDepth 100000 in
set_option maxHeartbeats 1600000 in
theorem choose_any (ls : List Int) (rd : List Bool) (nm : ByteArray) (s1 s2 s3 s4 : Int) (v u : Value) (w : World) (hv : RI w v ls) (hu : RB w u rd) : Calls Tryz.prog 10 #[.agg #[.string nm, v, .int .i64 s1, .int .i64 s2, .int .i64 s3, .int .i64 s4], u] w fun e w' => e = chE (cho ls rd) ∧ Below w.heap.size w w' := by
  have pp := fun n m w => isPlace_any n m w
  have hv0 := hv
  obtain ⟨o, cap, rfl, h1, -⟩ := hv
  have hu0 := hu
  obtain ⟨p, cap2, rfl, h2, -⟩ := hu
  have hv1 := hv0.below (below_one w (.cells #[.string nm, .slice o ls.length cap, .int .i64 s1, .int .i64 s2, .int .i64 s3, .int .i64 s4] 53))
  have hu1 := hu0.below (below_one w (.cells #[.string nm, .slice o ls.length cap, .int .i64 s1, .int .i64 s2, .int .i64 s3, .int .i64 s4] 53))
  have HB : Hid (Below w.heap.size w (w.alloc (.cells #[.string nm, .slice o ls.length cap, .int .i64 s1, .int .i64 s2, .int .i64 s3, .int .i64 s4] 53))) := below_one w _
  obtain ⟨N, HN⟩ : ∃ N, Hid (ls.length = N) := ⟨_, rfl⟩
  obtain ⟨M, HM⟩ : ∃ M, Hid (rd.length = M) := ⟨_, rfl⟩
  rw [HN.out] at hv1 hu1 h1 HB ⊢
  rw [HM.out] at hu1 h2 ⊢
  have H1 : Hid (N ≤ 9223372036854775807) := h1
  obtain ⟨R, HR⟩ : ∃ R, Hid (cho ls rd = R) := ⟨_, rfl⟩
  rw [HR.out]
  clear hv0 hu0 h1 h2
  obtain ⟨W, hW⟩ : ∃ W, w.alloc (.cells #[.string nm, .slice o N cap, .int .i64 s1, .int .i64 s2, .int .i64 s3, .int .i64 s4] 53) = W := ⟨_, rfl⟩
  have HC : Hid (∀ i (h : i < ls.length), ∃ a : Addr, o = some a ∧ W.cell? (a.add i) = some (.int .i64 ls[i])) := by
    rw [hW] at hv1
    obtain ⟨o', cap', e, _, hc⟩ := hv1
    cases e
    exact hc
  have HD : Hid (∀ i (h : i < rd.length), ∃ a : Addr, p = some a ∧ W.cell? (a.add i) = some (.bool rd[i])) := by
    rw [hW] at hu1
    obtain ⟨o', cap', e, _, hc⟩ := hu1
    cases e
    exact hc
  rw [hW] at HB
  have cW : W.cell? ⟨w.heap.size, 1, none⟩ = some (.slice o N cap) := by rw [← hW]; simp only [World.cell?, h1_0]; rfl
  clear hv1 hu1
  go_enter Tryz.func10, Tryz.ntmps10
  go_wp2_with fail
  clear hW cW
  go_loopw [11] (fun iv wr => ∃ k : Nat, iv = .int .i64 (k : Int) ∧ k ≤ N ∧ (∀ j (h : j < ls.length), j < k → fitB rd ls[j] = false) ∧ wr = W) (fun iv _ => N + 1 - (intOf iv).toNat)
  case atStart => exact ⟨0, rfl, Nat.zero_le _, fun j h hj => absurd hj (Nat.not_lt_zero _), rfl⟩
  case round =>
    obtain ⟨k, rfl, hk, hall, rfl⟩ := hrel
    have HA : Hid (∀ j (h : j < ls.length), j < k → fitB rd ls[j] = false) := hall
    clear hall
    by_cases hc : k < N
    · have q0 : (k : Int) < (N : Int) := by omega
      have q1 : (0 : Int) ≤ (k : Int) := by omega
      have q2 : (k : Int) + 1 ≤ 9223372036854775807 := by have := H1.out; omega
      have hkl : k < ls.length := by rw [HN.out]; exact hc
      obtain ⟨a, rfl, c0⟩ := HC.out k hkl
      obtain ⟨n, hn⟩ : ∃ n, ls[k]'hkl = n := ⟨_, rfl⟩
      rw [hn] at c0
      have HX : Hid (fitB rd n = true → R = some n) := fun h => by
        have := cho_hit ls rd k hkl HA.out (by rw [hn]; exact h)
        rw [HR.out, hn] at this; exact this
      have HY : Hid (fitB rd n = false → ∀ j (h : j < ls.length), j < k + 1 → fitB rd ls[j] = false) := fun h j hj hjk => by
        by_cases e : j < k
        · exact HA.out j hj e
        · have : j = k := by omega
          subst this
          rw [hn]; exact h
      have HCC : Hid (k < N) := hc
      have pq := pp n (M : Int)
      clear hn hkl hk pp
      cases hp : (decide (0 ≤ n) && decide (n < (M : Int))) with
      | true =>
        rw [hp] at pq
        simp only [Bool.and_eq_true, decide_eq_true_eq] at hp
        obtain ⟨hn0, hn1⟩ := hp
        obtain ⟨m, rfl⟩ : ∃ m : Nat, n = (m : Int) := ⟨n.toNat, by omega⟩
        have hm : m < rd.length := by rw [HM.out]; omega
        obtain ⟨a2, rfl, d0⟩ := HD.out m hm
        cases hb : rd[m]'hm with
        | true =>
          rw [hb] at d0
          have HT : Hid (R = some (m : Int)) := HX.out (by
            simp only [fitB, HM.out, Int.toNat_natCast, List.getD_eq_getElem?_getD, List.getElem?_eq_getElem hm, hb, Option.getD_some]; simp; omega)
          clear hb hm HX HY hn0
          go_wp2_with fail
          refine (pq _).mono ?_
          rintro e y ⟨rfl, hy⟩
          rw [hy]
          clear hy y
          go_wp2_with fail
          go_ret2
          exact ⟨by rw [HT.out]; rfl, HB.out⟩
        | false =>
          rw [hb] at d0
          have HT : Hid (∀ j (h : j < ls.length), j < k + 1 → fitB rd ls[j] = false) := HY.out (by
            simp only [fitB, Int.toNat_natCast, List.getD_eq_getElem?_getD, List.getElem?_eq_getElem hm, hb, Option.getD_some]; simp)
          clear hb hm HX HY hn0
          go_wp2_with fail
          refine (pq _).mono ?_
          rintro e y ⟨rfl, hy⟩
          rw [hy]
          clear hy y
          go_wp2_with fail
          refine ⟨⟨k + 1, by simp, HCC.out, HT.out, trivial⟩, ?_⟩
          simp only [intOf]
          have := HCC.out
          omega
      | false =>
        rw [hp] at pq
        have HT : Hid (∀ j (h : j < ls.length), j < k + 1 → fitB rd ls[j] = false) := HY.out (by
          simp only [fitB, HM.out, hp]; simp)
        clear HX HY hp
        go_wp2_with fail
        refine (pq _).mono ?_
        rintro e y ⟨rfl, hy⟩
        rw [hy]
        clear hy y
        go_wp2_with fail
        refine ⟨⟨k + 1, by simp, HCC.out, HT.out, trivial⟩, ?_⟩
        simp only [intOf]
        have := HCC.out
        omega
    · have q0 : ¬ (k : Int) < (N : Int) := by omega
      have HT : Hid (R = none) := by
        show _ = _
        rw [← HR.out]
        exact cho_miss ls rd fun j h => HA.out j h (by have := HN.out; omega)
      go_wp2_with fail
      go_ret2
      exact ⟨by rw [HT.out]; rfl, HB.out⟩
end Go.Proofs.YtecboaocoobjgaaGreatDoor.Rc
