/- The document's Get and Same over fields without kids. -/
import Derived.Test.YtmnoplaepjaokaaGreatDoorBd
namespace Go.Proofs.YtmnoplaepjaokaaGreatDoor.Be
set_option linter.unusedVariables false
set_option linter.unusedSimpArgs false
open Go.RowKit Go.Maps Lib0 Kb Xp Ic Ix If Ig Za Zb Zc Zd Ze Zg Zh Ba Bb Bc Bd
def gt (L : List Fl) (n : Int) : Value := match L.find? (fun x => x.1 == n) with
  | some x => .tuple #[.string x.2, .bool true]
  | none => .tuple #[.string ⟨#[]⟩, .bool false]
theorem gt_hit (L : List Fl) (n : Int) (i : Nat) (h : i < L.length) (hb : ∀ j (h : j < L.length), j < i → L[j].1 ≠ n) (e : L[i].1 = n) : gt L n = .tuple #[.string L[i].2, .bool true] := by
  have : L.find? (fun x => x.1 == n) = some L[i] := by
    rw [List.find?_eq_some_iff_getElem]
    refine ⟨by simpa using e, i, h, rfl, fun j hj => ?_⟩
    simpa using hb j (by omega) hj
  rw [gt, this]
theorem gt_miss (L : List Fl) (n : Int) (hb : ∀ j (h : j < L.length), L[j].1 ≠ n) : gt L n = .tuple #[.string ⟨#[]⟩, .bool false] := by
  have : L.find? (fun x => x.1 == n) = none := by
    rw [List.find?_eq_none]
    intro x hx
    obtain ⟨j, hj, e⟩ := List.getElem_of_mem hx
    have := hb j hj
    rw [e] at this
    simpa using this
  rw [gt, this]
set_option maxRecDepth 100000 in
set_option maxHeartbeats 1600000 in
theorem get_flat (mti : ByteArray) (v : Value) (L : List Fl) (n : Int) (w : World) (h : RowF w v L) (hL : L.length ≤ 100000) : Calls Tryz.prog 36 #[.agg #[.string mti, v], .int .i64 n] w fun e w' => e = .returned (gt L n) ∧ Below w.heap.size w w' := by
  obtain ⟨o, cap, rfl, hc⟩ := h
  have HY : Hid (∀ y, Below w.heap.size w y → ∀ i (h : i < L.length), ∃ a : Addr, o = some a ∧ y.cell? (a.add (i * 3)) = some (.int .i64 L[i].1) ∧ y.cell? ⟨(a.add (i * 3)).block, (a.add (i * 3)).off + 1, none⟩ = some (.string L[i].2)) := fun y k i hi => by
    have kk : ∀ p u, w.cell? p = some u → y.cell? p = some u := fun p u hp => (k.cell (World.block_lt_of_cell? w _ hp)).trans hp
    obtain ⟨a, e, c0, c1, c2⟩ := hc i hi
    exact ⟨a, e, kk _ _ c0, kk _ _ c1⟩
  clear hc
  obtain ⟨N, HN⟩ : ∃ N, Hid (L.length = N) := ⟨_, rfl⟩
  rw [HN.out] at hL ⊢
  have HC : Hid (∀ i (h : i < L.length), ∃ a : Addr, o = some a ∧ (w.alloc (.cells #[.string mti, .slice o N cap] tG)).cell? (a.add (i * 3)) = some (.int .i64 L[i].1) ∧ (w.alloc (.cells #[.string mti, .slice o N cap] tG)).cell? ⟨(a.add (i * 3)).block, (a.add (i * 3)).off + 1, none⟩ = some (.string L[i].2)) := HY.out _ (Kb.below_one w _)
  have HNB : Hid (N ≤ 100000) := hL
  have HBW : Hid (Below w.heap.size w (w.alloc (.cells #[.string mti, .slice o N cap] tG))) := Kb.below_one w _
  obtain ⟨k0, k1⟩ := box2 (Below.refl (w.alloc (.cells #[.string mti, .slice o N cap] tG)).heap.size (w.alloc (.cells #[.string mti, .slice o N cap] tG)))
  obtain ⟨G, HG⟩ : ∃ G, Hid (gt L n = G) := ⟨_, rfl⟩
  rw [HG.out]
  clear hL HY
  go_enter Tryz.func36, Tryz.ntmps36
  go_wp2_with fail
  generalize w.alloc (.cells #[.string mti, .slice o N cap] tG) = wb at *
  go_loopw [6] (fun iv wr => ∃ i : Nat, iv = .int .i64 (i : Int) ∧ i ≤ N ∧ Hid (∀ j (h : j < L.length), j < i → L[j].1 ≠ n) ∧ wr = wb) (fun iv _ => N + 1 - (intOf iv).toNat)
  case atStart => exact ⟨0, rfl, Nat.zero_le _, fun j h hj => absurd hj (Nat.not_lt_zero _), rfl⟩
  case round =>
    obtain ⟨i, rfl, hi, HA, rfl⟩ := hrel
    have q1 : (0 : Int) ≤ (i : Int) := by omega
    by_cases hlt : i < N
    · have hi2 : i < L.length := by rw [HN.out]; exact hlt
      obtain ⟨a, rfl, c0, c1⟩ := HC.out i hi2
      have q0 : (i : Int) < (N : Int) := by omega
      have q3 : (i : Int) + 1 ≤ 9223372036854775807 := by have := HNB.out; omega
      obtain ⟨x, HX⟩ : ∃ x : Fl, Hid (∀ h : i < L.length, L[i]'h = x) := ⟨L[i]'hi2, fun _ => rfl⟩
      rw [HX.out hi2] at c0 c1
      obtain ⟨xn, xs⟩ := x
      dsimp only at c0 c1
      have HIN : Hid (i < N) := hlt
      by_cases e : xn = n
      · have HR1 : Hid (G = .tuple #[.string xs, .bool true]) := by
          show _ = _
          rw [← HG.out, gt_hit L n i hi2 HA.out (by rw [HX.out hi2]; exact e), HX.out hi2]
        rw [e] at c0
        clear e hi hlt hi2 HA
        go_wp2_with fail
        go_ret2
        exact ⟨by rw [HR1.out]; rfl, HBW.out⟩
      · have e2 : (xn == n) = false := by simpa using e
        have HA2 : Hid (∀ j (h : j < L.length), j < i + 1 → L[j].1 ≠ n) := fun j h hj => by
          by_cases hjk : j < i
          · exact HA.out j h hjk
          · have : j = i := by omega
            subst this
            rw [HX.out h]
            exact e
        clear e hi hlt hi2 HA
        go_wp2_with fail
        have := HIN.out
        refine ⟨⟨i + 1, by simp, by omega, HA2, trivial⟩, ?_⟩
        simp only [intOf]
        omega
    · obtain rfl : i = N := by omega
      have q0 : ¬ (i : Int) < (i : Int) := by omega
      have HR1 : Hid (G = .tuple #[.string ⟨#[]⟩, .bool false]) := by
        show _ = _
        rw [← HG.out, gt_miss L n (fun j h => HA.out j h (by rw [← HN.out]; exact h))]
      clear hi hlt HA
      go_wp2_with fail
      go_ret2
      exact ⟨by rw [HR1.out]; rfl, HBW.out⟩
set_option maxRecDepth 100000 in
theorem nodes_nil (w : World) : Calls Tryz.prog 74 #[.slice none 0 0, .slice none 0 0] w fun e w' => e = .returned (.bool true) ∧ w' = w := by
  go_enter Tryz.func74, Tryz.ntmps74
  go_wp2_with fail
  go_loopw [5] (fun iv wr => iv = .int .i64 0 ∧ wr = w) (fun _ _ => 0)
  case atStart => exact ⟨rfl, rfl⟩
  case round =>
    obtain ⟨rfl, rfl⟩ := hrel
    go_wp2_with fail
    go_ret
    exact ⟨rfl, rfl⟩
set_option maxRecDepth 100000 in
set_option maxHeartbeats 1600000 in
theorem same_yes (mti : ByteArray) (v u : Value) (L : List Fl) (w : World) (h : RowF w v L) (h2 : RowF w u L) (hL : L.length ≤ 100000) : Calls Tryz.prog 33 #[.agg #[.string mti, v], .agg #[.string mti, u]] w fun e w' => e = .returned (.bool true) ∧ Below w.heap.size w w' := by
  obtain ⟨o, cap, rfl, hc⟩ := h
  obtain ⟨o2, cap2, rfl, hc2⟩ := h2
  have HY : Hid (∀ y, Below w.heap.size w y → ∀ i (h : i < L.length), ∃ a b : Addr, o = some a ∧ o2 = some b ∧ (y.cell? (a.add (i * 3)) = some (.int .i64 L[i].1) ∧ y.cell? ⟨(a.add (i * 3)).block, (a.add (i * 3)).off + 1, none⟩ = some (.string L[i].2) ∧ y.cell? ⟨(a.add (i * 3)).block, (a.add (i * 3)).off + 2, none⟩ = some (.slice none 0 0)) ∧ (y.cell? (b.add (i * 3)) = some (.int .i64 L[i].1) ∧ y.cell? ⟨(b.add (i * 3)).block, (b.add (i * 3)).off + 1, none⟩ = some (.string L[i].2) ∧ y.cell? ⟨(b.add (i * 3)).block, (b.add (i * 3)).off + 2, none⟩ = some (.slice none 0 0))) := fun y k i hi => by
    have kk : ∀ p u, w.cell? p = some u → y.cell? p = some u := fun p u hp => (k.cell (World.block_lt_of_cell? w _ hp)).trans hp
    obtain ⟨a, e, c0, c1, c2⟩ := hc i hi
    obtain ⟨b, e2, d0, d1, d2⟩ := hc2 i hi
    exact ⟨a, b, e, e2, ⟨kk _ _ c0, kk _ _ c1, kk _ _ c2⟩, ⟨kk _ _ d0, kk _ _ d1, kk _ _ d2⟩⟩
  clear hc hc2
  obtain ⟨N, HN⟩ : ∃ N, Hid (L.length = N) := ⟨_, rfl⟩
  rw [HN.out] at hL ⊢
  have HNB : Hid (N ≤ 100000) := hL
  have HBW : Hid (Below w.heap.size w ((w.alloc (.cells #[.string mti, .slice o N cap] tG)).alloc (.cells #[.string mti, .slice o2 N cap2] tG))) := below_two w _ _
  have x0 := h2_0 w (.cells #[.string mti, .slice o N cap] tG) (.cells #[.string mti, .slice o2 N cap2] tG)
  have x1 := h2_1 w (.cells #[.string mti, .slice o N cap] tG) (.cells #[.string mti, .slice o2 N cap2] tG)
  have HC := HY.out _ HBW.out
  replace HC : Hid _ := HC
  clear hL HY
  go_enter Tryz.func33, Tryz.ntmps33
  go_wp2_with fail
  generalize (w.alloc (.cells #[.string mti, .slice o N cap] tG)).alloc (.cells #[.string mti, .slice o2 N cap2] tG) = wb at *
  have k0 : wb.cell? ⟨w.heap.size, 1, none⟩ = some (.slice o N cap) := by simp [World.cell?, x0]
  have k1 : wb.cell? ⟨w.heap.size + 1, 1, none⟩ = some (.slice o2 N cap2) := by simp [World.cell?, x1]
  clear x0 x1
  have HKK : Hid (∀ y, Below wb.heap.size wb y → ∀ p u, wb.cell? p = some u → y.cell? p = some u) := fun y k p u hp => (k.cell (World.block_lt_of_cell? wb _ hp)).trans hp
  have HND : Hid (∀ y, Calls Tryz.prog 74 #[.slice none 0 0, .slice none 0 0] y fun e w' => e = .returned (.bool true) ∧ w' = y) := nodes_nil
  have HK0 : Hid (wb.cell? ⟨w.heap.size, 1, none⟩ = some (.slice o N cap) ∧ wb.cell? ⟨w.heap.size + 1, 1, none⟩ = some (.slice o2 N cap2)) := ⟨k0, k1⟩
  clear k0 k1
  go_loopw [5] (fun iv wr => ∃ i : Nat, iv = .int .i64 (i : Int) ∧ i ≤ N ∧ Hid (Below wb.heap.size wb wr)) (fun iv _ => N + 1 - (intOf iv).toNat)
  case atStart => exact ⟨0, rfl, Nat.zero_le _, Below.refl _ _⟩
  case round =>
    obtain ⟨i, rfl, hi, HBR⟩ := hrel
    have q1 : (0 : Int) ≤ (i : Int) := by omega
    have k0 := HKK.out _ HBR.out _ _ HK0.out.1
    have k1 := HKK.out _ HBR.out _ _ HK0.out.2
    by_cases hlt : i < N
    · have hi2 : i < L.length := by rw [HN.out]; exact hlt
      obtain ⟨a, b, rfl, rfl, ⟨c0, c1, c2⟩, ⟨d0, d1, d2⟩⟩ := HC.out i hi2
      have q0 : (i : Int) < (N : Int) := by omega
      have q3 : (i : Int) + 1 ≤ 9223372036854775807 := by have := HNB.out; omega
      obtain ⟨x, HX⟩ : ∃ x : Fl, Hid (L[i]'hi2 = x) := ⟨L[i]'hi2, rfl⟩
      rw [HX.out] at c0 c1 d0 d1
      obtain ⟨xn, xs⟩ := x
      dsimp only at c0 c1 d0 d1
      have HIN : Hid (i < N) := hlt
      have HAL : Hid (∀ y, Below wb.heap.size wb y → (y.cell? ⟨w.heap.size, 1, none⟩ = some (.slice (some a) N cap) ∧ y.cell? ⟨w.heap.size + 1, 1, none⟩ = some (.slice (some b) N cap2)) ∧ (y.cell? ⟨(a.add (i * 3)).block, (a.add (i * 3)).off + 2, none⟩ = some (.slice none 0 0) ∧ y.cell? ⟨(b.add (i * 3)).block, (b.add (i * 3)).off + 2, none⟩ = some (.slice none 0 0))) := fun y k => ⟨⟨HKK.out y k _ _ HK0.out.1, HKK.out y k _ _ HK0.out.2⟩, ⟨HKK.out y k _ _ c2, HKK.out y k _ _ d2⟩⟩
      replace c0 := HKK.out _ HBR.out _ _ c0
      replace c1 := HKK.out _ HBR.out _ _ c1
      replace d0 := HKK.out _ HBR.out _ _ d0
      replace d1 := HKK.out _ HBR.out _ _ d1
      clear c2 d2 hi hlt HX
      clear hi2
      go_wp2_with fail
      go_quiet (fail)
      go_wp2_with fail
      have HB2 : Hid (Below wb.heap.size wb (wr.drewN nq)) := Kb.below_drewN HBR.out nq
      clear k0 k1 c0 c1 d0 d1
      generalize wr.drewN nq = y at *
      obtain ⟨⟨k0, k1⟩, ⟨c2, d2⟩⟩ := HAL.out y HB2.out
      clear HAL HBR
      go_quiet ((go_at_call 74; exact Calls.quiet_of_same (HND.out _)))
      go_wp2_with fail
      have := HIN.out
      refine ⟨⟨i + 1, by simp, by omega, Kb.below_drewN HB2.out _⟩, ?_⟩
      simp only [intOf]
      omega
    · obtain rfl : i = N := by omega
      have q0 : ¬ (i : Int) < (i : Int) := by omega
      clear hi hlt
      go_wp2_with fail
      go_ret
      exact ⟨rfl, HBW.out.trans (HBR.out.mono HBW.out.size)⟩
end Go.Proofs.YtmnoplaepjaokaaGreatDoor.Be
