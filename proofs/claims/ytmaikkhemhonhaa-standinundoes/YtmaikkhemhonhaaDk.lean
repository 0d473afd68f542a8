/- down. -/
import Derived.Test.YtmaikkhemhonhaaDj
namespace Go.Proofs.Ytmaikkhemhonhaa.Dk
set_option linter.unusedVariables false
set_option linter.unusedSimpArgs false
open Go.RowKit Go.Maps Lib0 Kb Xp Da Db Dc Dd De Dh Di Dx Dj
attribute [local go_sem] Oper.semAt_some
/-- what down says: has it moved? -/
def Mvd (A A' : List Rc) (n i0 : Nat) (r : Bool) : Prop := FixOk (kN A) n i0 → (r = true → Hp (kN A') n) ∧ (r = false → UpOk (kN A') n i0)
def Inv (A A' : List Rc) (n i0 i : Nat) : Prop := i0 ≤ i ∧ (FixOk (kN A) n i0 → FixOk (kN A') n i ∧ (i ≠ i0 → 1 ≤ i ∧ kN A' ((i - 1) / 2) ≤ kN A' i))
theorem Inv.fin {A A' : List Rc} {n i0 i : Nat} (h : Inv A A' n i0 i) (hc : ∀ e, 1 ≤ e → e < n → (e - 1) / 2 = i → kN A' i ≤ kN A' e) : Mvd A A' n i0 (decide (i0 < i)) := fun hf => by
  obtain ⟨h1, h2⟩ := h.2 hf
  have hu := down_end h1 hc
  have hle := h.1
  refine ⟨fun hr => ?_, fun hr => ?_⟩
  · have : i0 < i := of_decide_eq_true hr
    exact up_end hu (fun _ => (h2 (by omega)).2)
  · have : ¬ i0 < i := of_decide_eq_false hr
    obtain rfl : i = i0 := by omega
    exact hu
theorem Inv.step {A A' : List Rc} {n i0 i j : Nat} (h : Inv A A' n i0 i) (hn : n ≤ A'.length) (hi : i < A'.length) (hj : j < A'.length) (hjn : j < n) (hc : (j - 1) / 2 = i) (h1 : 1 ≤ j) (hmin : ∀ e, 1 ≤ e → e < n → (e - 1) / 2 = i → kN A' j ≤ kN A' e) (hlt : kN A' j < kN A' i) : Inv A (swp A' i j hi hj) n i0 j := by
  have hij : i < j := by omega
  refine ⟨by have := h.1; omega, fun hf => ?_⟩
  obtain ⟨a, b⟩ := down_step (h.2 hf).1 hjn hc h1 hmin hlt
  have kk := fun m (hm : m < n) => kN_sw hi hj m (by omega)
  refine ⟨a.congr hjn kk, fun _ => ⟨h1, ?_⟩⟩
  rw [kk j hjn, kk ((j - 1) / 2) (by omega)]
  exact b
set_option maxRecDepth 100000 in
set_option maxHeartbeats 3200000 in
theorem down_any {w : World} {base b : Nat} {bc : Array Value} {av : Value} {A : List Rc} (h : HpM w base b bc av A) (i0 n : Nat) (hi0 : i0 < n) (hn : n ≤ A.length) : Calls Try.prog 51 #[hv b, .int .i64 (i0 : Int), .int .i64 (n : Int)] w fun e w' => ∃ r A', e = .returned (.bool r) ∧ PU w base b bc av A A' n w' ∧ Mvd A A' n i0 r := by
  have HN : Hid (n ≤ A.length ∧ n ≤ 1000000) := ⟨hn, Nat.le_trans hn h.len⟩
  obtain ⟨g, cap, rfl, -⟩ := h.form (by omega)
  obtain ⟨N, HNN⟩ : ∃ N, Hid (A.length = N) := ⟨_, rfl⟩
  rw [HNN.out] at h
  rw [HNN.out]
  have HH : Hid (HpM w base b bc (.slice (some ⟨g, 0, none⟩) N cap) A) := h
  have HJ : Hid (i0 < n) := hi0
  unfold hv
  clear h hn hi0
  go_enter Try.func51, Try.ntmps51
  go_wp2_with fail
  go_loopw [7, 8, 9, 10] (fun iv _ _ _ wr => ∃ i : Nat, iv = .int .i64 (i : Int) ∧ Hid (i < n) ∧ Hid (∃ A', PU w base b bc (.slice (some ⟨g, 0, none⟩) N cap) A A' n wr ∧ Inv A A' n i0 i)) (fun iv _ _ _ _ => n - (intOf iv).toNat)
  case atStart => exact ⟨i0, rfl, HJ.out, A, PU.self HH.out, Nat.le_refl _, fun h => ⟨h, fun e => absurd rfl e⟩⟩
  case round =>
    obtain ⟨i, rfl, HIN, HA⟩ := hrel
    obtain ⟨A1, P1, O1⟩ := HA.out
    have HP1 : Hid (PU w base b bc (.slice (some ⟨g, 0, none⟩) N cap) A A1 n wr) := P1
    have HO1 : Hid (Inv A A1 n i0 i) := O1
    obtain ⟨c4, -⟩ := P1.ph.1.cell4
    have HLN : Hid (n ≤ A1.length) := by show n ≤ A1.length; rw [P1.len]; exact HN.out.1
    have hi1 : i < A1.length := by have := HIN.out; have := HLN.out; omega
    have q0 : (0 : Int) ≤ (i : Int) := by omega
    have q1 : (i : Int) < (n : Int) := by have := HIN.out; omega
    have q2 : (n : Int) ≤ 1000000 := by have := HN.out; omega
    have q3 : (0 : Int) ≤ (i0 : Int) := by omega
    obtain ⟨x, hx⟩ : ∃ x : Nat, 2 * i + 1 = x := ⟨_, rfl⟩
    have HX : Hid (2 * i + 1 = x) := hx
    have eX : 2 * (i : Int) + 1 = (x : Int) := by omega
    have eY : (x : Int) + 1 = ((x + 1 : Nat) : Int) := by omega
    obtain ⟨z, hz⟩ : ∃ z : Nat, x + 1 = z := ⟨_, rfl⟩
    have HZ : Hid (x + 1 = z) := hz
    rw [hz] at eY
    clear P1 O1 HA hx hz
    have HSWAP : Hid (∀ (j : Nat) (hj : j < A1.length), i ≠ j → ∀ y, Below wr.heap.size wr y → Calls Try.prog 82 #[.slice (some ⟨g, 0, none⟩) N cap, .int .i64 (i : Int), .int .i64 (j : Int)] y fun e w' => e = .returned (.tuple #[]) ∧ PH y base b bc (.slice (some ⟨g, 0, none⟩) N cap) (swp A1 i j hi1 hj) w') := fun j hj hij y hy => swap_any (HP1.out.ph.1.below hy) i j hi1 hj hij
    have HLESS : Hid (∀ (s t : Nat) (hs : s < A1.length) (ht : t < A1.length) (y : World), Below wr.heap.size wr y → Calls Try.prog 81 #[.slice (some ⟨g, 0, none⟩) N cap, .int .i64 (s : Int), .int .i64 (t : Int)] y fun e w' => e = .returned (.bool (decide (kN A1 s < kN A1 t))) ∧ Below y.heap.size y w') := fun s t hs ht y hy => less_any (HP1.out.ph.1.below hy) s t hs ht
    by_cases hxn : n ≤ x
    · have q4 : (n : Int) ≤ (x : Int) := by omega
      have HFIN : Hid (Mvd A A1 n i0 (decide (i0 < i))) := HO1.out.fin (fun e e1 e2 e3 => absurd e2 (by have := HX.out; omega))
      clear hxn
      go_wp2_with fail
      go_ret
      exact ⟨_, A1, by simp, HP1.out, HFIN.out⟩
    · have q4 : (x : Int) < (n : Int) := by omega
      have hx1 : x < A1.length := by have := HLN.out; omega
      have HXN : Hid (x < n) := by show x < n; omega
      have ml := m_less wr b _ _ _ c4
      clear hxn
      by_cases hzn : z < n
      · have q5 : (z : Int) < (n : Int) := by omega
        have hz1 : z < A1.length := by have := HLN.out; omega
        have HZN : Hid (z < n) := hzn
        clear hzn
        by_cases hzx : kN A1 z < kN A1 x
        · have HL0 := HLESS.out z x hz1 hx1 wr (Below.refl _ _)
          rw [decide_eq_true hzx] at HL0
          have HL1 : Hid (Calls Try.prog 81 #[.slice (some ⟨g, 0, none⟩) N cap, .int .i64 (z : Int), .int .i64 (x : Int)] wr fun e w' => e = .returned (.bool true) ∧ Below wr.heap.size wr w') := HL0
          have HMIN : Hid (∀ e, 1 ≤ e → e < n → (e - 1) / 2 = i → kN A1 z ≤ kN A1 e) := fun e e1 e2 e3 => by
            have h1 := HX.out
            have h2 := HZ.out
            have : e = x ∨ e = z := by omega
            rcases this with rfl | rfl <;> omega
          have HJN : Hid (z < n) := HZN.out
          clear hzx HL0
          go_wp2_with fail
          refine HL1.out.mono ?_
          rintro e y ⟨rfl, hy⟩
          have HY : Hid (Below wr.heap.size wr y) := hy
          have ml2 := m_less y b _ _ _ ((HP1.out.ph.1.below hy).cell4.1)
          clear hy ml
          by_cases hlt : kN A1 z < kN A1 i
          · have HL := HLESS.out z i hz1 hi1 y HY.out
            rw [decide_eq_true hlt] at HL
            have HLT : Hid (kN A1 z < kN A1 i) := hlt
            have HL2 : Hid (Calls Try.prog 81 #[.slice (some ⟨g, 0, none⟩) N cap, .int .i64 (z : Int), .int .i64 (i : Int)] y fun e w' => e = .returned (.bool true) ∧ Below y.heap.size y w') := HL
            clear hlt HL
            go_wp2_with fail
            refine HL2.out.mono ?_
            rintro e y5 ⟨rfl, hy5⟩
            have HY5 : Hid (Below wr.heap.size wr y5) := keepB HY.out hy5
            have ms := m_swap y5 b _ _ _ ((HP1.out.ph.1.below HY5.out).cell4.1)
            clear hy5
            go_wp2_with fail
            refine (HSWAP.out z hz1 (by have := HX.out; have := HZ.out; omega) y5 HY5.out).mono ?_
            rintro e y6 ⟨rfl, hy6⟩
            have HY6 : Hid (PU w base b bc (.slice (some ⟨g, 0, none⟩) N cap) A (swp A1 i z hi1 hz1) n y6) := (HP1.out.behind HY5.out).next (PU.swap hi1 hz1 hy6 HIN.out HJN.out)
            clear hy6 ms
            go_wp2_with fail
            refine ⟨⟨z, rfl, HJN.out, swp A1 i z hi1 hz1, HY6.out, HO1.out.step HLN.out hi1 hz1 HJN.out (by have := HX.out; have := HZ.out; omega) (by have := HX.out; have := HZ.out; omega) HMIN.out HLT.out⟩, ?_⟩
            have := HX.out
            have := HZ.out
            have := HJN.out
            simp only [intOf]; omega
          · have HL := HLESS.out z i hz1 hi1 y HY.out
            rw [decide_eq_false hlt] at HL
            have HFIN : Hid (Mvd A A1 n i0 (decide (i0 < i))) := HO1.out.fin (fun e e1 e2 e3 => by have := HMIN.out e e1 e2 e3; omega)
            have HL2 : Hid (Calls Try.prog 81 #[.slice (some ⟨g, 0, none⟩) N cap, .int .i64 (z : Int), .int .i64 (i : Int)] y fun e w' => e = .returned (.bool false) ∧ Below y.heap.size y w') := HL
            clear hlt HL
            go_wp2_with fail
            refine HL2.out.mono ?_
            rintro e y5 ⟨rfl, hy5⟩
            have HY5 : Hid (Below wr.heap.size wr y5) := keepB HY.out hy5
            clear hy5
            go_wp2_with fail
            go_ret
            exact ⟨_, A1, by simp, HP1.out.behind HY5.out, HFIN.out⟩
        · have HL0 := HLESS.out z x hz1 hx1 wr (Below.refl _ _)
          rw [decide_eq_false hzx] at HL0
          have HL1 : Hid (Calls Try.prog 81 #[.slice (some ⟨g, 0, none⟩) N cap, .int .i64 (z : Int), .int .i64 (x : Int)] wr fun e w' => e = .returned (.bool false) ∧ Below wr.heap.size wr w') := HL0
          have HMIN : Hid (∀ e, 1 ≤ e → e < n → (e - 1) / 2 = i → kN A1 x ≤ kN A1 e) := fun e e1 e2 e3 => by
            have h1 := HX.out
            have h2 := HZ.out
            have : e = x ∨ e = z := by omega
            rcases this with rfl | rfl <;> omega
          have HJN : Hid (x < n) := HXN.out
          clear hzx HL0
          go_wp2_with fail
          refine HL1.out.mono ?_
          rintro e y ⟨rfl, hy⟩
          have HY : Hid (Below wr.heap.size wr y) := hy
          have ml2 := m_less y b _ _ _ ((HP1.out.ph.1.below hy).cell4.1)
          clear hy ml
          by_cases hlt : kN A1 x < kN A1 i
          · have HL := HLESS.out x i hx1 hi1 y HY.out
            rw [decide_eq_true hlt] at HL
            have HLT : Hid (kN A1 x < kN A1 i) := hlt
            have HL2 : Hid (Calls Try.prog 81 #[.slice (some ⟨g, 0, none⟩) N cap, .int .i64 (x : Int), .int .i64 (i : Int)] y fun e w' => e = .returned (.bool true) ∧ Below y.heap.size y w') := HL
            clear hlt HL
            go_wp2_with fail
            refine HL2.out.mono ?_
            rintro e y5 ⟨rfl, hy5⟩
            have HY5 : Hid (Below wr.heap.size wr y5) := keepB HY.out hy5
            have ms := m_swap y5 b _ _ _ ((HP1.out.ph.1.below HY5.out).cell4.1)
            clear hy5
            go_wp2_with fail
            refine (HSWAP.out x hx1 (by have := HX.out; have := HZ.out; omega) y5 HY5.out).mono ?_
            rintro e y6 ⟨rfl, hy6⟩
            have HY6 : Hid (PU w base b bc (.slice (some ⟨g, 0, none⟩) N cap) A (swp A1 i x hi1 hx1) n y6) := (HP1.out.behind HY5.out).next (PU.swap hi1 hx1 hy6 HIN.out HJN.out)
            clear hy6 ms
            go_wp2_with fail
            refine ⟨⟨x, rfl, HJN.out, swp A1 i x hi1 hx1, HY6.out, HO1.out.step HLN.out hi1 hx1 HJN.out (by have := HX.out; have := HZ.out; omega) (by have := HX.out; have := HZ.out; omega) HMIN.out HLT.out⟩, ?_⟩
            have := HX.out
            have := HZ.out
            have := HJN.out
            simp only [intOf]; omega
          · have HL := HLESS.out x i hx1 hi1 y HY.out
            rw [decide_eq_false hlt] at HL
            have HFIN : Hid (Mvd A A1 n i0 (decide (i0 < i))) := HO1.out.fin (fun e e1 e2 e3 => by have := HMIN.out e e1 e2 e3; omega)
            have HL2 : Hid (Calls Try.prog 81 #[.slice (some ⟨g, 0, none⟩) N cap, .int .i64 (x : Int), .int .i64 (i : Int)] y fun e w' => e = .returned (.bool false) ∧ Below y.heap.size y w') := HL
            clear hlt HL
            go_wp2_with fail
            refine HL2.out.mono ?_
            rintro e y5 ⟨rfl, hy5⟩
            have HY5 : Hid (Below wr.heap.size wr y5) := keepB HY.out hy5
            clear hy5
            go_wp2_with fail
            go_ret
            exact ⟨_, A1, by simp, HP1.out.behind HY5.out, HFIN.out⟩
      · have q5 : (n : Int) ≤ (z : Int) := by omega
        have HMIN : Hid (∀ e, 1 ≤ e → e < n → (e - 1) / 2 = i → kN A1 x ≤ kN A1 e) := fun e e1 e2 e3 => by
          have h1 := HX.out
          have h2 := HZ.out
          obtain rfl : e = x := by omega
          exact Int.le_refl _
        have HJN : Hid (x < n) := HXN.out
        have HY : Hid (Below wr.heap.size wr wr) := Below.refl _ _
        clear hzn
        by_cases hlt : kN A1 x < kN A1 i
        · have HL := HLESS.out x i hx1 hi1 wr HY.out
          rw [decide_eq_true hlt] at HL
          have HLT : Hid (kN A1 x < kN A1 i) := hlt
          have HL2 : Hid (Calls Try.prog 81 #[.slice (some ⟨g, 0, none⟩) N cap, .int .i64 (x : Int), .int .i64 (i : Int)] wr fun e w' => e = .returned (.bool true) ∧ Below wr.heap.size wr w') := HL
          clear hlt HL
          go_wp2_with fail
          refine HL2.out.mono ?_
          rintro e y5 ⟨rfl, hy5⟩
          have HY5 : Hid (Below wr.heap.size wr y5) := keepB HY.out hy5
          have ms := m_swap y5 b _ _ _ ((HP1.out.ph.1.below HY5.out).cell4.1)
          clear hy5
          go_wp2_with fail
          refine (HSWAP.out x hx1 (by have := HX.out; have := HZ.out; omega) y5 HY5.out).mono ?_
          rintro e y6 ⟨rfl, hy6⟩
          have HY6 : Hid (PU w base b bc (.slice (some ⟨g, 0, none⟩) N cap) A (swp A1 i x hi1 hx1) n y6) := (HP1.out.behind HY5.out).next (PU.swap hi1 hx1 hy6 HIN.out HJN.out)
          clear hy6 ms
          go_wp2_with fail
          refine ⟨⟨x, rfl, HJN.out, swp A1 i x hi1 hx1, HY6.out, HO1.out.step HLN.out hi1 hx1 HJN.out (by have := HX.out; have := HZ.out; omega) (by have := HX.out; have := HZ.out; omega) HMIN.out HLT.out⟩, ?_⟩
          have := HX.out
          have := HZ.out
          have := HJN.out
          simp only [intOf]; omega
        · have HL := HLESS.out x i hx1 hi1 wr HY.out
          rw [decide_eq_false hlt] at HL
          have HFIN : Hid (Mvd A A1 n i0 (decide (i0 < i))) := HO1.out.fin (fun e e1 e2 e3 => by have := HMIN.out e e1 e2 e3; omega)
          have HL2 : Hid (Calls Try.prog 81 #[.slice (some ⟨g, 0, none⟩) N cap, .int .i64 (x : Int), .int .i64 (i : Int)] wr fun e w' => e = .returned (.bool false) ∧ Below wr.heap.size wr w') := HL
          clear hlt HL
          go_wp2_with fail
          refine HL2.out.mono ?_
          rintro e y5 ⟨rfl, hy5⟩
          have HY5 : Hid (Below wr.heap.size wr y5) := keepB HY.out hy5
          clear hy5
          go_wp2_with fail
          go_ret
          exact ⟨_, A1, by simp, HP1.out.behind HY5.out, HFIN.out⟩
end Go.Proofs.Ytmaikkhemhonhaa.Dk
