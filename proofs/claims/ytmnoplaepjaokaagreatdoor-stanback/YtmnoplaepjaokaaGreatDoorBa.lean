/- StanBack: the law's field, has, fields. -/
import Derived.Test.YtmnoplaepjaokaaGreatDoorZh
import Derived.Test.YtmnoplaepjaokaaGreatDoorPick
import Derived.Test.YtmnoplaepjaokaaGreatDoorSg
import Derived.Deep.AppendLies
namespace Go.Proofs.YtmnoplaepjaokaaGreatDoor.Ba
set_option linter.unusedVariables false
set_option linter.unusedSimpArgs false
open Go.RowKit Go.Maps Lib0 Kb Xp Za Zb Zc Zg Zh
theorem bnd {x : Int} (h : (Lit.int .i64 x).wf = true) : -9223372036854775808 ≤ x ∧ x ≤ 9223372036854775807 := by
  simp [Lit.wf, IntKind.min, IntKind.max, IntKind.signed, IntKind.bits] at h; omega
/-- a field, of a raw number -/
def fld (c : Int) : Int := if 65 ≤ 2 + Pick.pickOf c 126 then 2 + Pick.pickOf c 126 + 1 else 2 + Pick.pickOf c 126
theorem fld_is (c : Int) : isF (fld c) = true := by
  have p0 := Pick.pick_lo c 126 (by decide)
  have p1 := Pick.pick_hi c 126 (by decide)
  unfold fld isF
  generalize Pick.pickOf c 126 = p at *
  split <;> simp <;> omega
theorem field_any (c : Int) (h : -9223372036854775808 ≤ c ∧ c ≤ 9223372036854775807) (w : World) : Calls Tryz.prog 64 #[.int .i64 c] w fun e w' => e = .returned (.int .i64 (fld c)) ∧ w' = w := by
  have HP := Pick.pick_any c 126 w h.1 h.2 (by decide) (by decide)
  have p0 := Pick.pick_lo c 126 (by decide)
  have p1 := Pick.pick_hi c 126 (by decide)
  have HF : Hid (fld c = if 65 ≤ 2 + Pick.pickOf c 126 then 2 + Pick.pickOf c 126 + 1 else 2 + Pick.pickOf c 126) := rfl
  obtain ⟨r, HR⟩ : ∃ r, Hid (fld c = r) := ⟨_, rfl⟩
  rw [HR.out] at HF
  rw [HR.out]
  generalize Pick.pickOf c 126 = p at *
  clear h HR
  by_cases h65 : 65 ≤ 2 + p
  · have HE : Hid (r = 2 + p + 1) := by rw [HF.out, if_pos h65]; rfl
    clear HF
    go_enter Tryz.func64, Tryz.ntmps64
    go_wp2_with fail
    refine HP.mono ?_
    rintro e y ⟨rfl, hy⟩
    rw [hy]
    clear hy HP
    go_wp2_with fail
    go_ret
    exact ⟨by rw [HE.out]; rfl, rfl⟩
  · have HE : Hid (r = 2 + p) := by rw [HF.out, if_neg h65]; rfl
    clear HF
    go_enter Tryz.func64, Tryz.ntmps64
    go_wp2_with fail
    refine HP.mono ?_
    rintro e y ⟨rfl, hy⟩
    rw [hy]
    clear hy HP
    go_wp2_with fail
    go_ret
    exact ⟨by rw [HE.out]; rfl, rfl⟩
set_option maxRecDepth 100000 in
theorem has_any (v : Value) (z : List Int) (n : Int) (w : World) (h : RowI w v z) (hz : z.length ≤ 100000) : Calls Tryz.prog 35 #[v, .int .i64 n] w fun e w' => e = .returned (.bool (z.contains n)) ∧ w' = w := by
  obtain ⟨o, cap, rfl, hc⟩ := h
  obtain ⟨N, HN⟩ : ∃ N, Hid (z.length = N) := ⟨_, rfl⟩
  have HC : Hid (∀ i (h : i < z.length), ∃ a : Addr, o = some a ∧ w.cell? (a.add i) = some (.int .i64 z[i])) := hc
  have HNB : Hid (N ≤ 100000) := HN.out ▸ hz
  rw [HN.out]
  obtain ⟨R, HR⟩ : ∃ R, Hid (z.contains n = R) := ⟨_, rfl⟩
  rw [HR.out]
  clear hc hz
  go_enter Tryz.func35, Tryz.ntmps35
  go_wp2_with fail
  go_loopw [5] (fun iv wr => ∃ i : Nat, iv = .int .i64 (i : Int) ∧ i ≤ N ∧ Hid (∀ j (h : j < z.length), j < i → z[j] ≠ n) ∧ wr = w) (fun iv _ => N + 1 - (intOf iv).toNat)
  case atStart => exact ⟨0, rfl, Nat.zero_le _, fun j h hj => absurd hj (Nat.not_lt_zero _), rfl⟩
  case round =>
    obtain ⟨i, rfl, hi, HA, rfl⟩ := hrel
    have q1 : (0 : Int) ≤ (i : Int) := by omega
    by_cases hlt : i < N
    · have hi2 : i < z.length := by rw [HN.out]; exact hlt
      obtain ⟨a, rfl, c0⟩ := HC.out i hi2
      have q0 : (i : Int) < (N : Int) := by omega
      have q3 : (i : Int) + 1 ≤ 9223372036854775807 := by have := HNB.out; omega
      obtain ⟨x, HX⟩ : ∃ x, Hid (∀ h : i < z.length, z[i]'h = x) := ⟨z[i]'hi2, fun _ => rfl⟩
      rw [HX.out hi2] at c0
      have HIN : Hid (i < N) := hlt
      by_cases e : x = n
      · have HR1 : Hid (R = true) := by
          show R = true
          rw [← HR.out, List.contains_iff_mem, ← e, ← HX.out hi2]
          exact List.getElem_mem hi2
        rw [e] at c0
        clear e hi hlt hi2 HA
        go_wp2_with fail
        go_ret
        exact ⟨by rw [HR1.out]; rfl, rfl⟩
      · have e2 : (x == n) = false := by simpa using e
        have HA2 : Hid (∀ j (h : j < z.length), j < i + 1 → z[j] ≠ n) := fun j h hj => by
          by_cases hjk : j < i
          · exact HA.out j h hjk
          · have : j = i := by omega
            subst this
            rw [HX.out h]
            exact e
        clear e hi hlt hi2 HA
        go_wp2_with fail
        have := HIN.out
        refine ⟨⟨i + 1, by simp, by omega, HA2, trivial⟩, ?_⟩
        simp only [intOf]
        omega
    · obtain rfl : i = N := by omega
      have q0 : ¬ (i : Int) < (i : Int) := by omega
      have HR1 : Hid (R = false) := by
        show R = false
        rw [← HR.out, Bool.eq_false_iff]
        intro hm
        rw [List.contains_iff_mem] at hm
        obtain ⟨j, hj, e⟩ := List.getElem_of_mem hm
        exact HA.out j hj (by rw [← HN.out]; exact hj) e
      clear hi hlt HA
      go_wp2_with fail
      go_ret
      exact ⟨by rw [HR1.out]; rfl, rfl⟩
end Go.Proofs.YtmnoplaepjaokaaGreatDoor.Ba
