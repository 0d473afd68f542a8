/- NewEcho, Save: the good ways. -/
import Derived.Test.YtmnoplaepjaokaaGreatDoorZg
namespace Go.Proofs.YtmnoplaepjaokaaGreatDoor.Zh
set_option linter.unusedVariables false
set_option linter.unusedSimpArgs false
open Go.RowKit Go.Maps Lib0 Kb Xp Ic Ix If Ig Za Zb Zc Zd Ze Zf Zg
def isF (n : Int) : Bool := decide (2 ≤ n) && decide (n ≤ 128) && !(n == 65)
theorem isField_ok (n : Int) (h : isF n = true) (w : World) : Calls Tryz.prog 84 #[.int .i64 n] w fun e w' => e = .returned (.bool true) ∧ w' = w := by
  simp [isF] at h
  obtain ⟨⟨h1, h2⟩, h3⟩ := h
  have h4 : (n != 65) = true := by simpa using h3
  clear h3
  go_enter Tryz.func84, Tryz.ntmps84
  go_wp2
  go_ret
  exact ⟨rfl, rfl⟩
/-- fields, none twice -/
structure Gd (z : List Int) : Prop where
  pos : 0 < z.length
  len : z.length ≤ 100000
  fld : ∀ x ∈ z, isF x = true
  one : ∀ i (h : i < z.length), (z.take i).contains z[i] = false
theorem Gd.io {z : List Int} (h : Gd z) : Io z := ⟨h.len, fun x hx => by have := h.fld x hx; simp [isF] at this; omega⟩
set_option maxRecDepth 100000 in
set_option maxHeartbeats 1600000 in
theorem areFields_ok (g cap : Nat) (z : List Int) (w : World) (hz : Gd z) (hcap : z.length ≤ cap) (hc : ∀ j, j < z.length → w.cell? ⟨g, 0 + j, none⟩ = some (.int .i64 (z.getD j 0))) : Calls Tryz.prog 49 #[.slice (some ⟨g, 0, none⟩) z.length cap] w fun e w' => e = .returned (.bool true) ∧ w' = w := by
  obtain ⟨N, HN⟩ : ∃ N, Hid (z.length = N) := ⟨_, rfl⟩
  have HZ : Hid (Gd z) := hz
  have HNB : Hid (N ≤ 100000) := HN.out ▸ hz.len
  have HCP : Hid (N ≤ cap) := HN.out ▸ hcap
  have HC : Hid (∀ j, j < z.length → w.cell? ⟨g, 0 + j, none⟩ = some (.int .i64 (z.getD j 0))) := hc
  rw [HN.out]
  clear hz hc hcap
  go_enter Tryz.func49, Tryz.ntmps49
  go_wp2_with fail
  go_loopw [7] (fun iv wr => ∃ i : Nat, iv = .int .i64 (i : Int) ∧ i ≤ N ∧ wr = w) (fun iv _ => N + 1 - (intOf iv).toNat)
  case atStart => exact ⟨0, rfl, Nat.zero_le _, rfl⟩
  case round =>
    obtain ⟨i, rfl, hi, rfl⟩ := hrel
    have q1 : (0 : Int) ≤ (i : Int) := by omega
    by_cases hlt : i < N
    · have hi2 : i < z.length := by rw [HN.out]; exact hlt
      have q0 : (i : Int) < (N : Int) := by omega
      have q3 : (i : Int) + 1 ≤ 9223372036854775807 := by have := HNB.out; omega
      have c0 : wr.cell? ⟨g, i, none⟩ = some (.int .i64 z[i]) := by
        have := HC.out i hi2
        rw [Nat.zero_add] at this
        rw [this]; simp [List.getD, hi2]
      have hf := HZ.out.fld _ (List.getElem_mem hi2)
      have ho := HZ.out.one i hi2
      have HCO : Hid (Calls Tryz.prog 85 #[.slice (some ⟨g, 0, none⟩) i cap, .int .i64 z[i]] wr fun e w' => e = .returned (.bool false) ∧ w' = wr) := by
        have := Tryz.slices_Contains_int g 0 i cap z z[i] wr (by omega) (by have := HNB.out; omega) HC.out
        rw [ho] at this
        exact this
      generalize z[i]'hi2 = n at *
      have HIF : Hid (∀ y, Calls Tryz.prog 84 #[.int .i64 n] y fun e w' => e = .returned (.bool true) ∧ w' = y) := fun y => isField_ok n hf y
      have q4 : (i : Int) ≤ (cap : Int) := by have := HCP.out; omega
      have q5 : i ≤ cap := by have := HCP.out; omega
      have HIN : Hid (i < N) := hlt
      clear hi hlt hi2 hf ho
      go_wp2_with fail
      refine (HIF.out _).mono ?_
      rintro e y ⟨rfl, hy⟩
      rw [hy]
      clear hy y
      go_wp2_with fail
      refine HCO.out.mono ?_
      rintro e y ⟨rfl, hy⟩
      rw [hy]
      clear hy y
      go_wp2_with fail
      have := HIN.out
      refine ⟨⟨i + 1, by simp, by omega, trivial⟩, ?_⟩
      simp only [intOf]
      omega
    · obtain rfl : i = N := by omega
      have q0 : ¬ (i : Int) < (i : Int) := by omega
      clear hi hlt
      go_wp2_with fail
      go_ret
      exact ⟨rfl, rfl⟩
theorem rowi_own {w : World} {base : Nat} {v : Value} {z : List Int} (h : w.ownsRow base tI 1 v z.length (z.map (Value.int .i64))) : RowI w v z := by
  rcases h.2 with ⟨rfl, h0⟩ | ⟨g, cap, cur, rfl, r⟩
  · have e : z = [] := List.eq_nil_of_length_eq_zero h0
    subst e
    exact ⟨none, 0, rfl, fun i hi => by simp at hi⟩
  · refine ⟨some ⟨g, 0, none⟩, cap, rfl, fun i hi => ⟨⟨g, 0, none⟩, rfl, h.cells (g := g) rfl _ _ (by simp [hi])⟩⟩
set_option maxRecDepth 100000 in
theorem newEcho_ok (g cap : Nat) (z : List Int) (w : World) (hz : Gd z) (hcap : z.length ≤ cap) (hc : ∀ j, j < z.length → w.cell? ⟨g, 0 + j, none⟩ = some (.int .i64 (z.getD j 0))) : Calls Tryz.prog 19 #[.slice (some ⟨g, 0, none⟩) z.length cap] w fun e w' => ∃ b mb, e = .returned (.tuple #[.pointer (some ⟨b, 0, none⟩), .int .i64 0]) ∧ Ec w' b mb z nof 0 0 ∧ Below w.heap.size w w' ∧ w.heap.size ≤ b ∧ w.heap.size ≤ mb := by
  have HA := areFields_ok g cap z w hz hcap hc
  have HCL := Tryz.slices_Clone_int g 0 z.length cap z w (Nat.le_refl _) (by have := hz.len; omega) hc
  rw [List.take_of_length_le (Nat.le_refl _)] at HCL
  obtain ⟨N, HN⟩ : ∃ N, Hid (z.length = N) := ⟨_, rfl⟩
  have HZ : Hid (Gd z) := hz
  rw [HN.out] at HA HCL ⊢
  have hmm := @run_makeMap Tryz.prog
  have q : ¬ (N : Int) = 0 := by have := HZ.out.pos; have := HN.out; omega
  have q2 : ((N : Int) == 0) = false := by simpa using q
  clear hz hc hcap q
  go_enter Tryz.func19, Tryz.ntmps19
  go_wp2_with fail
  refine HA.mono ?_
  rintro e y ⟨rfl, hy⟩
  rw [hy]
  clear hy HA
  go_wp2_with fail
  refine HCL.mono ?_
  rintro e y ⟨v', rfl, hr, -, hb⟩
  have HR : Hid (y.ownsRow w.heap.size tI 1 v' N (z.map (Value.int .i64))) := hr
  have HB : Hid (Below w.heap.size w y) := hb
  clear hr hb HCL
  obtain ⟨o2, c2, hv, -⟩ := own_form HR.out
  subst hv
  go_wp2_with fail
  go_ret2
  have hb2 : Below w.heap.size w ((y.alloc (.map #[] 0)).alloc (.cells #[.slice o2 N c2, .map (some y.heap.size)] tEc)) := keepB HB.out (below_two y _ _)
  refine ⟨y.heap.size + 1, y.heap.size, rfl, ⟨.slice o2 N c2, .map [], ⟨h2_1 _ _ _, ?_, HZ.out.io, ?_, Maps.tidy_empty, fun t => rfl, fun t l hl => (by cases hl), rfl, Nat.zero_le _⟩⟩, hb2, ?_, ?_⟩
  · refine rowi_below (rowi_own (base := w.heap.size) ?_) (below_two y _ _)
    rw [HN.out]; exact HR.out
  · have := World.ownsMap_made (H := Value) y Tryz.prog tI heldE
    exact this.alloc _
  · have := HB.out.size; omega
  · exact HB.out.size
end Go.Proofs.YtmnoplaepjaokaaGreatDoor.Zh
