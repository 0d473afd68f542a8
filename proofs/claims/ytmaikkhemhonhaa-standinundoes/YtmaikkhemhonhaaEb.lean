/- An approval is found. -/
import Derived.Test.YtmaikkhemhonhaaEa
import Derived.Test.YtmaikkhemhonhaaDf
namespace Go.Proofs.Ytmaikkhemhonhaa.Eb
set_option linter.unusedVariables false
set_option linter.unusedSimpArgs false
open Go.RowKit Go.Maps Lib0 Kb Xp Da Db Dc Dd De Df Dh Dp Dz Ea
attribute [local go_sem] Oper.semAt_some
def mt (u t : Int) (a : Ap) : Prop := a.2.1 = u ∧ a.2.2 = t
/-- the first that is meant, or -1 -/
def Fnd (L : List Ap) (u t : Int) (r : Int) : Prop := (r = -1 ∧ ∀ a ∈ L, ¬ mt u t a) ∨ ∃ p, ∃ h : p < L.length, r = (p : Int) ∧ mt u t L[p] ∧ ∀ j (hj : j < L.length), j < p → ¬ mt u t L[j]
set_option maxRecDepth 100000 in
set_option maxHeartbeats 1600000 in
theorem findS_any {w : World} {base g : Nat} {v : Value} {L : List Ap} (h : ShM w base g v L) (u t : Int) (hu : Up L) (hl : L.length ≤ 1000000) : Calls Try.prog 44 #[.pointer (some ⟨g, 0, none⟩), .int .i64 u, .int .i64 t] w fun e w' => (∃ r, e = .returned (.int .i64 r) ∧ Fnd L u t r) ∧ Below w.heap.size w w' := by
  have HF : Hid (Calls Try.prog 55 #[.pointer (some ⟨g, 0, none⟩), .int .i64 t] w fun e w' => (∃ p : Nat, e = .returned (.int .i64 (p : Int)) ∧ Fr L t p) ∧ Below w.heap.size w w') := from_any h t hu hl
  have HH : Hid (ShM w base g v L) := h
  have HU : Hid (Up L) := hu
  obtain ⟨o, cap, rfl, -⟩ := own_form h.row
  obtain ⟨N, HN⟩ : ∃ N, Hid (L.length = N) := ⟨_, rfl⟩
  have HL : Hid (N ≤ 1000000) := by show N ≤ 1000000; rw [← HN.out]; exact hl
  rw [HN.out] at HH
  clear h hu hl
  go_enter Try.func44, Try.ntmps44
  go_wp2_with fail
  refine HF.out.mono ?_
  rintro e y ⟨⟨p0, rfl, hp0⟩, hy⟩
  have HP0 : Hid (Fr L t p0) := hp0
  have HY : Hid (Below w.heap.size w y) := hy
  have hple : p0 ≤ N := by have := hp0.le; rw [HN.out] at this; exact this
  have HPL : Hid (p0 ≤ N) := hple
  obtain ⟨c0, -⟩ := (HH.out.below hy).cells
  obtain ⟨o2, cap2, e2, hcell⟩ := rowa_own (by have := (HH.out.below hy).row; rw [← HN.out] at this; exact this : y.ownsRow base tA 3 (.slice o L.length cap) L.length (apc L))
  injection e2 with e21 e22 e23
  subst e21
  have HC : Hid (∀ i (h : i < L.length), ∃ a : Addr, o = some a ∧ y.cell? (a.add (i * 3)) = some (.int .i64 L[i].1) ∧ y.cell? (a.add (i * 3 + 1)) = some (.int .i64 L[i].2.1) ∧ y.cell? (a.add (i * 3 + 2)) = some (.int .i64 L[i].2.2)) := hcell
  clear hp0 hy hple hcell e22 e23
  go_wp2_with fail
  go_loopw [7] (fun qv wr => ∃ q : Nat, qv = .int .i64 (q : Int) ∧ wr = y ∧ Hid (p0 ≤ q ∧ q ≤ N ∧ ∀ j (hj : j < L.length), j < q → ¬ mt u t L[j])) (fun qv _ => N + 1 - (intOf qv).toNat)
  case atStart => exact ⟨p0, rfl, rfl, Nat.le_refl _, HPL.out, fun j hj hlt hm => by have := HP0.out.lo j hj hlt; have := hm.2; omega⟩
  case round =>
    obtain ⟨q, rfl, rfl, HQ⟩ := hrel
    have q5 : (N : Int) ≤ 1000000 := by have := HL.out; omega
    have q1 : (0 : Int) ≤ (q : Int) := by omega
    by_cases hlt : q < N
    · have hi2 : q < L.length := by rw [HN.out]; exact hlt
      have HI : Hid (q < L.length) := hi2
      obtain ⟨a, rfl, d0, d1, d2⟩ := HC.out q hi2
      rw [add_field _ _ _ (by decide)] at d1 d2
      have hge := HP0.out.hi q hi2 HQ.out.1
      obtain ⟨x, HX⟩ : ∃ x : Ap, Hid (∀ h : q < L.length, L[q]'h = x) := ⟨L[q]'hi2, fun _ => rfl⟩
      rw [HX.out hi2] at d0 d1 d2 hge
      obtain ⟨x0, x1, x2⟩ := x
      dsimp only at d0 d1 d2 hge
      have q0 : (q : Int) < (N : Int) := by omega
      have q3 : (q : Int) + 1 ≤ 9223372036854775807 := by omega
      have HGE : Hid (t ≤ x2) := hge
      clear hi2 hlt hge
      by_cases ht : x2 = t
      · have HT : Hid (x2 = t) := ht
        have b1 : (x2 == t) = true := by simp [ht]
        clear ht
        by_cases hx : x1 = u
        · have b2 : (x1 == u) = true := by simp [hx]
          have HXU : Hid (x1 = u) := hx
          clear hx
          go_wp2_with fail
          go_ret
          exact ⟨⟨_, rfl, .inr ⟨q, HI.out, rfl, by rw [HX.out HI.out]; exact ⟨HXU.out, HT.out⟩, HQ.out.2.2⟩⟩, HY.out⟩
        · have b2 : (x1 == u) = false := by simp [hx]
          have HXU : Hid (x1 ≠ u) := hx
          clear hx
          go_wp2_with fail
          refine ⟨⟨q + 1, by simp, trivial, by have := HQ.out.1; omega, by have := HI.out; rw [HN.out] at this; omega, fun j hj hjq => ?_⟩, ?_⟩
          · by_cases e : j = q
            · subst e; rw [HX.out hj]; exact fun hm => HXU.out hm.1
            · exact HQ.out.2.2 j hj (by omega)
          · have := HI.out; rw [HN.out] at this; simp only [intOf]; omega
      · have b1 : (x2 == t) = false := by simp [ht]
        have HT : Hid (x2 ≠ t) := ht
        have HNO : Hid (∀ a ∈ L, ¬ mt u t a) := fun a ha hm => by
          obtain ⟨j, hj, rfl⟩ := List.getElem_of_mem ha
          by_cases e : j < q
          · exact HQ.out.2.2 j hj e hm
          · have h1 := up_le HU.out hj (i := q) (by omega)
            rw [HX.out HI.out] at h1
            have h2 := HT.out
            have h3 := HGE.out
            have h4 := hm.2
            dsimp only at h1
            omega
        clear ht
        go_wp2_with fail
        go_ret
        exact ⟨⟨_, rfl, .inl ⟨rfl, HNO.out⟩⟩, HY.out⟩
    · obtain rfl : q = N := by have := HQ.out.2.1; omega
      have HNO : Hid (∀ a ∈ L, ¬ mt u t a) := fun a ha hm => by
        obtain ⟨j, hj, rfl⟩ := List.getElem_of_mem ha
        exact HQ.out.2.2 j hj (by rw [← HN.out]; exact hj) hm
      clear hlt
      go_wp2_with fail
      go_ret
      exact ⟨⟨_, rfl, .inl ⟨rfl, HNO.out⟩⟩, HY.out⟩
end Go.Proofs.Ytmaikkhemhonhaa.Eb
