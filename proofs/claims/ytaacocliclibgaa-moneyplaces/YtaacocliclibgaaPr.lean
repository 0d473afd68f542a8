/- The document's Places; a currency that there is. -/
import Derived.Test.YtaacocliclibgaaKb
import Derived.Test.YtaacocliclibgaaPp
import Derived.Test.YtaacocliclibgaaNm
import Derived.Great.BuildSlice
namespace Go.Proofs.Ytaacocliclibgaa.Pr
set_option linter.unusedVariables false
open Go.RowKit Kb Pp Nm
set_option maxRecDepth 100000 in
set_option maxHeartbeats 400000 in
theorem currencies_any (w : World) : Calls Try.prog 7 #[] w fun e w' => e = .returned (.slice (some ⟨w.heap.size, 0, none⟩) 27 27) ∧ w' = w.alloc (.cells nmC 9) := by
  go_enter Try.func7, Try.ntmps7
  go_wp2
  go_ret
  exact ⟨rfl, rfl⟩
set_option maxRecDepth 100000 in
set_option maxHeartbeats 400000 in
theorem placesr_lit (l : List UInt8) (h : l ∈ [[49, 53, 50], [51, 53, 50], [51, 57, 50], [52, 49, 48], [48, 52, 56], [52, 48, 48], [52, 49, 52], [53, 49, 50], [55, 56, 56]]) (w : World) : Calls Try.prog 6 #[.string ⟨l.toArray⟩] w fun e w' => e = .returned (.tuple #[.int .i64 (plV l), .int .i64 (plE l)]) ∧ Below w.heap.size w w' := by
  simp only [List.mem_cons, List.not_mem_nil, or_false] at h
  rcases h with rfl | rfl | rfl | rfl | rfl | rfl | rfl | rfl | rfl
  all_goals
    go_enter Try.func6, Try.ntmps6
    go_wp2
    all_goals
      go_ret2
      exact ⟨by first | rfl | decide, Below.refl _ _⟩
def nineL : List (List UInt8) := [[49, 53, 50], [51, 53, 50], [51, 57, 50], [52, 49, 48], [48, 52, 56], [52, 48, 48], [52, 49, 52], [53, 49, 50], [55, 56, 56]]
theorem two_of (j : Nat) (h : j < 27) (hn : (nm j).data.toList ∉ nineL) : plV (nm j).data.toList = 2 ∧ plE (nm j).data.toList = 0 := by
  have : ∀ k : Fin 27, (nm k.val).data.toList ∉ nineL → plV (nm k.val).data.toList = 2 ∧ plE (nm k.val).data.toList = 0 := by decide
  exact this ⟨j, h⟩ hn
theorem not_found (s : List UInt8) (h : ∀ j, j < 27 → (nm j).data.toList ≠ s) : plV s = 0 ∧ plE s = 70 := by
  have e : plf s = none := by
    refine plf_none s fun x hx => ?_
    obtain ⟨j, hj, e⟩ := List.getElem_of_mem hx
    have := h j hj
    simp only [nm, List.getD_eq_getElem?_getD, List.getElem?_eq_getElem hj, Option.getD_some, e] at this
    exact this
  simp [plV, plE, e]
set_option maxRecDepth 100000 in
set_option maxHeartbeats 400000 in
theorem placesr_loop (s : ByteArray) (n0 : (s.toList == [49, 53, 50]) = false) (n1 : (s.toList == [51, 53, 50]) = false) (n2 : (s.toList == [51, 57, 50]) = false) (n3 : (s.toList == [52, 49, 48]) = false) (n4 : (s.toList == [48, 52, 56]) = false) (n5 : (s.toList == [52, 48, 48]) = false) (n6 : (s.toList == [52, 49, 52]) = false) (n7 : (s.toList == [53, 49, 50]) = false) (n8 : (s.toList == [55, 56, 56]) = false) (hn : Hid (s.data.toList ∉ nineL)) (w : World) : Calls Try.prog 6 #[.string s] w fun e w' => e = .returned (.tuple #[.int .i64 (plV s.data.toList), .int .i64 (plE s.data.toList)]) ∧ Below w.heap.size w w' := by
  obtain ⟨V, hV⟩ : ∃ V, V = plV s.data.toList := ⟨_, rfl⟩
  obtain ⟨E, hE⟩ : ∃ E, E = plE s.data.toList := ⟨_, rfl⟩
  have HVE : Hid (V = plV s.data.toList ∧ E = plE s.data.toList) := ⟨hV, hE⟩
  rw [← hV, ← hE]
  clear hV hE
  go_enter Try.func6, Try.ntmps6
  go_wp2_with fail
  refine (currencies_any _).mono ?_
  rintro e y ⟨rfl, hy⟩
  have G : Hid (y.heap[w.heap.size]? = some (.cells nmC 9)) := by show _ = _; rw [hy]; exact h1_0 _ _
  have B : Below w.heap.size w y := by rw [hy]; exact below_one _ _
  clear hy
  go_wp2_with fail
  go_loopw [5] (fun ii wr => ∃ j : Nat, j ≤ 27 ∧ ii = .int .i64 (j : Int) ∧ Hid (∀ k, k < j → (nm k).data.toList ≠ s.data.toList) ∧ wr = y) (fun ii _ => 28 - (intOf ii).toNat)
  case atStart => exact ⟨0, by omega, rfl, (fun k hk => by omega), rfl⟩
  case round =>
    obtain ⟨j, hj, rfl, HA, rfl⟩ := hrel
    by_cases hj2 : j < 27
    · have q : (j : Int) < 27 := by omega
      have cz : wr.cell? ⟨w.heap.size, j, none⟩ = some (.string (nm j)) := by
        have := G.out
        simp [World.cell?, this, nmC_get j hj2]
      obtain ⟨b, hb⟩ : ∃ b, b = nm j := ⟨_, rfl⟩
      rw [← hb] at cz
      cases hf : (b.toList == s.toList)
      · have HA2 : Hid (∀ k, k < j + 1 → (nm k).data.toList ≠ s.data.toList) := fun k hk => by
          by_cases e : k = j
          · subst e
            rw [beq_eq_false_iff_ne, toL, toL, hb] at hf
            exact hf
          · exact HA.out k (by omega)
        clear hb HA
        go_wp2_with fail
        exact ⟨⟨j + 1, by omega, by simp, HA2, by first | rfl | trivial⟩, by simp only [intOf]; omega⟩
      · have HF : Hid (V = 2 ∧ E = 0) := by
          show _ ∧ _
          rw [beq_iff_eq, toL, toL, hb] at hf
          rw [HVE.out.1, HVE.out.2, ← hf]
          exact two_of j hj2 (by rw [hf]; exact hn.out)
        clear hb HA
        go_wp2_with fail
        go_ret2
        exact ⟨by rw [HF.out.1, HF.out.2]; rfl, B⟩
    · obtain rfl : j = 27 := by omega
      have HF : Hid (V = 0 ∧ E = 70) := by
        show _ ∧ _
        rw [HVE.out.1, HVE.out.2]
        exact not_found _ HA.out
      go_wp2_with fail
      go_ret2
      exact ⟨by rw [HF.out.1, HF.out.2]; rfl, B⟩
theorem placesr_any (s : ByteArray) (w : World) : Calls Try.prog 6 #[.string s] w fun e w' => e = .returned (.tuple #[.int .i64 (plV s.data.toList), .int .i64 (plE s.data.toList)]) ∧ Below w.heap.size w w' := by
  by_cases h : s.data.toList ∈ nineL
  · exact placesr_lit s.data.toList h w
  · have f : ∀ l ∈ nineL, (s.toList == l) = false := fun l hl => by
      rw [beq_eq_false_iff_ne, toL]; intro e; rw [e] at h; exact h hl
    exact placesr_loop s (f _ (by decide)) (f _ (by decide)) (f _ (by decide)) (f _ (by decide)) (f _ (by decide)) (f _ (by decide)) (f _ (by decide)) (f _ (by decide)) (f _ (by decide)) h w
end Go.Proofs.Ytaacocliclibgaa.Pr
