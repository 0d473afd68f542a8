/- Plain: currencies and their places. -/
import Derived.Test.YtaacocliclibgaaRows
namespace Go.Proofs.Ytaacocliclibgaa.Pp
/-- the currencies, rising, with their places -/
def ents : List (List UInt8 × Int) := [([48, 51, 54], 2), ([48, 52, 56], 3), ([49, 50, 52], 2), ([49, 53, 50], 0), ([49, 53, 54], 2), ([50, 48, 56], 2), ([51, 52, 52], 2), ([51, 53, 50], 0), ([51, 53, 54], 2), ([51, 57, 50], 0), ([52, 48, 48], 3), ([52, 49, 48], 0), ([52, 49, 52], 3), ([52, 56, 52], 2), ([53, 49, 50], 3), ([53, 53, 52], 2), ([53, 55, 56], 2), ([55, 48, 50], 2), ([55, 49, 48], 2), ([55, 53, 50], 2), ([55, 53, 54], 2), ([55, 56, 56], 3), ([56, 50, 54], 2), ([56, 52, 48], 2), ([57, 52, 57], 2), ([57, 55, 56], 2), ([57, 56, 54], 2)]
def plf (s : List UInt8) : Option Int := (ents.find? fun p => p.1 == s).map (·.2)
def plV (s : List UInt8) : Int := (plf s).getD 0
def plE (s : List UInt8) : Int := if (plf s).isSome then 0 else 70
def names : List (List UInt8) := ents.map (·.1)
theorem plf_none (s : List UInt8) (h : ∀ x ∈ names, x ≠ s) : plf s = none := by
  simp only [plf, Option.map_eq_none_iff, List.find?_eq_none]
  intro p hp e
  exact h p.1 (List.mem_map.2 ⟨p, hp, rfl⟩) (beq_iff_eq.1 e)
theorem plf_mem (s : List UInt8) : (plf s = none ∧ plV s = 0 ∧ plE s = 70) ∨ (plf s = some 0 ∧ plV s = 0 ∧ plE s = 0) ∨ (plf s = some 2 ∧ plV s = 2 ∧ plE s = 0) ∨ (plf s = some 3 ∧ plV s = 3 ∧ plE s = 0) := by
  have key : plf s = none ∨ plf s = some 0 ∨ plf s = some 2 ∨ plf s = some 3 := by
    cases h : ents.find? fun p => p.1 == s with
    | none => left; simp [plf, h]
    | some p =>
      right
      have hm := List.mem_of_find?_eq_some h
      have : ∀ q ∈ ents, q.2 = 0 ∨ q.2 = 2 ∨ q.2 = 3 := by decide
      simpa [plf, h] using this p hm
  rcases key with h | h | h | h <;> simp [plV, plE, h]
theorem plV_bounds (s : List UInt8) : 0 ≤ plV s ∧ plV s ≤ 3 := by rcases plf_mem s with h | h | h | h <;> rw [h.2.1] <;> decide
theorem plE_cases (s : List UInt8) : plE s = 0 ∨ (plE s = 70 ∧ plV s = 0) := by rcases plf_mem s with h | h | h | h <;> simp [h.2.1, h.2.2]
end Go.Proofs.Ytaacocliclibgaa.Pp
