/- StanBack: the law's fields. -/
import Derived.Test.YtmnoplaepjaokaaGreatDoorBa
namespace Go.Proofs.YtmnoplaepjaokaaGreatDoor.Bb
set_option linter.unusedVariables false
set_option linter.unusedSimpArgs false
open Go.RowKit Go.Maps Lib0 Kb Xp Za Zb Zc Zg Zh Ba
def addF (l : List Int) (c : Int) : List Int := if l.contains (fld c) then l else l ++ [fld c]
def fsL (raw : List Int) : List Int := raw.foldl addF [11]
theorem gd_start : Gd [11] := ⟨by decide, by decide, by decide, by decide⟩
structure Gf (l : List Int) (k : Nat) : Prop where
  pos : 0 < l.length
  len : l.length ≤ k
  fld : ∀ x ∈ l, isF x = true
  one : l.Nodup
theorem gf_start : Gf [11] 1 := ⟨by decide, by decide, by decide, by decide⟩
theorem Gf.add {l : List Int} {k : Nat} (h : Gf l k) (c : Int) : Gf (addF l c) (k + 1) := by
  unfold addF
  by_cases e : l.contains (Ba.fld c) = true
  · rw [if_pos e]; exact ⟨h.pos, by have := h.len; omega, h.fld, h.one⟩
  · rw [if_neg e]
    refine ⟨by simp, by have := h.len; simp; omega, fun x hx => ?_, ?_⟩
    · rcases List.mem_append.1 hx with hx | hx
      · exact h.fld x hx
      · have : x = Ba.fld c := by simpa using hx
        rw [this]; exact fld_is c
    · rw [List.nodup_append]
      refine ⟨h.one, by simp, fun a ha b hb => ?_⟩
      have : b = Ba.fld c := by simpa using hb
      intro e2
      subst e2
      rw [this] at ha
      exact e (List.contains_iff_mem.2 ha)
theorem Gf.gd {l : List Int} {k : Nat} (h : Gf l k) (hk : k ≤ 100000) : Gd l := by
  refine ⟨h.pos, Nat.le_trans h.len hk, h.fld, fun i hi => ?_⟩
  rw [Bool.eq_false_iff]
  intro hm
  rw [List.contains_iff_mem] at hm
  obtain ⟨j, hj, e⟩ := List.getElem_of_mem hm
  rw [List.length_take] at hj
  rw [List.getElem_take] at e
  have hp := List.pairwise_iff_getElem.1 h.one j i (by omega) hi (by omega)
  exact hp e
end Go.Proofs.YtmnoplaepjaokaaGreatDoor.Bb
