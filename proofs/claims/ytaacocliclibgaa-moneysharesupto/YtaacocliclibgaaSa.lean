/- Share: the program's. -/
import Derived.Test.YtaacocliclibgaaTg
namespace Go.Proofs.Ytaacocliclibgaa.Sa
set_option linter.unusedVariables false
open Go.RowKit Sl Kb Mp Ms So Sc Gf Tg
def zf (z : List Int) (i : Nat) : Int := z.getD i 0
/-- the even part, the rest -/
def xF (u : Int) (z : List Int) (i : Nat) : Int := u * zf z i / sm z
def rF (u : Int) (z : List Int) (i : Nat) : Int := u * zf z i % sm z
def xS (u : Int) (z : List Int) : Nat → Int
  | 0 => 0
  | k + 1 => xS u z k + xF u z k
/-- a unit more to each of the first k -/
def more (X : Nat → Int) (c : Nat → Nat) : Nat → Nat → Int
  | 0 => X
  | k + 1 => updI (more X c k) (c k) (more X c k (c k) + 1)
theorem zf_get (z : List Int) (i : Nat) (h : i < z.length) : zf z i = z[i] := by
  rw [zf, List.getD_eq_getElem?_getD, List.getElem?_eq_getElem h, Option.getD_some]
/-- the rests make up what is left -/
def rS (u : Int) (z : List Int) : Nat → Int
  | 0 => 0
  | k + 1 => rS u z k + rF u z k
theorem parts (u : Int) (z : List Int) (hW : 0 < sm z) (k : Nat) (hk : k ≤ z.length) : sm z * xS u z k + rS u z k = u * sm (z.take k) := by
  induction k with
  | zero => simp [xS, rS, sm]
  | succ k ih =>
    have := ih (by omega)
    have e := Int.mul_ediv_add_emod (u * zf z k) (sm z)
    rw [xS, rS, sm_snoc z k (by omega), Int.mul_add, Int.mul_add, ← this, ← zf_get z k (by omega)]
    simp only [xF, rF]
    omega
theorem rS_bounds (u : Int) (z : List Int) (hW : 0 < sm z) (k : Nat) : 0 ≤ rS u z k ∧ rS u z k ≤ (sm z - 1) * k := by
  induction k with
  | zero => simp [rS]
  | succ k ih =>
    have h1 : 0 ≤ rF u z k := Int.emod_nonneg _ (by omega)
    have h2 : rF u z k < sm z := Int.emod_lt_of_pos _ hW
    rw [rS]
    refine ⟨by omega, ?_⟩
    have : (sm z - 1) * ((k + 1 : Nat) : Int) = (sm z - 1) * (k : Int) + (sm z - 1) := by rw [Int.natCast_add, Int.mul_add]; simp
    omega
/-- what is left: at least nothing, less than as many as there are -/
theorem left_bounds (u : Int) (z : List Int) (hW : 0 < sm z) : 0 ≤ u - xS u z z.length ∧ (z ≠ [] → u - xS u z z.length < z.length) := by
  have h := parts u z hW z.length (Nat.le_refl _)
  rw [List.take_length] at h
  obtain ⟨h1, h2⟩ := rS_bounds u z hW z.length
  have e : sm z * (u - xS u z z.length) = rS u z z.length := by rw [Int.mul_sub, Int.mul_comm (sm z) u]; omega
  constructor
  · refine Int.not_lt.1 fun hneg => ?_
    have := Int.mul_lt_mul_of_pos_left hneg hW
    rw [e] at this; simp at this; omega
  · intro hz
    refine Int.not_le.1 fun hge => ?_
    have h3 := Int.mul_le_mul_of_nonneg_left hge (show 0 ≤ sm z by omega)
    rw [e] at h3
    have hp : 0 < z.length := List.length_pos_iff.2 hz
    have h4 : (sm z - 1) * (z.length : Int) = sm z * (z.length : Int) - (z.length : Int) := by rw [Int.sub_mul]; simp
    omega
theorem xF_bounds (u : Int) (z : List Int) (hu : 0 ≤ u) (hW : 0 < sm z) (hz : z.all isW = true) (i : Nat) : 0 ≤ xF u z i := by
  refine Int.ediv_nonneg (Int.mul_nonneg hu ?_) (by omega)
  by_cases h : i < z.length
  · rw [zf_get z i h]; exact ((isW_iff _).1 (List.all_eq_true.1 hz _ (List.getElem_mem h))).1
  · rw [zf, List.getD_eq_getElem?_getD, List.getElem?_eq_none (by omega)]; simp
end Go.Proofs.Ytaacocliclibgaa.Sa
