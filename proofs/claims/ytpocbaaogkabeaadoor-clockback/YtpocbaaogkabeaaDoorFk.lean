/- The next day: plain. -/
import Derived.Test.YtpocbaaogkabeaaDoorFu
import Derived.Test.YtpocbaaogkabeaaDoorRj
namespace Go.Proofs.YtpocbaaogkabeaaDoor.Fk
set_option linter.unusedVariables false
set_option linter.unusedSimpArgs false
open Go.RowKit Ca Oe Pa Te Rj Lw Ft
theorem next_day {N Y M D Y' M' D' : Int} (a : IsDay N Y M D) (b : IsDay (N + 1) Y' M' D') :
    (Y' = Y ∧ am Y' M' + D' = am Y M + D + 1 ∧ ((D' = D + 1 ∧ M' = M) ∨ D' = 1)) ∨ (Y' = Y + 1 ∧ M' = 1 ∧ D' = 1) := by
  have a0 := a.y0; have a1 := a.y1; have am0 := a.m0; have am1 := a.m1; have ad0 := a.d0; have ad1 := a.d1; have ai := a.is
  have st := am_step Y (m := M)
  by_cases hD : D + 1 ≤ dm Y M
  · have c : IsDay (N + 1) Y M (D + 1) := ⟨a0, a1, am0, am1, by omega, hD, by omega⟩
    obtain ⟨rfl, rfl, rfl⟩ := b.one c
    exact .inl ⟨rfl, by omega, .inl ⟨rfl, rfl⟩⟩
  · by_cases hM : M + 1 ≤ 12
    · have db := dm_bd Y (m := M + 1) (by omega) hM
      have c : IsDay (N + 1) Y (M + 1) 1 := ⟨a0, a1, by omega, hM, by omega, by omega, by omega⟩
      obtain ⟨rfl, rfl, rfl⟩ := b.one c
      exact .inl ⟨rfl, by omega, .inr rfl⟩
    · obtain rfl : M = 12 := by omega
      rw [show (12 : Int) + 1 = 13 by decide] at st
      have ys := ay_succ (y := Y) (by omega) a1
      have bb := b.bd
      have hy : Y + 1 ≤ 2099 := by
        rcases (by omega : Y + 1 ≤ 2099 ∨ Y = 2099) with h | rfl
        · exact h
        · rw [show (2099 : Int) + 1 = 2100 by decide, ay_2100] at ys; omega
      have db := dm_bd (Y + 1) (m := 1) (by omega) (by omega)
      have c : IsDay (N + 1) (Y + 1) 1 1 := ⟨by omega, hy, by omega, by omega, by omega, by omega, by rw [am_one]; omega⟩
      obtain ⟨rfl, rfl, rfl⟩ := b.one c
      exact .inr ⟨rfl, rfl, rfl⟩
def j3 (t : Int) : List UInt8 := [dc (t / 100 % 10), dc (t / 10 % 10), dc (t % 10)]
theorem j3_fin : ∀ k : Fin 367, Op.bytesLess (j3 ((k.val : Int) + 1)) (j3 (k.val : Int)) = false ∧ (j3 ((k.val : Int) + 1) == j3 (k.val : Int)) = false := by decide +kernel
theorem less_cons (a : UInt8) (x y : List UInt8) : Op.bytesLess (a :: x) (a :: y) = Op.bytesLess x y := by simp [Op.bytesLess]
/-- Julian's text -/
def juS (Y M D : Int) : ByteArray := ⟨(juL Y M D).toArray⟩
theorem day_t {N Y M D : Int} (a : IsDay N Y M D) : 1 ≤ am Y M + D ∧ am Y M + D ≤ 366 := by
  have eM := am_bd Y a.m0 (by have := a.m1; omega)
  have eM2 := am_bd Y (m := M + 1) (by have := a.m0; omega) (by have := a.m1; omega)
  have st := am_step Y (m := M)
  have := a.d0; have := a.d1
  omega
theorem juS_list {N Y M D : Int} (a : IsDay N Y M D) : (juS Y M D).data.toList = dc (Y % 10) :: j3 (am Y M + D) := by
  have t := day_t a
  show (juL Y M D).toArray.toList = _
  rw [juL_eq (by have := a.y0; omega) (by omega)]
  rfl
theorem juS_size {N Y M D : Int} (a : IsDay N Y M D) : (juS Y M D).size = 4 := by
  show (juS Y M D).data.size = 4
  rw [← Array.length_toList, juS_list a]; rfl
theorem juS_rise {N Y M D M' D' : Int} (a : IsDay N Y M D) (b : IsDay (N + 1) Y M' D') (h : am Y M' + D' = am Y M + D + 1) :
    Op.bytesLess (juS Y M' D').data.toList (juS Y M D).data.toList = false ∧ ((juS Y M' D').data.toList == (juS Y M D).data.toList) = false := by
  have t := day_t a
  rw [juS_list a, juS_list b, h, less_cons]
  have k := j3_fin ⟨(am Y M + D).toNat, by omega⟩
  simp only [Int.toNat_of_nonneg (show 0 ≤ am Y M + D by omega)] at k
  refine ⟨k.1, ?_⟩
  simp only [List.cons_beq_cons, beq_self_eq_true, Bool.true_and]
  exact k.2
theorem juS_first {N Y : Int} (a : IsDay N Y 1 1) : (juS Y 1 1).extract 1 4 = ⟨#[48, 48, 49]⟩ := by
  have e := juS_list a
  rw [am_one] at e
  have e2 : juS Y 1 1 = ⟨#[dc (Y % 10), 48, 48, 49]⟩ := by
    apply ByteArray.ext
    apply Array.ext'
    rw [e]
    rfl
  rw [e2]
  apply ByteArray.ext
  simp
theorem j3_nf : ∀ k : Fin 367, 2 ≤ k.val → (j3 (k.val : Int) == [48, 48, 49]) = false := by decide +kernel
theorem juS_nf {N Y M D : Int} (a : IsDay N Y M D) (h : 2 ≤ am Y M + D) : ¬ ((juS Y M D).extract 1 4).toList = [48, 48, 49] := by
  have t := day_t a
  have e := juS_list a
  have k := j3_nf ⟨(am Y M + D).toNat, by omega⟩ (by show 2 ≤ (am Y M + D).toNat; omega)
  simp only [Int.toNat_of_nonneg (show 0 ≤ am Y M + D by omega)] at k
  generalize am Y M + D = u at *
  have e2 : juS Y M D = ⟨#[dc (Y % 10), dc (u / 100 % 10), dc (u / 10 % 10), dc (u % 10)]⟩ := by
    apply ByteArray.ext
    apply Array.ext'
    rw [e]
    rfl
  have e3 : (juS Y M D).extract 1 4 = ⟨#[dc (u / 100 % 10), dc (u / 10 % 10), dc (u % 10)]⟩ := by
    rw [e2]
    apply ByteArray.ext
    simp
  rw [e3]
  rw [ByteArray.toList_eq]
  intro h2
  rw [show j3 u = [48, 48, 49] from h2] at k
  exact absurd k (by decide)
end Go.Proofs.YtpocbaaogkabeaaDoor.Fk
