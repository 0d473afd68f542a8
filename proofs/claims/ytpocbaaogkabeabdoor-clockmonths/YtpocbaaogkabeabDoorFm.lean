/- The ends of months: plain. -/
import Derived.Test.YtpocbaaogkabeabDoorFu
import Derived.Test.YtpocbaaogkabeabDoorBu
namespace Go.Proofs.YtpocbaaogkabeabDoor.Fm
set_option linter.unusedVariables false
set_option linter.unusedSimpArgs false
open Go.RowKit Ca Oe Sg Sm Sn Nr Ner Pa Lw Ft
/-- a month's text -/
def moT (y m : Int) : ByteArray := ⟨#[dc (y / 10), dc (y % 10), dc (m / 10), dc (m % 10)]⟩
theorem moT_is {y m : Int} (y0 : 0 ≤ y) (y1 : y < 100) (m0 : 1 ≤ m) (m1 : m ≤ 12) : isMo (moT y m) = true ∧ tw (moT y m).data.toList 0 = y ∧ tw (moT y m).data.toList 2 = m ∧ (moT y m).size = 4 := by
  have t0 : tw (moT y m).data.toList 0 = y := tw_dc y0 y1 rfl rfl
  have t2 : tw (moT y m).data.toList 2 = m := tw_dc (by omega) (by omega) rfl rfl
  have sz : (moT y m).size = 4 := rfl
  have a : ad (moT y m) = true := by
    unfold ad
    show [dc (y / 10), dc (y % 10), dc (m / 10), dc (m % 10)].all dig = true
    simp only [List.all_cons, List.all_nil, Bool.and_true, Bool.and_eq_true]
    refine ⟨?_, ?_, ?_, ?_⟩ <;> exact dig_dc (by omega) (by omega)
  refine ⟨?_, t0, t2, sz⟩
  unfold isMo four
  rw [a, t2, sz, decide_eq_true (show 1 ≤ m ∧ m ≤ 12 from ⟨m0, m1⟩)]
  rfl
theorem la_day {y m n : Int} (y0 : 0 ≤ y) (y1 : y < 100) (m0 : 1 ≤ m) (m1 : m ≤ 12) (hn : n = laV (moT y m)) :
    IsDay (n / 86400) (2000 + y) m (dm (2000 + y) m) ∧ n % 86400 / 3600 = 23 ∧ n % 3600 / 60 = 59 ∧ n % 60 = 59 ∧ 0 ≤ n ∧ n ≤ 3155759999 ∧ (n < 3155759999 → (∃ Y' M', IsDay ((n + 1) / 86400) Y' M' 1) ∧ (n + 1) % 86400 / 3600 = 0) := by
  obtain ⟨_, t0, t2, _⟩ := moT_is y0 y1 m0 m1
  have e : n = mom (2000 + y) m (dm (2000 + y) m) 23 59 59 := by
    rw [hn]; unfold laV mom dm; rw [t0, t2]; omega
  have db := dm_bd (2000 + y) m0 m1
  have hd : isD (2000 + y) m (dm (2000 + y) m) 23 59 59 = true := decide_eq_true (by omega)
  obtain ⟨d1, e1, e2, e3, e4, e5⟩ := Fu.mom_back hd e
  refine ⟨d1, e1, e2, e3, e4, e5, fun hl => ⟨?_, by omega⟩⟩
  have is := d1.is
  have st := am_step (2000 + y) (m := m)
  have q : (n + 1) / 86400 = n / 86400 + 1 := by omega
  rw [q]
  by_cases h12 : m = 12
  · subst h12
    have ys := ay_succ (y := 2000 + y) (by omega) (by omega)
    rw [show (12 : Int) + 1 = 13 by decide] at st
    have hy : 2000 + y + 1 ≤ 2099 := by
      rcases (by omega : 2000 + y + 1 ≤ 2099 ∨ y = 99) with h | rfl
      · exact h
      · rw [show (2000 : Int) + 99 + 1 = 2100 by decide, ay_2100] at ys
        omega
    exact ⟨2000 + y + 1, 1, by omega, hy, by omega, by omega, by omega, by have := (dm_bd (2000 + y + 1) (m := 1) (by omega) (by omega)).1; omega, by rw [am_one]; omega⟩
  · exact ⟨2000 + y, m + 1, by omega, by omega, by omega, by omega, by omega, by have := (dm_bd (2000 + y) (m := m + 1) (by omega) (by omega)).1; omega, by omega⟩
theorem cut4 (M D H I S : Int) : (stS M D H I S).extract 0 4 = ⟨(prL [M, D]).toArray⟩ := by
  apply ByteArray.ext
  simp [stS, prL]
end Go.Proofs.YtpocbaaogkabeabDoor.Fm
