/- A moment out of its date: plain. -/
import Derived.Test.YtpocbaaogkabeaaDoorFt
namespace Go.Proofs.YtpocbaaogkabeaaDoor.Fu
set_option linter.unusedVariables false
set_option linter.unusedSimpArgs false
open Go.RowKit Ca Oe
theorem mom_back {b y M D h mi s : Int} (hd : isD y M D h mi s = true) (e : b = mom y M D h mi s) : IsDay (b / 86400) y M D ∧ b % 86400 / 3600 = h ∧ b % 3600 / 60 = mi ∧ b % 60 = s ∧ 0 ≤ b ∧ b ≤ 3155759999 := by
  have d := isD_day hd
  have bb := mom_bd hd
  have f := of_decide_eq_true hd
  subst e
  unfold mom at bb ⊢
  generalize ay y + am y M + D - 1 = N at *
  refine ⟨?_, by omega, by omega, by omega, by omega, by omega⟩
  rw [show (N * 86400 + h * 3600 + mi * 60 + s) / 86400 = N by omega]
  exact d
end Go.Proofs.YtpocbaaogkabeaaDoor.Fu
