/- What follows of dates: plain. -/
import Derived.Test.YtpocbaaogkabeaaDoorOd
import Derived.Test.YtpocbaaogkabeaaDoorFdy
namespace Go.Proofs.YtpocbaaogkabeaaDoor.Fo
set_option linter.unusedVariables false
set_option linter.unusedSimpArgs false
open Go.RowKit Ca Oe Lw Od Fdy
theorem lex {x y Y M D h mi s Y' M' D' h' mi' s' : Int} (a : IsDay (x / 86400) Y M D) (b : IsDay (y / 86400) Y' M' D')
    (hh : h = x % 86400 / 3600) (hm : mi = x % 3600 / 60) (hs : s = x % 60) (hh' : h' = y % 86400 / 3600) (hm' : mi' = y % 3600 / 60) (hs' : s' = y % 60) :
    ordL [(Y, Y'), (M, M'), (D, D'), (h, h'), (mi, mi'), (s, s')] = if x < y then -1 else if y < x then 1 else 0 := by
  obtain ⟨f1, f2, f3⟩ := day_rise a b
  obtain ⟨g1, g2, g3⟩ := day_rise b a
  simp only [ordL]
  by_cases c1 : Y < Y'
  · have := f1 c1
    rw [if_pos c1, if_pos (by omega)]
  rw [if_neg c1]
  by_cases c2 : Y' < Y
  · have := g1 c2
    rw [if_pos c2, if_neg (by omega), if_pos (by omega)]
  rw [if_neg c2]
  have e1 : Y = Y' := by omega
  by_cases c3 : M < M'
  · have := f2 e1 c3
    rw [if_pos c3, if_pos (by omega)]
  rw [if_neg c3]
  by_cases c4 : M' < M
  · have := g2 e1.symm c4
    rw [if_pos c4, if_neg (by omega), if_pos (by omega)]
  rw [if_neg c4]
  have e2 := f3 e1 (by omega)
  split
  · rw [if_pos (by omega)]
  split
  · rw [if_neg (by omega), if_pos (by omega)]
  have e3 : x / 86400 = y / 86400 := by omega
  split
  · rw [if_pos (by omega)]
  split
  · rw [if_neg (by omega), if_pos (by omega)]
  have e4 : x / 3600 = y / 3600 := by omega
  split
  · rw [if_pos (by omega)]
  split
  · rw [if_neg (by omega), if_pos (by omega)]
  split
  · rw [if_pos (by omega)]
  split
  · rw [if_neg (by omega), if_pos (by omega)]
  rw [if_neg (by omega), if_neg (by omega)]
end Go.Proofs.YtpocbaaogkabeaaDoor.Fo
