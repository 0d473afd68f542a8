/- The names of the currencies as cells; one that there is. -/
import Derived.Test.YtaacocliclibgaaKb
import Derived.Test.YtaacocliclibgaaPp
import Derived.Test.YtaacocliclibgaaPick
import Derived.Great.BuildSlice
namespace Go.Proofs.Ytaacocliclibgaa.Nm
set_option linter.unusedVariables false
open Go.RowKit Kb Pp
/-- the names as cells -/
def nmC : Array Value := (names.map fun l => Value.string ⟨l.toArray⟩).toArray
def nm (j : Nat) : ByteArray := ⟨(names.getD j []).toArray⟩
theorem nmC_get (j : Nat) (h : j < 27) : nmC[j]? = some (.string (nm j)) := by
  have hl : j < names.length := h
  simp only [nmC, nm, List.getElem?_toArray, List.getElem?_map, List.getElem?_eq_getElem hl, Option.map_some, List.getD_eq_getElem?_getD, Option.getD_some]
theorem toL (s : ByteArray) : s.toList = s.data.toList := by
  apply ByteArray.toList_eq
theorem cell_row {w : World} {g i : Nat} {c : Array Value} {t : TypeId} {v : Value} (h : w.heap[g]? = some (.cells c t (0, 0))) (hi : c[i]? = some v) : w.cell? ⟨g, i, none⟩ = some v := by
  simp [World.cell?, h, hi]
theorem nm_known (j : Nat) (h : j < 27) : plE (nm j).data.toList = 0 := by
  have : ∀ k : Fin 27, plE (nm k.val).data.toList = 0 := by decide
  exact this ⟨j, h⟩
theorem nm_size (j : Nat) (h : j < 27) : (nm j).size = 3 := by
  have : ∀ k : Fin 27, (nm k.val).size = 3 := by decide
  exact this ⟨j, h⟩
def cu (c : Int) : ByteArray := nm (Pick.pickOf c 27).toNat
theorem cu_known (c : Int) : plE (cu c).data.toList = 0 := nm_known _ (by have := Pick.pick_hi c 27 (by decide); omega)
theorem cu_size (c : Int) : (cu c).size ≤ maxLen := by rw [cu, nm_size _ (by have := Pick.pick_hi c 27 (by decide); omega)]; decide
end Go.Proofs.Ytaacocliclibgaa.Nm
