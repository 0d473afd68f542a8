/- The names of the currencies as cells; one that there is. -/
import Derived.Test.YtgojcebdlafbeaaDoorKb
import Derived.Test.YtgojcebdlafbeaaDoorPp
import Derived.Test.YtgojcebdlafbeaaDoorPick
import Derived.Great.BuildSlice
namespace Go.Proofs.YtgojcebdlafbeaaDoor.Nm
set_option linter.unusedVariables false
open Go.RowKit Kb Pp
/-- the names as cells -/
def nmC : Array Value := (names.map fun l => Value.string ⟨l.toArray⟩).toArray
def nm (j : Nat) : ByteArray := ⟨(names.getD j []).toArray⟩
theorem nmC_get (j : Nat) (h : j < 27) : nmC[j]? = some (.string (nm j)) := by
  have hl : j < names.length := h
  simp only [nmC, nm, List.getElem?_toArray, List.getElem?_map, List.getElem?_eq_getElem hl, Option.map_some, List.getD_eq_getElem?_getD, Option.getD_some]
theorem toL (s : ByteArray) : s.toList = s.data.toList := by
  apply ByteArray.toList_eq
theorem cell_row {w : World} {g i : Nat} {c : Array Value} {t : TypeId} {v : Value} (h : w.heap[g]? = some (.cells c t (0, 0))) (hi : c[i]? = some v) : w.cell? ⟨g, i, none⟩ = some v := by
  simp [World.cell?, h, hi]
theorem nm_known (j : Nat) (h : j < 27) : plE (nm j).data.toList = 0 := by
  have : ∀ k : Fin 27, plE (nm k.val).data.toList = 0 := by decide
  exact this ⟨j, h⟩
theorem nm_size (j : Nat) (h : j < 27) : (nm j).size = 3 := by
  have : ∀ k : Fin 27, (nm k.val).size = 3 := by decide
  exact this ⟨j, h⟩
def cu (c : Int) : ByteArray := nm (Pick.pickOf c 27).toNat
theorem cu_known (c : Int) : plE (cu c).data.toList = 0 := nm_known _ (by have := Pick.pick_hi c 27 (by decide); omega)
theorem cu_size (c : Int) : (cu c).size ≤ maxLen := by rw [cu, nm_size _ (by have := Pick.pick_hi c 27 (by decide); omega)]; decide
set_option maxRecDepth 100000 in
set_option maxHeartbeats 400000 in
theorem currency_any (c : Int) (c1 : -9223372036854775808 ≤ c) (c2 : c ≤ 9223372036854775807) (w : World) : Calls Tryd.prog 10 #[.int .i64 c] w fun e w' => e = .returned (.string (cu c)) ∧ Below w.heap.size w w' := by
  have pp := fun w => Pick.pick_any c 27 w c1 c2 (by decide) (by decide)
  have l1 := Pick.pick_lo c 27 (by decide)
  have l2 := Pick.pick_hi c 27 (by decide)
  obtain ⟨K, hK⟩ : ∃ K : Nat, Pick.pickOf c 27 = (K : Int) := ⟨(Pick.pickOf c 27).toNat, by omega⟩
  have hc : cu c = nm K := by rw [cu, hK, Int.toNat_natCast]
  rw [hK] at pp l1 l2
  rw [hc]
  have hg := nmC_get K (by omega)
  have HB := below_one w (.cells nmC 9)
  have cz : (w.alloc (.cells nmC 9)).cell? ⟨w.heap.size, K, none⟩ = some (.string (nm K)) := cell_row (h1_0 w _) hg
  generalize nm K = b at *
  clear hK hc hg
  have HZ : Hid ((w.alloc (.cells nmC 9)).cell? ⟨w.heap.size, K, none⟩ = some (.string b)) := cz
  clear cz
  go_enter Tryd.func10, Tryd.ntmps10
  have HB2 : Hid (Below w.heap.size w (w.alloc (.cells nmC 9))) := HB
  clear HB
  go_wp2_with (go_at_call 9; refine (pp _).mono ?_; rintro e x ⟨rfl, hx⟩; have hx2 : x = w.alloc (.cells nmC 9) := hx; have cz : x.cell? ⟨w.heap.size, K, none⟩ = some (.string b) := by { rw [hx2]; exact HZ.out }; have hB : Below w.heap.size w x := by { rw [hx2]; exact HB2.out }; clear hx hx2 HZ HB2)
  go_ret
  exact ⟨rfl, hB⟩
end Go.Proofs.YtgojcebdlafbeaaDoor.Nm
