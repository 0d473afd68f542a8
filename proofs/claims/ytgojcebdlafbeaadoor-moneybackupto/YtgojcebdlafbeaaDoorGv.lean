/- What the library's variables hold, out of the row's cell 'laid'. -/
import Derived.Test.YtgojcebdlafbeaaDoorSh
import Derived.Test.YtgojcebdlafbeaaDoorCards
import Derived.Lib.LaidTab
import Derived.Stop.LaidErr
namespace Go.Proofs.YtgojcebdlafbeaaDoor.Gv
set_option linter.unusedVariables false
open Go.RowKit Sh
theorem gP : Tryd.prog.globalNamed "internal/strconv.uint64pow10" = some 5 := by kernel_rfl
theorem gPT : (Tryd.prog.globals[5]?).map (·.type) = some 96 := by kernel_rfl
theorem cellsP : Tryd.prog.cellsOf 96 = 20 := by kernel_rfl
theorem cellsU : Tryd.prog.cellsOf 73 = 1 := by kernel_rfl
theorem cellsE : Tryd.prog.cellsOf 103 = 1 := by kernel_rfl
theorem cellsS : Tryd.prog.cellsOf 9 = 1 := by kernel_rfl
theorem gS : Tryd.prog.globalNamed "strconv.ErrSyntax" = some 0 := by kernel_rfl
theorem gR : Tryd.prog.globalNamed "strconv.ErrRange" = some 1 := by kernel_rfl
theorem gST : (Tryd.prog.globals[0]?).map (·.type) = some 36 := by kernel_rfl
theorem gRT : (Tryd.prog.globals[1]?).map (·.type) = some 36 := by kernel_rfl
theorem star : "*" ++ "errors.errorString" = "*errors.errorString" := by decide
theorem rowE (u : TypeId) (h : Tryd.prog.typeName? 3 u = some "*errors.errorString") : u = 101 :=
  typeName_ptr_named (nm := "errors.errorString") (by rw [star]; kernel_rfl) (by kernel_rfl) (by decide) u (by rw [star]; exact h)
theorem tail2 {P : Program} {W : World} {a b : String × DataW Unit} {r : List (String × DataW Unit)} (h : laidMet P (a :: b :: r) W) : laidMet P r W := h.tail.tail
theorem sent {n : String} {g : Nat} {t : List UInt8} {r : List (String × DataW Unit)} {W : World} (hg : Tryd.prog.globalNamed n = some g) (ht : (Tryd.prog.globals[g]?).map (·.type) = some 36)
    (h : laidMet Tryd.prog ((n, .iface "*errors.errorString" (.ptr (.agg [.lit (.string t)]))) :: r) W) : ∃ ev, W.cell? ⟨g, 0, none⟩ = some ev ∧ (ev = .nilIface ∨ ∃ te pe, ev = .iface te pe) := by
  obtain ⟨a, s, hv, _⟩ := laid_sentinel h hg ht Tryd.underlying36 rowE Tryd.underlying101 Tryd.underlying103 rfl rfl Tryd.underlying9 cellsE cellsS
  exact ⟨_, by rw [World.var?_cell hg hv 0]; rfl, Or.inr ⟨_, _, rfl⟩⟩
theorem gl_of {W : World} {a b d : DataW Unit} {r : List (String × DataW Unit)} {t1 t2 : List UInt8} (hSh : W.ShapedOpen Tryd.prog)
    (h : laidMet Tryd.prog (("math/bits.deBruijn32tab", a) :: ("math/bits.deBruijn64tab", b) :: ("internal/strconv.uint64pow10", Rows.laid_internal_strconv_uint64pow10) :: ("unicode/utf8.acceptRanges", d) :: ("strconv.ErrRange", .iface "*errors.errorString" (.ptr (.agg [.lit (.string t1)]))) :: ("strconv.ErrSyntax", .iface "*errors.errorString" (.ptr (.agg [.lit (.string t2)]))) :: r) W) : Gl W := by
  refine ⟨Lib.tabIs_of_head gP gPT Tryd.underlying96 Tryd.underlying73 cellsU cellsP (tail2 h), ?_, ?_, Tryd.laysM154.s1_3 W hSh⟩
  · exact sent gS gST (tail2 (tail2 h)).tail
  · exact sent gR gRT (tail2 (tail2 h))
end Go.Proofs.YtgojcebdlafbeaaDoor.Gv
