/- the laid variables, out of the row's cell 'laid'. -/
import Derived.Test.YtabmpngliphdpaaDoorKg
import Derived.Test.YtabmpngliphdpaaDoorCards
import Derived.Lib.LaidTab
import Derived.LaidSub
import Derived.Stop.LaidErr
namespace Go.Proofs.YtabmpngliphdpaaDoor.Ky
set_option linter.unusedVariables false
open Go.RowKit Ja Jb Jg Kg
theorem rt : (Tryd.prog.cutTypes.find? (·.1 == "internal/reflectlite.rtype")).map (·.2) = some 144 := by kernel_rfl
theorem oneRow : ((List.range Tryd.prog.types.size).filter fun t => Tryd.prog.rowNamed t [101, 114, 114, 111, 114]) = [47] := by kernel_rfl
theorem gE : Tryd.prog.globalNamed "errors.errorType" = some 2 := by kernel_rfl
theorem gN : Tryd.prog.globalNamed "turnstile/journal.errEnd" = some 1 := by kernel_rfl
theorem gNT : (Tryd.prog.globals[1]?).map (·.type) = some 47 := by kernel_rfl
theorem gHT : (Tryd.prog.globals[0]?).map (·.type) = some 78 := by kernel_rfl
theorem cellsE : Tryd.prog.cellsOf 191 = 1 := by kernel_rfl
theorem cellsS : Tryd.prog.cellsOf 9 = 1 := by kernel_rfl
theorem cellsU : Tryd.prog.cellsOf 23 = 1 := by kernel_rfl
theorem cellsH : Tryd.prog.cellsOf 78 = 16 := by kernel_rfl
theorem star : "*" ++ "errors.errorString" = "*errors.errorString" := by decide
theorem rowE (u : TypeId) (h : Tryd.prog.typeName? 3 u = some "*errors.errorString") : u = 173 :=
  typeName_ptr_named (nm := "errors.errorString") (by rw [star]; kernel_rfl) (by kernel_rfl) (by decide) u (by rw [star]; exact h)
theorem lv_of {W : World} (h : laidMetH Tryd.prog [("errors.errorType", Rows.laid_errors_errorType), ("turnstile/journal.errEnd", Rows.laid_turnstile_journal_errEnd), ("turnstile/journal.halves", Rows.laid_turnstile_journal_halves)] W) : Lv W := by
  have h' : laidMet Tryd.prog [("turnstile/journal.errEnd", Rows.laid_turnstile_journal_errEnd), ("turnstile/journal.halves", Rows.laid_turnstile_journal_halves)] W ∧ handlesMet Tryd.prog [("errors.errorType", Rows.laid_errors_errorType)] W := h
  refine ⟨Lib.tabIs_of_head gH gHT Tryd.underlying78 Tryd.underlying23 cellsU cellsH h'.1.tail, ?_, ?_⟩
  · obtain ⟨name, u, ty, e1, e2, e3, e4, e5⟩ := h'.2 _ (List.mem_singleton.2 rfl)
    have en : name = [101, 114, 114, 111, 114] := (Option.some.inj e1).symm
    subst en
    obtain rfl := Option.some.inj (rt.symm.trans e2)
    have hm : ty ∈ (List.range Tryd.prog.types.size).filter fun t => Tryd.prog.rowNamed t [101, 114, 114, 111, 114] := List.mem_filter.2 ⟨List.mem_range.2 e3, e4⟩
    rw [oneRow] at hm
    obtain rfl := List.mem_singleton.1 hm
    have hh : typeHandle Tryd.prog 47 = .pointer (some ⟨3, 47, none⟩) := by kernel_rfl
    rw [hh] at e5
    show W.cell? _ = _
    simpa using World.var?_cell gE e5 0
  · obtain ⟨a, s, hv, _⟩ := laid_sentinel h'.1 gN gNT Tryd.underlying47 rowE Tryd.underlying173 Tryd.underlying191 rfl rfl Tryd.underlying9 cellsE cellsS
    exact ⟨a, by rw [World.var?_cell gN hv 0]; rfl⟩
end Go.Proofs.YtabmpngliphdpaaDoor.Ky
