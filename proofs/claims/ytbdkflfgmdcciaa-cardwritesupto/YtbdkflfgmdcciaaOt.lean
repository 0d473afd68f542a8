/- A track as an argument, opened and shut. -/
import Derived.Test.YtbdkflfgmdcciaaRows
import Derived.WalkKit
import Derived.ProofKit
import Derived.OpenShut
import Derived.ShutString
import Derived.ChangeSame
import Derived.Lib.SmallJoins
namespace Go.Proofs.Ytbdkflfgmdcciaa.Ot
set_option linter.unusedVariables false
open Go.ChangeShapes Go.WideShapes Go.ChangeAt Go.RowKit Go.Joins
theorem cellsS : Try.prog.cellsOf 9 = 1 := by kernel_rfl
theorem cellsT : Try.prog.cellsOf 33 = 4 := by kernel_rfl
theorem four_of {cs : Array Value} (h : cs.size = 4) : ∃ a b c d, cs = #[a, b, c, d] := by
  obtain ⟨l⟩ := cs
  match l, h with
  | [a, b, c, d], _ => exact ⟨a, b, c, d, rfl⟩
theorem open_trk {H : Type} {enc : TypeId × Value → H} {w : World} {base b0 : Nat} {spare : Nat → Bool} {held : Bool} {r : Reach} {v : Value} {d : DataW H} {ps : List MemPlace}
    (hval : Value.okWide Try.prog w r b0 33 v) (hd : DataW.Trod enc Try.prog w base spare held 33 v d ps) :
    ∃ p q s t : ByteArray, v = .agg #[.string p, .string q, .string s, .string t] ∧ d = .agg [.lit (.string p.data.toList), .lit (.string q.data.toList), .lit (.string s.data.toList), .lit (.string t.data.toList)] ∧ ps = [] ∧ (p.size ≤ maxLen ∧ q.size ≤ maxLen ∧ s.size ≤ maxLen ∧ t.size ≤ maxLen) := by
  obtain ⟨cs, rfl, hsz⟩ := okWide_struct Try.underlying33 hval
  rw [cellsT] at hsz
  obtain ⟨c0, c1, c2, c3, rfl⟩ := four_of hsz
  obtain ⟨fuel, hf⟩ := hd
  obtain ⟨y0, y1, y2, y3, m, hx, _, hy0, hy1, hy2, hy3⟩ := trod_struct4 Try.underlying33 hf
  obtain ⟨p, e0, rfl, wa⟩ := DataW.trod_string Try.underlying9 hy0
  obtain ⟨q, e1, rfl, wb⟩ := DataW.trod_string Try.underlying9 hy1
  obtain ⟨s, e2, rfl, wc⟩ := DataW.trod_string Try.underlying9 hy2
  obtain ⟨t, e3, rfl, wd⟩ := DataW.trod_string Try.underlying9 hy3
  simp [Value.cells, cellsS] at e0 e1 e2 e3
  subst e0 e1 e2 e3
  simp only [List.append_nil, Prod.mk.injEq] at hx
  exact ⟨p, q, s, t, rfl, hx.1, hx.2, wa, wb, wc, wd⟩
theorem shut_trk {H : Type} {enc : TypeId × Value → H} {w : World} {base : Nat} {spare : Nat → Bool} {held : Bool} {p q s t : ByteArray} (h : p.size ≤ maxLen ∧ q.size ≤ maxLen ∧ s.size ≤ maxLen ∧ t.size ≤ maxLen) :
    DataW.Trod enc Try.prog w base spare held 33 (.agg #[.string p, .string q, .string s, .string t]) (.agg [.lit (.string p.data.toList), .lit (.string q.data.toList), .lit (.string s.data.toList), .lit (.string t.data.toList)]) [] := ⟨2, by
  have f : ∀ x : ByteArray, x.size ≤ maxLen → DataW.trod enc Try.prog w base spare held 1 9 [.string x] = some (.lit (.string x.data.toList), []) := by
    intro x hx
    simp [DataW.trod, Try.underlying9, hx]
  have := trod_struct4_mk (enc := enc) (w := w) (base := base) (spare := spare) (held := held) (n := 1) (cs := [.string p, .string q, .string s, .string t]) Try.underlying33 (by simp [cellsT]) (by simpa [cellsS] using f p h.1) (by simpa [cellsS] using f q h.2.1) (by simpa [cellsS] using f s h.2.2.1) (by simpa [cellsS] using f t h.2.2.2)
  simpa [Value.cells] using this⟩
end Go.Proofs.Ytbdkflfgmdcciaa.Ot
