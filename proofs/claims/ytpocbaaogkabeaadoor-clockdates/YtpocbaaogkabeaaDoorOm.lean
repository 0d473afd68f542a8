/- A date as an argument, opened and shut. -/
import Derived.Test.YtpocbaaogkabeaaDoorRows
import Derived.WalkKit
import Derived.ProofKit
import Derived.OpenShut
import Derived.ChangeSame
namespace Go.Proofs.YtpocbaaogkabeaaDoor.Om
set_option linter.unusedVariables false
set_option linter.unusedSimpArgs false
open Go.ChangeShapes Go.WideShapes Go.ChangeAt Go.RowKit
theorem cellsI : Tryd.prog.cellsOf 3 = 1 := by kernel_rfl
theorem cellsD : Tryd.prog.cellsOf 23 = 6 := by kernel_rfl
theorem six_of {cs : Array Value} (h : cs.size = 6) : ∃ a b c d e f, cs = #[a, b, c, d, e, f] := by
  obtain ⟨l⟩ := cs
  match l, h with
  | [a, b, c, d, e, f], _ => exact ⟨a, b, c, d, e, f, rfl⟩
theorem open_dat {H : Type} {enc : TypeId × Value → H} {w : World} {base b0 : Nat} {spare : Nat → Bool} {held : Bool} {r : Reach} {v : Value} {d : DataW H} {ps : List MemPlace}
    (hval : Value.okWide Tryd.prog w r b0 23 v) (hd : DataW.Trod enc Tryd.prog w base spare held 23 v d ps) :
    ∃ a b c d' e f : Int, v = .agg #[.int .i64 a, .int .i64 b, .int .i64 c, .int .i64 d', .int .i64 e, .int .i64 f] ∧ d = .agg [.lit (.int .i64 a), .lit (.int .i64 b), .lit (.int .i64 c), .lit (.int .i64 d'), .lit (.int .i64 e), .lit (.int .i64 f)] ∧ ps = [] ∧ ((Lit.int .i64 a).wf = true ∧ (Lit.int .i64 b).wf = true ∧ (Lit.int .i64 c).wf = true ∧ (Lit.int .i64 d').wf = true ∧ (Lit.int .i64 e).wf = true ∧ (Lit.int .i64 f).wf = true) := by
  obtain ⟨cs, rfl, hsz⟩ := okWide_struct Tryd.underlying23 hval
  rw [cellsD] at hsz
  obtain ⟨c0, c1, c2, c3, c4, c5, rfl⟩ := six_of hsz
  obtain ⟨fuel, hf⟩ := hd
  obtain ⟨xs, n, _, hx, _, hlen, hg⟩ := DataW.trod_struct Tryd.underlying23 hf
  match xs, hlen, hx, hg with
  | [y0, y1, y2, y3, y4, y5], _, hx, hg =>
    obtain ⟨a, e0, rfl, wa⟩ := DataW.trod_int Tryd.underlying3 (hg 0 _ rfl)
    obtain ⟨b, e1, rfl, wb⟩ := DataW.trod_int Tryd.underlying3 (hg 1 _ rfl)
    obtain ⟨c, e2, rfl, wc⟩ := DataW.trod_int Tryd.underlying3 (hg 2 _ rfl)
    obtain ⟨d', e3, rfl, wd⟩ := DataW.trod_int Tryd.underlying3 (hg 3 _ rfl)
    obtain ⟨e, e4, rfl, we⟩ := DataW.trod_int Tryd.underlying3 (hg 4 _ rfl)
    obtain ⟨f, e5, rfl, wf⟩ := DataW.trod_int Tryd.underlying3 (hg 5 _ rfl)
    simp [Value.cells, cellsI] at e0 e1 e2 e3 e4 e5
    subst e0 e1 e2 e3 e4 e5
    simp only [List.map_cons, List.map_nil, List.flatMap_cons, List.flatMap_nil, List.append_nil, Prod.mk.injEq] at hx
    exact ⟨a, b, c, d', e, f, rfl, hx.1, hx.2, wa, wb, wc, wd, we, wf⟩
theorem shut_dat {H : Type} {enc : TypeId × Value → H} {w : World} {base : Nat} {spare : Nat → Bool} {held : Bool} {a b c d e f : Int} (h : (Lit.int .i64 a).wf = true ∧ (Lit.int .i64 b).wf = true ∧ (Lit.int .i64 c).wf = true ∧ (Lit.int .i64 d).wf = true ∧ (Lit.int .i64 e).wf = true ∧ (Lit.int .i64 f).wf = true) :
    DataW.Trod enc Tryd.prog w base spare held 23 (.agg #[.int .i64 a, .int .i64 b, .int .i64 c, .int .i64 d, .int .i64 e, .int .i64 f]) (.agg [.lit (.int .i64 a), .lit (.int .i64 b), .lit (.int .i64 c), .lit (.int .i64 d), .lit (.int .i64 e), .lit (.int .i64 f)]) [] := ⟨2, by
  have g : ∀ x : Int, (Lit.int .i64 x).wf = true → DataW.trod enc Tryd.prog w base spare held 1 3 [.int .i64 x] = some (.lit (.int .i64 x), []) := by
    intro x hx
    simp [DataW.trod, Tryd.underlying3, hx]
  have := trod_struct_mk (enc := enc) (w := w) (base := base) (spare := spare) (held := held) (n := 1) (cs := [.int .i64 a, .int .i64 b, .int .i64 c, .int .i64 d, .int .i64 e, .int .i64 f]) (xs := [(.lit (.int .i64 a), []), (.lit (.int .i64 b), []), (.lit (.int .i64 c), []), (.lit (.int .i64 d), []), (.lit (.int .i64 e), []), (.lit (.int .i64 f), [])]) Tryd.underlying23 (by simp [cellsD]) (by simp [cellsI, g a h.1, g b h.2.1, g c h.2.2.1, g d h.2.2.2.1, g e h.2.2.2.2.1, g f h.2.2.2.2.2])
  simpa [Value.cells] using this⟩
end Go.Proofs.YtpocbaaogkabeaaDoor.Om
