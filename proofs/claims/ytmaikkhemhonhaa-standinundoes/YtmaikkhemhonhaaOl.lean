/- Limits as an argument, opened and shut. -/
import Derived.Test.YtmaikkhemhonhaaRows
import Derived.WalkKit
import Derived.ProofKit
import Derived.OpenShut
import Derived.ChangeSame
namespace Go.Proofs.Ytmaikkhemhonhaa.Ol
set_option linter.unusedVariables false
set_option linter.unusedSimpArgs false
open Go.ChangeShapes Go.WideShapes Go.ChangeAt Go.RowKit
theorem cellsI : Try.prog.cellsOf 3 = 1 := by kernel_rfl
theorem cellsD : Try.prog.cellsOf 36 = 4 := by kernel_rfl
theorem four_of {cs : Array Value} (h : cs.size = 4) : ∃ a b c d, cs = #[a, b, c, d] := by
  obtain ⟨l⟩ := cs
  match l, h with
  | [a, b, c, d], _ => exact ⟨a, b, c, d, rfl⟩
def LimOk (a b c d : Int) : Prop := (Lit.int .i64 a).wf = true ∧ (Lit.int .i64 b).wf = true ∧ (Lit.int .i64 c).wf = true ∧ (Lit.int .i64 d).wf = true
set_option maxRecDepth 100000 in
theorem open_lim {H : Type} {enc : TypeId × Value → H} {w : World} {base b0 : Nat} {spare : Nat → Bool} {held : Bool} {r : Reach} {v : Value} {d : DataW H} {ps : List MemPlace}
    (hval : Value.okWide Try.prog w r b0 36 v) (hd : DataW.Trod enc Try.prog w base spare held 36 v d ps) :
    ∃ a b c d' : Int, v = .agg #[.int .i64 a, .int .i64 b, .int .i64 c, .int .i64 d'] ∧ d = .agg [.lit (.int .i64 a), .lit (.int .i64 b), .lit (.int .i64 c), .lit (.int .i64 d')] ∧ ps = [] ∧ LimOk a b c d' := by
  obtain ⟨cs, rfl, hsz⟩ := okWide_struct Try.underlying36 hval
  rw [cellsD] at hsz
  obtain ⟨c0, c1, c2, c3, rfl⟩ := four_of hsz
  obtain ⟨fuel, hf⟩ := hd
  obtain ⟨xs, n, _, hx, _, hlen, hg⟩ := DataW.trod_struct Try.underlying36 hf
  match xs, hlen, hx, hg with
  | [y0, y1, y2, y3], _, hx, hg =>
    obtain ⟨a, e0, rfl, wa⟩ := DataW.trod_int Try.underlying3 (hg 0 _ rfl)
    obtain ⟨b, e1, rfl, wb⟩ := DataW.trod_int Try.underlying3 (hg 1 _ rfl)
    obtain ⟨c, e2, rfl, wc⟩ := DataW.trod_int Try.underlying3 (hg 2 _ rfl)
    obtain ⟨d', e3, rfl, wd⟩ := DataW.trod_int Try.underlying3 (hg 3 _ rfl)
    simp [Value.cells, cellsI] at e0 e1 e2 e3
    subst e0 e1 e2 e3
    simp only [List.map_cons, List.map_nil, List.flatMap_cons, List.flatMap_nil, List.append_nil, Prod.mk.injEq] at hx
    exact ⟨a, b, c, d', rfl, hx.1, hx.2, wa, wb, wc, wd⟩
set_option maxRecDepth 100000 in
theorem shut_lim {H : Type} {enc : TypeId × Value → H} {w : World} {base : Nat} {spare : Nat → Bool} {held : Bool} {a b c d : Int} (h : LimOk a b c d) :
    DataW.Trod enc Try.prog w base spare held 36 (.agg #[.int .i64 a, .int .i64 b, .int .i64 c, .int .i64 d]) (.agg [.lit (.int .i64 a), .lit (.int .i64 b), .lit (.int .i64 c), .lit (.int .i64 d)]) [] := ⟨2, by
  have g : ∀ x : Int, (Lit.int .i64 x).wf = true → DataW.trod enc Try.prog w base spare held 1 3 [.int .i64 x] = some (.lit (.int .i64 x), []) := by
    intro x hx
    simp [DataW.trod, Try.underlying3, hx]
  have := trod_struct_mk (enc := enc) (w := w) (base := base) (spare := spare) (held := held) (n := 1) (cs := [.int .i64 a, .int .i64 b, .int .i64 c, .int .i64 d]) (xs := [(.lit (.int .i64 a), []), (.lit (.int .i64 b), []), (.lit (.int .i64 c), []), (.lit (.int .i64 d), [])]) Try.underlying36 (by simp [cellsD]) (by simp [cellsI, g a h.1, g b h.2.1, g c h.2.2.1, g d h.2.2.2])
  simpa [Value.cells] using this⟩
theorem wf_i64 {a : Int} (h : (Lit.int .i64 a).wf = true) : -9223372036854775808 ≤ a ∧ a ≤ 9223372036854775807 := by
  simp [Lit.wf, IntKind.min, IntKind.max, IntKind.signed, IntKind.bits] at h; omega
end Go.Proofs.Ytmaikkhemhonhaa.Ol
