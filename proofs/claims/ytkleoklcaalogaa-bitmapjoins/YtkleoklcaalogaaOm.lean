/- A map, opened and shut. -/
import Derived.Test.YtkleoklcaalogaaRows
import Derived.WalkKit
import Derived.ProofKit
import Derived.OpenShut
import Derived.ChangeSame
namespace Go.Proofs.Ytkleoklcaalogaa.Om
set_option linter.unusedVariables false
open Go.ChangeShapes Go.WideShapes Go.ChangeAt Go.RowKit
theorem cellsU : Try.prog.cellsOf 22 = 1 := by kernel_rfl
theorem cellsM : Try.prog.cellsOf 24 = 2 := by kernel_rfl
theorem two_of {cs : Array Value} (h : cs.size = 2) : ∃ a b, cs = #[a, b] := by
  obtain ⟨l⟩ := cs
  match l, h with
  | [a, b], _ => exact ⟨a, b, rfl⟩
theorem nat_of {n : Int} (h : (Lit.int .u64 n).wf = true) : ∃ m : Nat, n = (m : Int) ∧ m < 18446744073709551616 := by
  have := bounds_u64 h
  exact ⟨n.toNat, by omega, by omega⟩
theorem wf_of {m : Nat} (h : m < 18446744073709551616) : (Lit.int .u64 (m : Int)).wf = true := by
  simp [Lit.wf, IntKind.min, IntKind.max, IntKind.signed, IntKind.bits]
  omega
theorem open_map {H : Type} {enc : TypeId × Value → H} {w : World} {base b0 : Nat} {spare : Nat → Bool} {held : Bool} {r : Reach} {v : Value} {d : DataW H} {ps : List MemPlace}
    (hval : Value.okWide Try.prog w r b0 24 v) (hd : DataW.Trod enc Try.prog w base spare held 24 v d ps) :
    ∃ F S : Nat, v = .agg #[.int .u64 (F : Int), .int .u64 (S : Int)] ∧ d = .agg [.lit (.int .u64 (F : Int)), .lit (.int .u64 (S : Int))] ∧ ps = [] ∧ F < 18446744073709551616 ∧ S < 18446744073709551616 := by
  obtain ⟨cs, rfl, hsz⟩ := okWide_struct Try.underlying24 hval
  rw [cellsM] at hsz
  obtain ⟨c0, c1, rfl⟩ := two_of hsz
  obtain ⟨fuel, hf⟩ := hd
  obtain ⟨y0, y1, m, hx, _, hy0, hy1⟩ := trod_struct2 Try.underlying24 hf
  obtain ⟨a, e0, rfl, wa⟩ := DataW.trod_int Try.underlying22 hy0
  obtain ⟨b, e1, rfl, wb⟩ := DataW.trod_int Try.underlying22 hy1
  simp [Value.cells, cellsU] at e0 e1
  subst e0 e1
  obtain ⟨F, rfl, hF⟩ := nat_of wa
  obtain ⟨S, rfl, hS⟩ := nat_of wb
  simp only [List.append_nil, Prod.mk.injEq] at hx
  exact ⟨F, S, rfl, hx.1, hx.2, hF, hS⟩
theorem shut_map {H : Type} {enc : TypeId × Value → H} {w : World} {base : Nat} {spare : Nat → Bool} {held : Bool} {F S : Nat} (hF : F < 18446744073709551616) (hS : S < 18446744073709551616) :
    DataW.Trod enc Try.prog w base spare held 24 (.agg #[.int .u64 (F : Int), .int .u64 (S : Int)]) (.agg [.lit (.int .u64 (F : Int)), .lit (.int .u64 (S : Int))]) [] := ⟨2, by
  have f0 : DataW.trod enc Try.prog w base spare held 1 22 [.int .u64 (F : Int)] = some (.lit (.int .u64 (F : Int)), []) := by simp [DataW.trod, Try.underlying22, wf_of hF]
  have f1 : DataW.trod enc Try.prog w base spare held 1 22 [.int .u64 (S : Int)] = some (.lit (.int .u64 (S : Int)), []) := by simp [DataW.trod, Try.underlying22, wf_of hS]
  have := trod_struct2_mk (enc := enc) (w := w) (base := base) (spare := spare) (held := held) (n := 1) (cs := [.int .u64 (F : Int), .int .u64 (S : Int)]) Try.underlying24 (by simp [cellsM]) (by simpa [cellsU] using f0) (by simpa [cellsU] using f1)
  simpa [Value.cells] using this⟩
end Go.Proofs.Ytkleoklcaalogaa.Om
