import Derived.Test.YtgchdjjafgkcbaaRows
import Derived.WalkKit
import Derived.WalkLawsBesides
import Derived.WalkSpells
import Derived.ProofKit
import Derived.OpenShut
import Derived.ChangeSame
import Derived.ShutString
import Derived.SizedLaws
/- pick: a number below n, off any number. -/
namespace Go.Proofs.Ytgchdjjafgkcbaa.Pick
open Go.RowKit
def pickOf (c n : Int) : Int := (if c < 0 then -(c + 1) else c) % n
theorem ret_int {k : IntKind} {a b : Int} (h : a = b) : Ending.returned (.int k a) = .returned (.int k b) := by rw [h]
theorem pick_lo (c n : Int) (h : 0 < n) : 0 ≤ pickOf c n := Int.emod_nonneg _ (by omega)
theorem pick_hi (c n : Int) (h : 0 < n) : pickOf c n < n := Int.emod_lt_of_pos _ h
theorem pick_any (c n : Int) (w : World) (h0 : -9223372036854775808 ≤ c) (h1 : c ≤ 9223372036854775807) (h2 : 0 < n) (h3 : n ≤ 9223372036854775807) :
    Calls Try.prog 6 #[.int .i64 c, .int .i64 n] w fun e w' => e = .returned (.int .i64 (pickOf c n)) ∧ w' = w := by
  have hz : (n == 0) = false := by simp; omega
  have ho : (n == -1) = false := by simp; omega
  by_cases g : c < 0
  · go_enter Try.func6, Try.ntmps6
    go_wp2
    go_ret
    exact ⟨ret_int (by rw [pickOf, if_pos g, ← Int.tmod_eq_emod_of_nonneg (by omega), Int.neg_tmod]), rfl⟩
  · go_enter Try.func6, Try.ntmps6
    go_wp2
    go_ret
    exact ⟨ret_int (by rw [pickOf, if_neg (by omega)]), rfl⟩
end Go.Proofs.Ytgchdjjafgkcbaa.Pick
/- A key as an argument, opened and shut. -/
namespace Go.Proofs.Ytgchdjjafgkcbaa.Oy
set_option linter.unusedVariables false
set_option linter.unusedSimpArgs false
open Go.ChangeShapes Go.WideShapes Go.ChangeAt Go.RowKit
theorem cellsI : Try.prog.cellsOf 3 = 1 := by kernel_rfl
theorem cellsS : Try.prog.cellsOf 9 = 1 := by kernel_rfl
theorem cellsK : Try.prog.cellsOf 43 = 5 := by kernel_rfl
theorem five_of {cs : Array Value} (h : cs.size = 5) : ∃ a b c d e, cs = #[a, b, c, d, e] := by
  obtain ⟨l⟩ := cs
  match l, h with
  | [a, b, c, d, e], _ => exact ⟨a, b, c, d, e, rfl⟩
def KeyOk (a b : Int) (p q s : ByteArray) : Prop := (Lit.int .i64 a).wf = true ∧ (Lit.int .i64 b).wf = true ∧ p.size ≤ maxLen ∧ q.size ≤ maxLen ∧ s.size ≤ maxLen
set_option maxRecDepth 100000 in
theorem open_key {H : Type} {enc : TypeId × Value → H} {w : World} {base b0 : Nat} {spare : Nat → Bool} {held : Bool} {r : Reach} {v : Value} {d : DataW H} {ps : List MemPlace}
    (hval : Value.okWide Try.prog w r b0 43 v) (hd : DataW.Trod enc Try.prog w base spare held 43 v d ps) :
    ∃ (a b : Int) (p q s : ByteArray), v = .agg #[.int .i64 a, .int .i64 b, .string p, .string q, .string s] ∧ d = .agg [.lit (.int .i64 a), .lit (.int .i64 b), .lit (.string p.data.toList), .lit (.string q.data.toList), .lit (.string s.data.toList)] ∧ ps = [] ∧ KeyOk a b p q s := by
  obtain ⟨cs, rfl, hsz⟩ := okWide_struct Try.underlying43 hval
  rw [cellsK] at hsz
  obtain ⟨c0, c1, c2, c3, c4, rfl⟩ := five_of hsz
  obtain ⟨fuel, hf⟩ := hd
  obtain ⟨xs, n, _, hx, _, hlen, hg⟩ := DataW.trod_struct Try.underlying43 hf
  match xs, hlen, hx, hg with
  | [y0, y1, y2, y3, y4], _, hx, hg =>
    obtain ⟨a, e0, rfl, wa⟩ := DataW.trod_int Try.underlying3 (hg 0 _ rfl)
    obtain ⟨b, e1, rfl, wb⟩ := DataW.trod_int Try.underlying3 (hg 1 _ rfl)
    obtain ⟨p, e2, rfl, wc⟩ := DataW.trod_string Try.underlying9 (hg 2 _ rfl)
    obtain ⟨q, e3, rfl, wd⟩ := DataW.trod_string Try.underlying9 (hg 3 _ rfl)
    obtain ⟨s, e4, rfl, we⟩ := DataW.trod_string Try.underlying9 (hg 4 _ rfl)
    simp [Value.cells, cellsI, cellsS] at e0 e1 e2 e3 e4
    subst e0 e1 e2 e3 e4
    simp only [List.map_cons, List.map_nil, List.flatMap_cons, List.flatMap_nil, List.append_nil, Prod.mk.injEq] at hx
    exact ⟨a, b, p, q, s, rfl, hx.1, hx.2, wa, wb, wc, wd, we⟩
set_option maxRecDepth 100000 in
theorem shut_key {H : Type} {enc : TypeId × Value → H} {w : World} {base : Nat} {spare : Nat → Bool} {held : Bool} {a b : Int} {p q s : ByteArray} (h : KeyOk a b p q s) :
    DataW.Trod enc Try.prog w base spare held 43 (.agg #[.int .i64 a, .int .i64 b, .string p, .string q, .string s]) (.agg [.lit (.int .i64 a), .lit (.int .i64 b), .lit (.string p.data.toList), .lit (.string q.data.toList), .lit (.string s.data.toList)]) [] := ⟨2, by
  have g : ∀ x : Int, (Lit.int .i64 x).wf = true → DataW.trod enc Try.prog w base spare held 1 3 [.int .i64 x] = some (.lit (.int .i64 x), []) := by
    intro x hx
    simp [DataW.trod, Try.underlying3, hx]
  have f : ∀ x : ByteArray, x.size ≤ maxLen → DataW.trod enc Try.prog w base spare held 1 9 [.string x] = some (.lit (.string x.data.toList), []) := by
    intro x hx
    simp [DataW.trod, Try.underlying9, hx]
  have := trod_struct_mk (enc := enc) (w := w) (base := base) (spare := spare) (held := held) (n := 1) (cs := [.int .i64 a, .int .i64 b, .string p, .string q, .string s]) (xs := [(.lit (.int .i64 a), []), (.lit (.int .i64 b), []), (.lit (.string p.data.toList), []), (.lit (.string q.data.toList), []), (.lit (.string s.data.toList), [])]) Try.underlying43 (by simp [cellsK]) (by simp [cellsI, cellsS, g a h.1, g b h.2.1, f p h.2.2.1, f q h.2.2.2.1, f s h.2.2.2.2])
  simpa [Value.cells] using this⟩
theorem key_sized {H : Type} {a b : Int} {p q s : ByteArray} (hR : ∀ n ∈ (DataW.agg [.lit (.int .i64 a), .lit (.int .i64 b), .lit (.string p.data.toList), .lit (.string q.data.toList), .lit (.string s.data.toList)] : DataW H).weights Try.prog 43, n ≤ 140737488351232) : p.size ≤ 140737488351232 ∧ q.size ≤ 140737488351232 ∧ s.size ≤ 140737488351232 := by
  simp only [DataW.weights, Try.underlying43] at hR
  simp [DataW.weightsEach, DataW.weights] at hR
  exact ⟨hR.1, hR.2.1, hR.2.2⟩
end Go.Proofs.Ytgchdjjafgkcbaa.Oy
