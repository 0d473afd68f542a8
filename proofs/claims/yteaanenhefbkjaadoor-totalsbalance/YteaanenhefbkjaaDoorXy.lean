/- The tables, out of what is laid. -/
import Derived.Test.YteaanenhefbkjaaDoorXa
import Derived.Lib.LaidTab
import Derived.Deep.DeepHandedRow
import Derived.Stop.LaidErr
import Derived.ChangeArms
import Derived.OpenShut
namespace Go.Proofs.YteaanenhefbkjaaDoor.Xy
set_option linter.unusedVariables false
open Go.RowKit Go.ChangeShapes Go.WideShapes Go.ChangeAt
theorem gP : Tryd.prog.globalNamed "internal/strconv.uint64pow10" = some 1 := by kernel_rfl
theorem gPT : (Tryd.prog.globals[1]?).map (·.type) = some 118 := by kernel_rfl
theorem cellsP : Tryd.prog.cellsOf 118 = 20 := by kernel_rfl
theorem cellsU : Tryd.prog.cellsOf 106 = 1 := by kernel_rfl
theorem gO : Tryd.prog.globalNamed "turnstile/totals.toldIn" = some 0 := by kernel_rfl
theorem gOT : (Tryd.prog.globals[0]?).map (·.type) = some 71 := by kernel_rfl
theorem cells70 : Tryd.prog.cellsOf 70 = 2 := by kernel_rfl
theorem cells71 : Tryd.prog.cellsOf 71 = 16 := by kernel_rfl
def toldD {H : Type} : DataW H := .agg [.agg [.lit (.int .i64 74), .lit (.int .i64 4)], .agg [.lit (.int .i64 75), .lit (.int .i64 5)], .agg [.lit (.int .i64 76), .lit (.int .i64 6)], .agg [.lit (.int .i64 77), .lit (.int .i64 7)], .agg [.lit (.int .i64 86), .lit (.int .i64 8)], .agg [.lit (.int .i64 87), .lit (.int .i64 9)], .agg [.lit (.int .i64 88), .lit (.int .i64 10)], .agg [.lit (.int .i64 89), .lit (.int .i64 11)]]
set_option maxRecDepth 100000 in
theorem pair_cells {H : Type} {enc : TypeId × Value → H} {W : World} {b0 : Nat} {sp : Nat → Bool} {held : Bool} {m : Nat} {cs : List Value} {a b : Int} {p : List MemPlace}
    (h : DataW.trod enc Tryd.prog W b0 sp held m 70 cs = some (.agg [.lit (.int .i64 a), .lit (.int .i64 b)], p)) : cs = [.int .i64 a, .int .i64 b] := by
  obtain ⟨ys, n, hn, hx, hl, hyl, hf⟩ := DataW.trod_struct Tryd.underlying70 h
  rw [cells70] at hl
  match ys, hyl, cs, hl with
  | [y0, y1], _, [v0, v1], _ =>
    have g0 : DataW.trod enc Tryd.prog W b0 sp held n 3 [v0] = some y0 := hf 0 _ rfl
    have g1 : DataW.trod enc Tryd.prog W b0 sp held n 3 [v1] = some y1 := hf 1 _ rfl
    obtain ⟨n0, e0, rfl, _⟩ := DataW.trod_int Tryd.underlying3 g0
    obtain ⟨n1, e1, rfl, _⟩ := DataW.trod_int Tryd.underlying3 g1
    cases e0; cases e1
    simp only [Prod.mk.injEq, List.map_cons, List.map_nil, DataW.agg.injEq, List.cons.injEq, DataW.lit.injEq, Lit.int.injEq, true_and, and_true] at hx
    obtain ⟨⟨rfl, rfl⟩, -⟩ := hx
    rfl
set_option maxRecDepth 100000 in
theorem told_cells {H : Type} {enc : TypeId × Value → H} {W : World} {b0 : Nat} {sp : Nat → Bool} {held : Bool} {fuel : Nat} {cs : List Value} {p : List MemPlace}
    (h : DataW.trod enc Tryd.prog W b0 sp held fuel 71 cs = some (toldD, p)) : cs = Xa.toldC := by
  obtain ⟨xs, m, hm, hx, hl, hxl, hf⟩ := DataW.trod_array Tryd.underlying71 h
  rw [cells71] at hl
  simp only [cells70] at hf
  match xs, hxl, cs, hl with
  | [x0, x1, x2, x3, x4, x5, x6, x7], _, [c0, c1, c2, c3, c4, c5, c6, c7, c8, c9, c10, c11, c12, c13, c14, c15], _ =>
    obtain ⟨hx1, -⟩ := Prod.mk.inj hx
    unfold toldD at hx1
    simp only [List.map_cons, List.map_nil, DataW.agg.injEq, List.cons.injEq, and_true] at hx1
    obtain ⟨e0, e1, e2, e3, e4, e5, e6, e7⟩ := hx1
    have h0 : DataW.trod enc Tryd.prog W b0 sp held m 70 [c0, c1] = some x0 := hf 0 (by omega)
    have k0 := pair_cells (p := x0.2) (h0.trans (by rw [e0]))
    have h1 : DataW.trod enc Tryd.prog W b0 sp held m 70 [c2, c3] = some x1 := hf 1 (by omega)
    have k1 := pair_cells (p := x1.2) (h1.trans (by rw [e1]))
    have h2 : DataW.trod enc Tryd.prog W b0 sp held m 70 [c4, c5] = some x2 := hf 2 (by omega)
    have k2 := pair_cells (p := x2.2) (h2.trans (by rw [e2]))
    have h3 : DataW.trod enc Tryd.prog W b0 sp held m 70 [c6, c7] = some x3 := hf 3 (by omega)
    have k3 := pair_cells (p := x3.2) (h3.trans (by rw [e3]))
    have h4 : DataW.trod enc Tryd.prog W b0 sp held m 70 [c8, c9] = some x4 := hf 4 (by omega)
    have k4 := pair_cells (p := x4.2) (h4.trans (by rw [e4]))
    have h5 : DataW.trod enc Tryd.prog W b0 sp held m 70 [c10, c11] = some x5 := hf 5 (by omega)
    have k5 := pair_cells (p := x5.2) (h5.trans (by rw [e5]))
    have h6 : DataW.trod enc Tryd.prog W b0 sp held m 70 [c12, c13] = some x6 := hf 6 (by omega)
    have k6 := pair_cells (p := x6.2) (h6.trans (by rw [e6]))
    have h7 : DataW.trod enc Tryd.prog W b0 sp held m 70 [c14, c15] = some x7 := hf 7 (by omega)
    have k7 := pair_cells (p := x7.2) (h7.trans (by rw [e7]))
    simp only [List.cons.injEq, and_true] at k0 k1 k2 k3 k4 k5 k6 k7
    obtain ⟨rfl, rfl⟩ := k0
    obtain ⟨rfl, rfl⟩ := k1
    obtain ⟨rfl, rfl⟩ := k2
    obtain ⟨rfl, rfl⟩ := k3
    obtain ⟨rfl, rfl⟩ := k4
    obtain ⟨rfl, rfl⟩ := k5
    obtain ⟨rfl, rfl⟩ := k6
    obtain ⟨rfl, rfl⟩ := k7
    rfl
theorem tl {P : Program} {W : World} {a : String × DataW Unit} {r : List (String × DataW Unit)} (h : laidMet P (a :: r) W) : laidMet P r W := h.tail
theorem told_of {W : World} {r : List (String × DataW Unit)} (h : laidMet Tryd.prog (("turnstile/totals.toldIn", toldD) :: r) W) : W.rangeAt 0 0 Xa.toldC := by
  obtain ⟨ps, ⟨g', t', cs, fuel, p, q, hg', ht', hvar, hd, _, _⟩, _⟩ := h
  obtain rfl := Option.some.inj (gO.symm.trans hg')
  obtain rfl := Option.some.inj (gOT.symm.trans ht')
  have hc := told_cells hd
  intro j v hv
  have h9 := World.var?_cell gO hvar j
  rw [Nat.zero_add, h9, ← Array.getElem?_toList, hc]
  exact hv
theorem tabs {W : World} {a b : String × DataW Unit} {r : List (String × DataW Unit)} (h : laidMet Tryd.prog (a :: b :: ("internal/strconv.uint64pow10", Lib.tabData .u64 Lib.pow10Tab) :: ("turnstile/totals.toldIn", toldD) :: r) W) : Xa.Tb W :=
  ⟨Lib.tabIs_of_head (rest := ("turnstile/totals.toldIn", toldD) :: r) gP gPT Tryd.underlying118 Tryd.underlying106 cellsU cellsP (tl (tl h)), told_of (tl (tl (tl h)))⟩
end Go.Proofs.YteaanenhefbkjaaDoor.Xy
