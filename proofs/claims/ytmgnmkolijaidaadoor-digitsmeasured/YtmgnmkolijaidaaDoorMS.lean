/- DigitsMeasured: the law out of the contracts; the frame of the row. -/
import Derived.Test.YtmgnmkolijaidaaDoorCards
import Derived.Test.YtmgnmkolijaidaaDoorTie
import Derived.WalkKit
import Derived.ProofKit
import Derived.OpenShut
import Derived.ShutString
import Derived.ChangeOld
import Derived.Below
import Derived.JoinedCond
import Derived.SizedLaws
import Derived.Deep.DeepHandedRow
import Derived.Lib.LaidTab
import Derived.Stop.LaidErr
import Derived.Test.YtmgnmkolijaidaaDoorMw
namespace Go.Proofs.YtmgnmkolijaidaaDoor.digitsMeasured
open Go.ChangeShapes Go.WideShapes Go.ChangeAt Go.RowKit
open Go.ChangeMaps (open_string shut_string)
set_option linter.unusedVariables false

theorem own : ownKnob Tryd.prog.godebug = none := by kernel_rfl

theorem gTab : Tryd.prog.globalNamed "turnstile/digits.ebcdic" = some 0 := by kernel_rfl
theorem gTabType : (Tryd.prog.globals[0]?).map (·.type) = some 61 := by kernel_rfl
theorem cellsT : Tryd.prog.cellsOf 61 = 95 := by kernel_rfl
theorem cellsE : Tryd.prog.cellsOf 5 = 1 := by kernel_rfl
theorem gP : Tryd.prog.globalNamed "internal/strconv.uint64pow10" = some 1 := by kernel_rfl
theorem gPT : (Tryd.prog.globals[1]?).map (·.type) = some 84 := by kernel_rfl
theorem cellsP : Tryd.prog.cellsOf 84 = 20 := by kernel_rfl
theorem cellsU : Tryd.prog.cellsOf 70 = 1 := by kernel_rfl
theorem tail2 {P : Program} {W : World} {a b : String × DataW Unit} {r : List (String × DataW Unit)} (h : laidMet P (a :: b :: r) W) : laidMet P r W := h.tail.tail
theorem tail3 {P : Program} {W : World} {a b c : String × DataW Unit} {r : List (String × DataW Unit)} (h : laidMet P (a :: b :: c :: r) W) : laidMet P r W := h.tail.tail.tail
theorem tabP {W : World} (h : laidMetH Tryd.prog Rows.digitsMeasuredRow.laid W) : Pre.Pow W :=
  Lib.tabIs_of_head (rest := [_]) gP gPT Tryd.underlying84 Tryd.underlying70 cellsU cellsP (tail2 h)
theorem table {W : World} (h : laidMetH Tryd.prog Rows.digitsMeasuredRow.laid W) : Ebc.Tab W :=
  Ebc.Tab.of_var gTab (Lib.tabIs_of_head (rest := []) gTab gTabType Tryd.underlying61 Tryd.underlying5 cellsE cellsT (tail3 h))
set_option maxRecDepth 100000 in
set_option maxHeartbeats 1600000 in
theorem walk (a0 : Int) (a1 : Int) (a2 : Int) (a3 : ByteArray) (w0 : (Lit.int .i64 a0).wf = true) (w1 : (Lit.int .i64 a1).wf = true) (w2 : (Lit.int .i64 a2).wf = true) (w3 : a3.size ≤ maxLen) (k3 : a3.size ≤ 140737488351232) (w : World) (hL : laidMetH Tryd.prog Rows.digitsMeasuredRow.laid w) :
    Calls Tryd.prog 3 #[.int .i64 a0, .int .i64 a1, .int .i64 a2, .string a3] w fun e w' => e = .returned (.bool true) ∧ Below w.heap.size w w' := by
  exact Mw.walk a0 a1 a2 a3 w (bounds_i64 w0) (bounds_i64 w1) (bounds_i64 w2) w3 (by omega) (table hL) (tabP hL)


theorem contract (H : Type) (enc : TypeId × Value → H) (W : World) (base : Nat) (args : Array Value) (ds gs : List (DataW H)) (before : List MemPlace)
    (hval : ∀ (j : Nat) t v, Tryd.f3.params[j]? = some t → args[j]? = some v → Value.okWide Tryd.prog W .any base t v)
    (hW : DataW.Whole enc Tryd.prog Tryd.f3.params.toList Rows.digitsMeasuredSpec.vars false W args.toList ds gs before) (hL : laidMetH Tryd.prog Rows.digitsMeasuredRow.laid W) (hsz : (DataW.weightsEach Tryd.prog (Tryd.f3.params.toList ++ Rows.digitsMeasuredSpec.plain.varTypes Tryd.prog) (ds ++ gs)).all (· ≤ reachBytes) = true) :
    Calls Tryd.prog 3 args W fun e W' => ∃ v, e = .returned v ∧ Rows.digitsMeasuredSpec.post enc Tryd.prog Tryd.f3 false true false false W args v W' := by
  have hW' := hW
  obtain ⟨p, q, hA0, hV, rfl, hfz, hnd⟩ := hW
  have hA : DataW.TrodAll enc Tryd.prog W 0 (fun _ => true) true Tryd.f3.params.toList args.toList ds p := hA0
  rw [Tryd.params3] at hA hval
  obtain ⟨v0, vs0, d0, ds0, p0, q0, hargs, rfl, rfl, h0, r0⟩ := trodAll_cons hA
  obtain ⟨v1, vs1, d1, ds1, p1, q1, rfl, rfl, rfl, h1, r1⟩ := trodAll_cons r0
  obtain ⟨v2, vs2, d2, ds2, p2, q2, rfl, rfl, rfl, h2, r2⟩ := trodAll_cons r1
  obtain ⟨v3, vs3, d3, ds3, p3, q3, rfl, rfl, rfl, h3, r3⟩ := trodAll_cons r2
  obtain ⟨rfl, rfl, rfl⟩ := trodAll_nil r3
  obtain rfl : args = #[v0, v1, v2, v3] := by cases args; simp_all
  obtain ⟨rfl, rfl⟩ := trodVars_none hV
  obtain ⟨a0, rfl, rfl, rfl, w0⟩ := open_int Tryd.underlying3 (hval 0 3 v0 rfl rfl) h0
  obtain ⟨a1, rfl, rfl, rfl, w1⟩ := open_int Tryd.underlying3 (hval 1 3 v1 rfl rfl) h1
  obtain ⟨a2, rfl, rfl, rfl, w2⟩ := open_int Tryd.underlying3 (hval 2 3 v2 rfl rfl) h2
  obtain ⟨a3, rfl, rfl, rfl, w3⟩ := open_string Tryd.underlying9 (hval 3 9 v3 rfl rfl) h3
  clear hA0
  have e3 : a3.data.toList.length = a3.size := by rw [Array.length_toList]; rfl
  have g3 : a3.data.toList.length ≤ 140737488351232 := sized_string hsz (j := 3) (t := 9) rfl rfl
  refine (walk a0 a1 a2 a3 w0 w1 w2 w3 (by omega) W hL).mono fun e W' ⟨he, bel⟩ => ?_
  subst he
  exact ⟨_, rfl, _, _, _, [], _, [], hW', trodAll_mk1 (shut_bool Tryd.underlying4 _), (trodAll_cons_mk (shut_int Tryd.underlying3 w0) (trodAll_cons_mk (shut_int Tryd.underlying3 w1) (trodAll_cons_mk (shut_int Tryd.underlying3 w2) (trodAll_cons_mk (shut_string Tryd.underlying9 w3) trodAll_mk0)))), rfl, bel.frame _, fun h => by cases h⟩

theorem laid_met (os : Os) : laidMet Tryd.prog Rows.digitsMeasuredRow.laid (({ World.holding Tryd.prog os ⟨#[], #[], []⟩ with heap := (((((World.holding Tryd.prog os ⟨#[], #[], []⟩).heap.modify 3 fun | .cells _ t frozen => .cells #[.int .u8 0, .int .u8 1, .int .u8 28, .int .u8 2, .int .u8 29, .int .u8 14, .int .u8 24, .int .u8 3, .int .u8 30, .int .u8 22, .int .u8 20, .int .u8 15, .int .u8 25, .int .u8 17, .int .u8 4, .int .u8 8, .int .u8 31, .int .u8 27, .int .u8 13, .int .u8 23, .int .u8 21, .int .u8 19, .int .u8 16, .int .u8 7, .int .u8 26, .int .u8 12, .int .u8 18, .int .u8 6, .int .u8 11, .int .u8 5, .int .u8 10, .int .u8 9] t frozen | o => o).modify 4 fun | .cells _ t frozen => .cells #[.int .u8 0, .int .u8 1, .int .u8 56, .int .u8 2, .int .u8 57, .int .u8 49, .int .u8 28, .int .u8 3, .int .u8 61, .int .u8 58, .int .u8 42, .int .u8 50, .int .u8 38, .int .u8 29, .int .u8 17, .int .u8 4, .int .u8 62, .int .u8 47, .int .u8 59, .int .u8 36, .int .u8 45, .int .u8 43, .int .u8 51, .int .u8 22, .int .u8 53, .int .u8 39, .int .u8 33, .int .u8 30, .int .u8 24, .int .u8 18, .int .u8 12, .int .u8 5, .int .u8 63, .int .u8 55, .int .u8 48, .int .u8 27, .int .u8 60, .int .u8 41, .int .u8 37, .int .u8 16, .int .u8 46, .int .u8 35, .int .u8 44, .int .u8 21, .int .u8 52, .int .u8 32, .int .u8 23, .int .u8 11, .int .u8 54, .int .u8 26, .int .u8 40, .int .u8 15, .int .u8 34, .int .u8 20, .int .u8 31, .int .u8 10, .int .u8 25, .int .u8 14, .int .u8 19, .int .u8 9, .int .u8 13, .int .u8 8, .int .u8 7, .int .u8 6] t frozen | o => o).modify 1 fun | .cells _ t frozen => .cells #[.int .u64 1, .int .u64 10, .int .u64 100, .int .u64 1000, .int .u64 10000, .int .u64 100000, .int .u64 1000000, .int .u64 10000000, .int .u64 100000000, .int .u64 1000000000, .int .u64 10000000000, .int .u64 100000000000, .int .u64 1000000000000, .int .u64 10000000000000, .int .u64 100000000000000, .int .u64 1000000000000000, .int .u64 10000000000000000, .int .u64 100000000000000000, .int .u64 1000000000000000000, .int .u64 10000000000000000000] t frozen | o => o).modify 0 fun | .cells _ t frozen => .cells #[.int .u8 64, .int .u8 90, .int .u8 127, .int .u8 123, .int .u8 91, .int .u8 108, .int .u8 80, .int .u8 125, .int .u8 77, .int .u8 93, .int .u8 92, .int .u8 78, .int .u8 107, .int .u8 96, .int .u8 75, .int .u8 97, .int .u8 240, .int .u8 241, .int .u8 242, .int .u8 243, .int .u8 244, .int .u8 245, .int .u8 246, .int .u8 247, .int .u8 248, .int .u8 249, .int .u8 122, .int .u8 94, .int .u8 76, .int .u8 126, .int .u8 110, .int .u8 111, .int .u8 124, .int .u8 193, .int .u8 194, .int .u8 195, .int .u8 196, .int .u8 197, .int .u8 198, .int .u8 199, .int .u8 200, .int .u8 201, .int .u8 209, .int .u8 210, .int .u8 211, .int .u8 212, .int .u8 213, .int .u8 214, .int .u8 215, .int .u8 216, .int .u8 217, .int .u8 226, .int .u8 227, .int .u8 228, .int .u8 229, .int .u8 230, .int .u8 231, .int .u8 232, .int .u8 233, .int .u8 186, .int .u8 224, .int .u8 187, .int .u8 176, .int .u8 109, .int .u8 121, .int .u8 129, .int .u8 130, .int .u8 131, .int .u8 132, .int .u8 133, .int .u8 134, .int .u8 135, .int .u8 136, .int .u8 137, .int .u8 145, .int .u8 146, .int .u8 147, .int .u8 148, .int .u8 149, .int .u8 150, .int .u8 151, .int .u8 152, .int .u8 153, .int .u8 162, .int .u8 163, .int .u8 164, .int .u8 165, .int .u8 166, .int .u8 167, .int .u8 168, .int .u8 169, .int .u8 192, .int .u8 79, .int .u8 208, .int .u8 161] t frozen | o => o) } : World).forCall (fun _ _ => 0) ⟨#[], #[.int .i64 0, .int .i64 0, .int .i64 0, .string .empty], []⟩).memory :=
  laidMet_of_run' 8 (by kernel_rfl) (by kernel_rfl)
theorem reads (os : Os) {H : Type} (enc : TypeId × Value → H) : ∃ places, DataW.whole enc Tryd.prog (({ World.holding Tryd.prog os ⟨#[], #[], []⟩ with heap := (((((World.holding Tryd.prog os ⟨#[], #[], []⟩).heap.modify 3 fun | .cells _ t frozen => .cells #[.int .u8 0, .int .u8 1, .int .u8 28, .int .u8 2, .int .u8 29, .int .u8 14, .int .u8 24, .int .u8 3, .int .u8 30, .int .u8 22, .int .u8 20, .int .u8 15, .int .u8 25, .int .u8 17, .int .u8 4, .int .u8 8, .int .u8 31, .int .u8 27, .int .u8 13, .int .u8 23, .int .u8 21, .int .u8 19, .int .u8 16, .int .u8 7, .int .u8 26, .int .u8 12, .int .u8 18, .int .u8 6, .int .u8 11, .int .u8 5, .int .u8 10, .int .u8 9] t frozen | o => o).modify 4 fun | .cells _ t frozen => .cells #[.int .u8 0, .int .u8 1, .int .u8 56, .int .u8 2, .int .u8 57, .int .u8 49, .int .u8 28, .int .u8 3, .int .u8 61, .int .u8 58, .int .u8 42, .int .u8 50, .int .u8 38, .int .u8 29, .int .u8 17, .int .u8 4, .int .u8 62, .int .u8 47, .int .u8 59, .int .u8 36, .int .u8 45, .int .u8 43, .int .u8 51, .int .u8 22, .int .u8 53, .int .u8 39, .int .u8 33, .int .u8 30, .int .u8 24, .int .u8 18, .int .u8 12, .int .u8 5, .int .u8 63, .int .u8 55, .int .u8 48, .int .u8 27, .int .u8 60, .int .u8 41, .int .u8 37, .int .u8 16, .int .u8 46, .int .u8 35, .int .u8 44, .int .u8 21, .int .u8 52, .int .u8 32, .int .u8 23, .int .u8 11, .int .u8 54, .int .u8 26, .int .u8 40, .int .u8 15, .int .u8 34, .int .u8 20, .int .u8 31, .int .u8 10, .int .u8 25, .int .u8 14, .int .u8 19, .int .u8 9, .int .u8 13, .int .u8 8, .int .u8 7, .int .u8 6] t frozen | o => o).modify 1 fun | .cells _ t frozen => .cells #[.int .u64 1, .int .u64 10, .int .u64 100, .int .u64 1000, .int .u64 10000, .int .u64 100000, .int .u64 1000000, .int .u64 10000000, .int .u64 100000000, .int .u64 1000000000, .int .u64 10000000000, .int .u64 100000000000, .int .u64 1000000000000, .int .u64 10000000000000, .int .u64 100000000000000, .int .u64 1000000000000000, .int .u64 10000000000000000, .int .u64 100000000000000000, .int .u64 1000000000000000000, .int .u64 10000000000000000000] t frozen | o => o).modify 0 fun | .cells _ t frozen => .cells #[.int .u8 64, .int .u8 90, .int .u8 127, .int .u8 123, .int .u8 91, .int .u8 108, .int .u8 80, .int .u8 125, .int .u8 77, .int .u8 93, .int .u8 92, .int .u8 78, .int .u8 107, .int .u8 96, .int .u8 75, .int .u8 97, .int .u8 240, .int .u8 241, .int .u8 242, .int .u8 243, .int .u8 244, .int .u8 245, .int .u8 246, .int .u8 247, .int .u8 248, .int .u8 249, .int .u8 122, .int .u8 94, .int .u8 76, .int .u8 126, .int .u8 110, .int .u8 111, .int .u8 124, .int .u8 193, .int .u8 194, .int .u8 195, .int .u8 196, .int .u8 197, .int .u8 198, .int .u8 199, .int .u8 200, .int .u8 201, .int .u8 209, .int .u8 210, .int .u8 211, .int .u8 212, .int .u8 213, .int .u8 214, .int .u8 215, .int .u8 216, .int .u8 217, .int .u8 226, .int .u8 227, .int .u8 228, .int .u8 229, .int .u8 230, .int .u8 231, .int .u8 232, .int .u8 233, .int .u8 186, .int .u8 224, .int .u8 187, .int .u8 176, .int .u8 109, .int .u8 121, .int .u8 129, .int .u8 130, .int .u8 131, .int .u8 132, .int .u8 133, .int .u8 134, .int .u8 135, .int .u8 136, .int .u8 137, .int .u8 145, .int .u8 146, .int .u8 147, .int .u8 148, .int .u8 149, .int .u8 150, .int .u8 151, .int .u8 152, .int .u8 153, .int .u8 162, .int .u8 163, .int .u8 164, .int .u8 165, .int .u8 166, .int .u8 167, .int .u8 168, .int .u8 169, .int .u8 192, .int .u8 79, .int .u8 208, .int .u8 161] t frozen | o => o) } : World).forCall (fun _ _ => 0) ⟨#[], #[.int .i64 0, .int .i64 0, .int .i64 0, .string .empty], []⟩).memory Tryd.f3.params.toList Rows.digitsMeasuredSpec.vars false (#[.int .i64 0, .int .i64 0, .int .i64 0, .string .empty] : Array Value).toList 8 = some ([.lit (.int .i64 0), .lit (.int .i64 0), .lit (.int .i64 0), .lit (.string [])], [], places) :=
  ⟨[], by kernel_rfl⟩
set_option maxRecDepth 100000 in
theorem lifted (os : Os) (started : os.Started) (H : Type) (enc : TypeId × Value → H) (F : Stop.Interp) :
    ReturnsInHanded {} Tryd.checked os 3 .any ((OpenSpec.ofChange Rows.digitsMeasuredSpec).preRow enc Tryd.prog Tryd.f3 Rows.digitsMeasuredRow.domain false Rows.digitsMeasuredRow.laid) (((OpenSpec.ofChange Rows.digitsMeasuredSpec).at F).post enc Tryd.prog Tryd.f3 false true false false) := by
  obtain ⟨places, hx⟩ := reads os enc
  refine returnsInHanded_of_row (C := Tryd.checked) (s := OpenSpec.ofChange Rows.digitsMeasuredSpec) own started (by kernel_rfl) Tryd.func3
    (witness_row_at (enc := enc) (C := Tryd.checked) false ({ World.holding Tryd.prog os ⟨#[], #[], []⟩ with heap := (((((World.holding Tryd.prog os ⟨#[], #[], []⟩).heap.modify 3 fun | .cells _ t frozen => .cells #[.int .u8 0, .int .u8 1, .int .u8 28, .int .u8 2, .int .u8 29, .int .u8 14, .int .u8 24, .int .u8 3, .int .u8 30, .int .u8 22, .int .u8 20, .int .u8 15, .int .u8 25, .int .u8 17, .int .u8 4, .int .u8 8, .int .u8 31, .int .u8 27, .int .u8 13, .int .u8 23, .int .u8 21, .int .u8 19, .int .u8 16, .int .u8 7, .int .u8 26, .int .u8 12, .int .u8 18, .int .u8 6, .int .u8 11, .int .u8 5, .int .u8 10, .int .u8 9] t frozen | o => o).modify 4 fun | .cells _ t frozen => .cells #[.int .u8 0, .int .u8 1, .int .u8 56, .int .u8 2, .int .u8 57, .int .u8 49, .int .u8 28, .int .u8 3, .int .u8 61, .int .u8 58, .int .u8 42, .int .u8 50, .int .u8 38, .int .u8 29, .int .u8 17, .int .u8 4, .int .u8 62, .int .u8 47, .int .u8 59, .int .u8 36, .int .u8 45, .int .u8 43, .int .u8 51, .int .u8 22, .int .u8 53, .int .u8 39, .int .u8 33, .int .u8 30, .int .u8 24, .int .u8 18, .int .u8 12, .int .u8 5, .int .u8 63, .int .u8 55, .int .u8 48, .int .u8 27, .int .u8 60, .int .u8 41, .int .u8 37, .int .u8 16, .int .u8 46, .int .u8 35, .int .u8 44, .int .u8 21, .int .u8 52, .int .u8 32, .int .u8 23, .int .u8 11, .int .u8 54, .int .u8 26, .int .u8 40, .int .u8 15, .int .u8 34, .int .u8 20, .int .u8 31, .int .u8 10, .int .u8 25, .int .u8 14, .int .u8 19, .int .u8 9, .int .u8 13, .int .u8 8, .int .u8 7, .int .u8 6] t frozen | o => o).modify 1 fun | .cells _ t frozen => .cells #[.int .u64 1, .int .u64 10, .int .u64 100, .int .u64 1000, .int .u64 10000, .int .u64 100000, .int .u64 1000000, .int .u64 10000000, .int .u64 100000000, .int .u64 1000000000, .int .u64 10000000000, .int .u64 100000000000, .int .u64 1000000000000, .int .u64 10000000000000, .int .u64 100000000000000, .int .u64 1000000000000000, .int .u64 10000000000000000, .int .u64 100000000000000000, .int .u64 1000000000000000000, .int .u64 10000000000000000000] t frozen | o => o).modify 0 fun | .cells _ t frozen => .cells #[.int .u8 64, .int .u8 90, .int .u8 127, .int .u8 123, .int .u8 91, .int .u8 108, .int .u8 80, .int .u8 125, .int .u8 77, .int .u8 93, .int .u8 92, .int .u8 78, .int .u8 107, .int .u8 96, .int .u8 75, .int .u8 97, .int .u8 240, .int .u8 241, .int .u8 242, .int .u8 243, .int .u8 244, .int .u8 245, .int .u8 246, .int .u8 247, .int .u8 248, .int .u8 249, .int .u8 122, .int .u8 94, .int .u8 76, .int .u8 126, .int .u8 110, .int .u8 111, .int .u8 124, .int .u8 193, .int .u8 194, .int .u8 195, .int .u8 196, .int .u8 197, .int .u8 198, .int .u8 199, .int .u8 200, .int .u8 201, .int .u8 209, .int .u8 210, .int .u8 211, .int .u8 212, .int .u8 213, .int .u8 214, .int .u8 215, .int .u8 216, .int .u8 217, .int .u8 226, .int .u8 227, .int .u8 228, .int .u8 229, .int .u8 230, .int .u8 231, .int .u8 232, .int .u8 233, .int .u8 186, .int .u8 224, .int .u8 187, .int .u8 176, .int .u8 109, .int .u8 121, .int .u8 129, .int .u8 130, .int .u8 131, .int .u8 132, .int .u8 133, .int .u8 134, .int .u8 135, .int .u8 136, .int .u8 137, .int .u8 145, .int .u8 146, .int .u8 147, .int .u8 148, .int .u8 149, .int .u8 150, .int .u8 151, .int .u8 152, .int .u8 153, .int .u8 162, .int .u8 163, .int .u8 164, .int .u8 165, .int .u8 166, .int .u8 167, .int .u8 168, .int .u8 169, .int .u8 192, .int .u8 79, .int .u8 208, .int .u8 161] t frozen | o => o) } : World) #[.int .i64 0, .int .i64 0, .int .i64 0, .string .empty] rfl (by kernel_rfl) (by kernel_rfl) (by kernel_rfl)
      (OpenSpec.preRow_of_cond 8 hx (by kernel_rfl) (fun k hk => by cases hk) (by kernel_rfl) (laid_met os))) ?_
  intro W base args ds gs before hval hW _ hcond hsz hL _ _
  exact contract H enc W base args ds gs before hval hW hL hsz

theorem said : Rows.DigitsMeasuredSaid :=
  OpenClaim.holds_of_cond 3 Tryd.f3 rfl rfl rfl rfl rfl rfl rfl ⟨rfl, rfl, rfl, rfl, rfl⟩ rfl rfl rfl rfl rfl (by kernel_rfl) Tryd.func3 (by kernel_rfl)
    (of_decide_eq_true (by kernel_rfl)) (by unfold Func.isWrapper; first | (rw [if_pos (by decide +kernel)]; kernel_rfl) | (rw [if_neg (by decide +kernel)]; exact ⟨rfl, rfl⟩))
    (fun os started H enc _ F => by rw [OpenClaim.pre_eq_preRow]; exact lifted os started H enc F)
theorem plain (f : FuncId) (fn : Func) (hf : Tryd.pinned.checked.prog.funcNamed "turnstile/turnstilelaw1.DigitsMeasured" = some f) (hfn : Tryd.pinned.checked.prog.funcs[f]? = some fn) :
    false = Tryd.pinned.checked.prog.looks [] ∧ ∀ (j : Nat) t, fn.params[j]? = some t → Tryd.pinned.checked.prog.wantsStandIn t = false := by
  obtain rfl : f = 3 := Option.some.inj ((show Tryd.prog.funcNamed "turnstile/turnstilelaw1.DigitsMeasured" = some 3 by kernel_rfl).symm.trans hf) |>.symm
  obtain rfl : fn = Tryd.f3 := (Option.some.inj (Tryd.func3.symm.trans hfn)).symm
  refine ⟨by kernel_rfl, fun j t ht => ?_⟩
  rw [Tryd.params3] at ht
  have hm : t = 3 ∨ t = 9 := by
    rcases j with _ | _ | _ | _ | j
    all_goals first | (simp at ht; omega) | (simp at ht; exact Or.inl ht.symm) | (simp at ht; exact Or.inr ht.symm) | (simp at ht; exact ht.symm) | (simp at ht; done)
  rcases hm with rfl | rfl
  · exact (show Tryd.prog.wantsStandIn 3 = false by kernel_rfl)
  · exact (show Tryd.prog.wantsStandIn 9 = false by kernel_rfl)

theorem proved : Rows.DigitsMeasuredCardSaid :=
  Claim7.holds_tied_plain_at .later [] _ _ _ _ said (fun _ h => by cases h) (by kernel_rfl) (fun _ h => by cases h) digitsMeasured_row_tie rfl ⟨rfl, rfl⟩ (by kernel_rfl) rfl plain (by kernel_rfl)
#print axioms proved
end Go.Proofs.YtmgnmkolijaidaaDoor.digitsMeasured
