/- BitmapDecodes: the law out of the contracts; the frame of the row. -/
import Derived.Test.YtiepchghlopfnaaRows
import Derived.WalkKit
import Derived.ProofKit
import Derived.OpenShut
import Derived.ShutString
import Derived.ChangeOld
import Derived.Below
import Derived.JoinedCond
import Derived.Carry
import Derived.Test.YtiepchghlopfnaaEx
import Derived.Test.YtiepchghlopfnaaDl
import Derived.Test.YtiepchghlopfnaaAk
namespace Go.Proofs.Ytiepchghlopfnaa.bitmapDecodes
open Go.ChangeShapes Go.WideShapes Go.ChangeAt Go.RowKit
open Go.ChangeMaps (open_string shut_string)
set_option linter.unusedVariables false

theorem own : ownKnob Try.prog.godebug = none := by kernel_rfl

set_option maxRecDepth 100000 in
set_option maxHeartbeats 1600000 in
theorem walk (a0 : Int) (a1 : ByteArray) (w : World) (w0 : (Lit.int .i64 a0).wf = true) (w1 : a1.size ≤ maxLen) :
    Calls Try.prog 7 #[.int .i64 a0, .string a1] w fun e w' => e = .returned (.bool true) ∧ Below w.heap.size w w' := by
  have px := fun w => Ex.examples_any w
  have p1 := fun w => Dv.decode_any a0 a1 w1 w
  obtain ⟨r, e, n, p2, h1, h2, h3, h4⟩ := Dl.both a0 a1 w1
  have p3 := fun w => Ak.like_true h1 h2 w
  rw [h3, h4] at p1
  have z1 := Br.hsz r
  have o1 := Pla.rowC_one r
  have s1 := Pla.rowC_size r
  have hz := (zero_of_info Br.zrow).1
  generalize Pla.rowC r = C1 at *
  generalize (De.decV a0 a1).1 = F at *
  generalize (De.decV a0 a1).2.1 = S at *
  clear h1 h2 h3 h4 w0 w1
  go_enter Try.func7, Try.ntmps7
  go_wp2_with (first
    | (go_at_call 9; refine (px _).mono ?_; rintro e x ⟨rfl, h1⟩)
    | (go_at_call 34; refine (p1 _).mono ?_; rintro e y ⟨rfl, h2⟩)
    | (go_at_call 35; refine (p2 _).mono ?_; rintro e z ⟨rfl, h3⟩; have m3 := Bm.kept h3 (Bm.h1_0 y _); obtain ⟨c0, c1, cf0, cf1⟩ := De.and4 (Bm.held2a h3 (Bm.h1_0 y _)))
    | (refine wpList_store_row rfl 33 _ _ rfl z.heap.size C1 rfl rfl _ _ (Bm.h1_0 z _) z1 (by rw [Pla.rowC_size, s1]) o1 ?_; rw [World.setRow_alloc_new])
    | (refine wpList_load_row rfl 33 _ rfl z.heap.size rfl _ _ _ _ (Bm.h1_0 z _) Try.underlying33 rfl z1 ?_)
    | (go_at_call 14; refine (p3 _).mono ?_; rintro e u ⟨rfl, h4⟩))
  go_ret
  exact ⟨rfl, Bm.keepB (Bm.keepB (Bm.keepB (Bm.keepB (Bm.keepB h1 h2) (Bm.below_one y _)) h3) (Bm.below_one z _)) h4⟩

theorem contract (H : Type) (enc : TypeId × Value → H) (W : World) (base : Nat) (args : Array Value) (ds gs : List (DataW H)) (before : List MemPlace)
    (hval : ∀ (j : Nat) t v, Try.f7.params[j]? = some t → args[j]? = some v → Value.okWide Try.prog W .any base t v)
    (hW : DataW.Whole enc Try.prog Try.f7.params.toList Rows.bitmapDecodesSpec.vars false W args.toList ds gs before) :
    Calls Try.prog 7 args W fun e W' => ∃ v, e = .returned v ∧ Rows.bitmapDecodesSpec.post enc Try.prog Try.f7 false true false false W args v W' := by
  have hW' := hW
  obtain ⟨p, q, hA0, hV, rfl, hfz, hnd⟩ := hW
  have hA : DataW.TrodAll enc Try.prog W 0 (fun _ => true) true Try.f7.params.toList args.toList ds p := hA0
  rw [Try.params7] at hA hval
  obtain ⟨v0, vs0, d0, ds0, p0, q0, hargs, rfl, rfl, h0, r0⟩ := trodAll_cons hA
  obtain ⟨v1, vs1, d1, ds1, p1, q1, rfl, rfl, rfl, h1, r1⟩ := trodAll_cons r0
  obtain ⟨rfl, rfl, rfl⟩ := trodAll_nil r1
  obtain rfl : args = #[v0, v1] := by cases args; simp_all
  obtain ⟨rfl, rfl⟩ := trodVars_none hV
  obtain ⟨a0, rfl, rfl, rfl, w0⟩ := open_int Try.underlying3 (hval 0 3 v0 rfl rfl) h0
  obtain ⟨a1, rfl, rfl, rfl, w1⟩ := open_string Try.underlying9 (hval 1 9 v1 rfl rfl) h1
  clear hA0
  refine (walk a0 a1 W w0 w1).mono fun e W' ⟨he, bel⟩ => ?_
  subst he
  exact ⟨_, rfl, _, _, _, [], _, [], hW', trodAll_mk1 (shut_bool Try.underlying4 _), (trodAll_cons_mk (shut_int Try.underlying3 w0) (trodAll_cons_mk (shut_string Try.underlying9 w1) trodAll_mk0)), rfl, bel.frame _, fun h => by cases h⟩

set_option maxRecDepth 100000 in
theorem lifted (os : Os) (started : os.Started) (H : Type) (enc : TypeId × Value → H) :
    ReturnsInHanded {} Try.checked os 7 .any (Rows.bitmapDecodesSpec.pre6 enc Try.prog Try.f7 Rows.bitmapDecodesRow.domain false) (Rows.bitmapDecodesSpec.post enc Try.prog Try.f7 false true false false) := by
  refine returnsInHanded_of_change (C := Try.checked) own started (by kernel_rfl) Try.func7
    (ChangeSpec.witness6 (enc := enc) (C := Try.checked) false ⟨#[], #[.int .i64 0, .string .empty], []⟩ 8 (by kernel_rfl) (by kernel_rfl) (by kernel_rfl) (by kernel_rfl)) ?_
  intro W base args ds gs before hval hW _ _
  exact contract H enc W base args ds gs before hval hW

theorem proved : Rows.BitmapDecodesSaid :=
  OpenClaim.holds_of_wide 7 Try.f7 rfl rfl rfl rfl rfl rfl rfl ⟨rfl, rfl, rfl, rfl, rfl⟩ rfl rfl rfl rfl rfl (by kernel_rfl) Try.func7 (by kernel_rfl)
    (of_decide_eq_true (by kernel_rfl)) (by unfold Func.isWrapper; first | (rw [if_pos (by decide +kernel)]; kernel_rfl) | (rw [if_neg (by decide +kernel)]; exact ⟨rfl, rfl⟩))
    (fun os started H enc _ => lifted os started H enc)
#print axioms proved
end Go.Proofs.Ytiepchghlopfnaa.bitmapDecodes
