/- The chapter's first example. -/
import Derived.Test.YtecboaocoobjgaaGreatDoorTi
import Derived.Test.YtecboaocoobjgaaGreatDoorRc
import Derived.Great.BuildSlice
namespace Go.Proofs.YtecboaocoobjgaaGreatDoor.Rk
set_option linter.unusedVariables false
set_option linter.unusedSimpArgs false
open Go.RowKit Lib0 Kb Rp Rw Rs Li Mi Ti Rc
set_option maxRecDepth 100000 in
set_option maxHeartbeats 1600000 in
theorem right0 (w : World) : Calls Tryz.prog 27 #[.agg #[.slice none 0 0, .slice none 0 0, .slice none 0 0, .slice none 0 0, .int .i64 0, .int .i64 0, .int .i64 0, .int .i64 0, .int .i64 0, .int .i64 0, .int .i64 0, .int .i64 0, .int .i64 0]] w fun e w' => e = .returned (.tuple #[.int .i64 93, .int .i64 0]) ∧ Below w.heap.size w w' := by
  go_enter Tryz.func27, Tryz.ntmps27
  go_wp2_with fail
  go_ret2
  exact ⟨rfl, below_one _ _⟩
set_option maxRecDepth 100000 in
set_option maxHeartbeats 1600000 in
theorem right_any (w : World) : Calls Tryz.prog 11 #[.agg #[.slice none 0 0, .slice none 0 0, .slice none 0 0, .slice none 0 0, .int .i64 0, .int .i64 0, .int .i64 0, .int .i64 0, .int .i64 0, .int .i64 0, .int .i64 0, .int .i64 0, .int .i64 0]] w fun e w' => e = .returned (.tuple #[.int .i64 93, .int .i64 0]) ∧ Below w.heap.size w w' := by
  have p0 := fun w => right0 w
  have ix : ∀ y : World, (Instr.index 83 (.agg #[.func (.func 27) #[] #[], .func (.func 28) #[] #[], .func (.func 29) #[] #[], .func (.func 30) #[] #[], .func (.func 31) #[] #[]]) (.int .i64 0)).run Tryz.prog y = .ok (.func (.func 27) #[] #[]) y := fun y => by kernel_rfl
  go_enter Tryz.func11, Tryz.ntmps11
  go_wp2_with fail
  go_loopw [9] (fun iv wr => iv = .int .i64 0 ∧ wr = w.alloc (.cells #[.slice none 0 0, .slice none 0 0, .slice none 0 0, .slice none 0 0, .int .i64 0, .int .i64 0, .int .i64 0, .int .i64 0, .int .i64 0, .int .i64 0, .int .i64 0, .int .i64 0, .int .i64 0] 62)) (fun _ _ => 0)
  case atStart => exact ⟨rfl, rfl⟩
  case round =>
    obtain ⟨rfl, rfl⟩ := hrel
    go_wp2_with fail
    refine (p0 _).mono ?_
    rintro e y ⟨rfl, hb⟩
    go_wp2_with fail
    go_ret2
    exact ⟨rfl, keepB (below_one _ _) hb⟩
theorem s4 : (⟨#[52]⟩ : ByteArray).size ≤ maxLen := by decide
def L1 : LT := [([52], 7)]
def L2 : LT := [([52], 7), ([52, 49, 49, 49], 8)]
theorem e1 : putE [] [52] = true ∧ putL [] [52] 7 = L1 := by decide
theorem e2 : putE L1 [52, 49, 49, 49] = true ∧ putL L1 [52, 49, 49, 49] 8 = L2 := by decide
theorem e3 : putE L2 [52] = false := by decide
theorem f1 : lon (lkp L2) [52, 49, 49, 49, 49, 49, 49] 7 = some (8, 4) := by decide
theorem f2 : lon (lkp L2) [52, 49, 120, 49] 4 = some (7, 1) := by decide
theorem f3 : lon (lkp L2) [53] 1 = none := by decide
theorem ri_lit (y : World) (o : Obj) : RI ((y.alloc (.cells #[.int .i64 3, .int .i64 0, .int .i64 1] 3)).alloc o) (.slice (some ⟨y.heap.size, 0, none⟩) 3 3) [3, 0, 1] := by
  have h := h2_0 y (.cells #[.int .i64 3, .int .i64 0, .int .i64 1] 3) o
  refine ⟨_, _, rfl, by decide, fun i hi => ⟨_, rfl, ?_⟩⟩
  have e : (⟨y.heap.size, 0, none⟩ : Addr).add i = ⟨y.heap.size, i, none⟩ := by unfold Addr.add; split <;> simp_all
  rw [e]
  simp only [World.cell?, h]
  match i, hi with
  | 0, _ => rfl
  | 1, _ => rfl
  | 2, _ => rfl
theorem rb_lit (y : World) (o : Obj) : RB ((y.alloc o).alloc (.cells #[.bool true, .bool true] 4)) (.slice (some ⟨y.heap.size + 1, 0, none⟩) 2 2) [true, true] := by
  have h := h2_1 y o (.cells #[.bool true, .bool true] 4)
  refine ⟨_, _, rfl, by decide, fun i hi => ⟨_, rfl, ?_⟩⟩
  have e : (⟨y.heap.size + 1, 0, none⟩ : Addr).add i = ⟨y.heap.size + 1, i, none⟩ := by unfold Addr.add; split <;> simp_all
  rw [e]
  simp only [World.cell?, h]
  match i, hi with
  | 0, _ => rfl
  | 1, _ => rfl
set_option maxRecDepth 100000 in
set_option maxHeartbeats 3200000 in
theorem known_any (w : World) : Calls Tryz.prog 4 #[] w fun e w' => e = .returned (.bool true) ∧ Below w.heap.size w w' := by
  have pc := fun v u w hv hu => choose_any [3, 0, 1] [true, true] ⟨#[]⟩ 0 0 0 0 v u w hv hu
  have pr := fun w => right_any w
  have hn := new_tri w
  have HL : Hid (([] : LT).length < 4611686018427387904) := by show _ < _; decide
  have HL1 : Hid (L1.length < 4611686018427387904) := by show _ < _; decide
  have HL2 : Hid (L2.length < 4611686018427387904) := by show _ < _; decide
  go_enter Tryz.func4, Tryz.ntmps4
  go_wp2_with fail
  refine (new_any _).mono ?_
  rintro e y ⟨rfl, rfl⟩
  have hb0 : Below w.heap.size w (w.alloc (.cells #[.pointer none, .int .i64 0] tR)) := below_one w _
  have hB : ∀ x ∈ [w.heap.size], w.heap.size ≤ x := by simp
  generalize w.alloc (.cells #[.pointer none, .int .i64 0] tR) = y0 at *
  go_wp2_with fail
  refine (put_any y0 _ _ [] ⟨#[52]⟩ 7 hn s4 HL.out).mono ?_
  rintro e y1 ⟨rfl, h1, k1⟩
  rw [show putL [] (⟨#[52]⟩ : ByteArray).data.toList 7 = L1 from e1.2] at h1
  have b1 := Fr.behind hb0 k1 hB
  clear k1 hn hb0 y0
  go_wp2_with fail
  refine (put_any y1 _ _ L1 ⟨#[52, 49, 49, 49]⟩ 8 h1 (by decide) HL1.out).mono ?_
  rintro e y2 ⟨rfl, h2, k2⟩
  rw [show putL L1 (⟨#[52, 49, 49, 49]⟩ : ByteArray).data.toList 8 = L2 from e2.2] at h2
  have b2 := Fr.behind b1 k2 hB
  clear k2 h1 b1 y1
  go_wp2_with fail
  refine (find_any y2 _ _ L2 ⟨#[52, 49, 49, 49, 49, 49, 49]⟩ h2 (by decide)).mono ?_
  rintro e y3 ⟨he, k3⟩
  have he2 : e = .returned (.tuple #[.int .i64 8, .int .i64 4, .bool true]) := by
    have := he
    rw [FindPost, show lon (lkp L2) (⟨#[52, 49, 49, 49, 49, 49, 49]⟩ : ByteArray).data.toList (⟨#[52, 49, 49, 49, 49, 49, 49]⟩ : ByteArray).size = some (8, 4) from f1] at this
    exact this
  subst he2
  have h3 := h2.below k3
  have b3 := keepB b2 k3
  clear he k3 h2 b2 y2
  go_wp2_with fail
  refine (find_any y3 _ _ L2 ⟨#[52, 49, 120, 49]⟩ h3 (by decide)).mono ?_
  rintro e y4 ⟨he, k3⟩
  have he2 : e = .returned (.tuple #[.int .i64 7, .int .i64 1, .bool true]) := by
    have := he
    rw [FindPost, show lon (lkp L2) (⟨#[52, 49, 120, 49]⟩ : ByteArray).data.toList (⟨#[52, 49, 120, 49]⟩ : ByteArray).size = some (7, 1) from f2] at this
    exact this
  subst he2
  have h4 := h3.below k3
  have b4 := keepB b3 k3
  clear he k3 h3 b3 y3
  go_wp2_with fail
  refine (find_any y4 _ _ L2 ⟨#[53]⟩ h4 (by decide)).mono ?_
  rintro e y5 ⟨he, k3⟩
  have he2 : e = .returned (.tuple #[.int .i64 0, .int .i64 0, .bool false]) := by
    have := he
    rw [FindPost, show lon (lkp L2) (⟨#[53]⟩ : ByteArray).data.toList (⟨#[53]⟩ : ByteArray).size = none from f3] at this
    exact this
  subst he2
  have h5 := h4.below k3
  have b5 := keepB b4 k3
  clear he k3 h4 b4 y4
  go_wp2_with fail
  refine (put_any y5 _ _ L2 ⟨#[52]⟩ 9 h5 s4 HL2.out).mono ?_
  rintro e y6 ⟨rfl, h6, k6⟩
  have b6 := Fr.behind b5 k6 hB
  clear k6 h5 b5 y5 h6
  have z1 : putE [] (⟨#[52]⟩ : ByteArray).data.toList = true := e1.1
  have z2 : putE L1 (⟨#[52, 49, 49, 49]⟩ : ByteArray).data.toList = true := e2.1
  have z3 : putE L2 (⟨#[52]⟩ : ByteArray).data.toList = false := e3
  simp only [z1, z2, z3, if_true, if_neg (Bool.false_ne_true)]
  go_wp2_with fail
  refine (pc _ _ _ (ri_lit y6 (.cells #[.bool true, .bool true] 4)) (rb_lit y6 (.cells #[.int .i64 3, .int .i64 0, .int .i64 1] 3))).mono ?_
  rintro e y7 ⟨he, k7⟩
  have he2 : e = .returned (.tuple #[.int .i64 0, .bool true]) := by rw [he]; exact congrArg chE (by decide : cho [3, 0, 1] [true, true] = some 0)
  subst he2
  have b7 := keepB b6 (keepB (below_two y6 _ _) k7)
  clear he k7 b6 pc
  go_wp2_with fail
  refine (pr _).mono ?_
  rintro e y8 ⟨rfl, k8⟩
  have b8 := keepB b7 k8
  clear k8 b7 y7 pr
  go_wp2_with fail
  go_ret
  exact ⟨rfl, b8⟩
end Go.Proofs.YtecboaocoobjgaaGreatDoor.Rk
