/- The laws' fault. -/
import Derived.Test.YtabmpngliphdpaaDoorJf
import Derived.Test.YtabmpngliphdpaaDoorQl
import Derived.BigQuiet
namespace Go.Proofs.YtabmpngliphdpaaDoor.Jg
set_option linter.unusedVariables false
set_option linter.unusedSimpArgs false
open Go.RowKit Lib0 Kb
attribute [local go_sem] Oper.semAt_some
abbrev tFt : TypeId := 91
theorem setCell_heap {w : World} {g : Nat} {c : Array Value} {t : TypeId} {fr : Nat × Nat} (h : w.heap[g]? = some (.cells c t fr)) (o : Nat) (v : Value) : (w.setCell ⟨g, o, none⟩ v).heap[g]? = some (.cells (c.setIfInBounds o v) t fr) := by
  show (w.heap.modify g _)[g]? = _
  rw [Array.getElem?_modify]; simp [h]
/-- the handle that errors.As reads -/
def Hdl (w : World) : Prop := w.cell? ⟨2, 0, none⟩ = some (.iface 144 (.agg #[.pointer (some ⟨3, 47, none⟩)]))
theorem Hdl.next {w y : World} (h : Hdl w) (k : Below w.heap.size w y) : Hdl y := (k.cell (World.block_lt_of_cell? _ _ h)).trans h
/-- a fault in its block -/
def Ft (w : World) (g : Nat) (a c : Int) : Prop := w.heap[g]? = some (.cells #[.int .i64 a, .int .i64 c] tFt (0, 0))
theorem fault_nil (w : World) : Calls Tryd.prog 14 #[.nilIface] w fun e w' => e = .returned (.tuple #[.int .i64 0, .int .i64 0, .bool true]) ∧ w' = w := by
  go_enter Tryd.func14, Tryd.ntmps14
  go_wp2_with fail
  go_ret3
  exact ⟨rfl, rfl⟩
set_option maxRecDepth 100000 in
set_option maxHeartbeats 1600000 in
theorem fault_hit (g : Nat) (a c : Int) (hc : c ≠ 0) (w : World) (hh : Hdl w) (hb : Ft w g a c) : Calls Tryd.prog 14 #[.iface 86 (.pointer (some ⟨g, 0, none⟩))] w fun e w' => e = .returned (.tuple #[.int .i64 a, .int .i64 c, .bool true]) ∧ Below w.heap.size w w' := by
  obtain ⟨W1, HW1⟩ : ∃ W, Hid (w.alloc (.cells #[.pointer none] 86) = W) := ⟨_, rfl⟩
  have hb1 : Below w.heap.size w W1 := HW1.out ▸ below_one _ _
  have hx1 : W1.heap[w.heap.size]? = some (.cells #[.pointer none] 86 (0, 0)) := HW1.out ▸ h1_0 _ _
  have hfr : W1.frozen? ⟨w.heap.size, 0, none⟩ = false := by simp [World.frozen?, hx1]
  have hcl : W1.cell? ⟨w.heap.size, 0, none⟩ = some (.pointer none) := by simp [World.cell?, hx1]
  have hh1 : Hdl W1 := hh.next hb1
  have hb2 := kept hb1 hb
  have hgl : g < w.heap.size := (Array.getElem?_eq_some_iff.1 hb).1
  have HAS := Je.as_hit ⟨g, 0, none⟩ ⟨w.heap.size, 0, none⟩ (.pointer none) W1 hh1 hcl hfr
  have HA : Hid (Calls Tryd.prog 33 #[.iface 86 (.pointer (some ⟨g, 0, none⟩)), .iface 88 (.pointer (some ⟨w.heap.size, 0, none⟩))] W1 fun ev w' => ev = .returned (.bool true) ∧ Below w.heap.size w w' ∧ w'.heap[w.heap.size]? = some (.cells #[.pointer (some ⟨g, 0, none⟩)] 86 (0, 0))) := HAS.mono (by
    rintro ev y ⟨rfl, hy⟩
    obtain ⟨Y, hY⟩ : ∃ Y, ((((W1.alloc (.cells #[.pointer (some ⟨w.heap.size, 0, none⟩)] 88)).alloc (.cells #[.pointer (some ⟨3, 88, none⟩), .pointer (some ⟨W1.heap.size, 0, none⟩), .int .u64 150] 115)).alloc (.cells #[.pointer (some ⟨3, 88, none⟩), .pointer (some ⟨W1.heap.size, 0, none⟩), .int .u64 150] 115)).alloc (.cells #[.pointer (some ⟨g, 0, none⟩)] 86)) = Y := ⟨_, rfl⟩
    rw [hY] at hy
    have hbY : Below W1.heap.size W1 Y := hY ▸ keepB (keepB (keepB (below_one _ _) (below_one _ _)) (below_one _ _)) (below_one _ _)
    have hxY := kept hbY hx1
    subst hy
    refine ⟨rfl, (keepB hb1 hbY).setCell (Nat.le_refl _) _, ?_⟩
    rw [setCell_heap hxY 0]; rfl)
  have HFB : Hid (∀ y, Below w.heap.size w y → y.heap[g]? = some (.cells #[.int .i64 a, .int .i64 c] tFt (0, 0)) ∧ g < y.heap.size) := fun y hy => ⟨kept hy hb, Nat.lt_of_lt_of_le hgl hy.size⟩
  have hcb : (c != 0) = true := bne_iff_ne.2 hc
  clear hb1 hx1 hfr hcl hh1 hb2 hgl HAS hh hb
  go_enter Tryd.func14, Tryd.ntmps14
  go_wp2_with (first | (rw [HW1.out]) | fail)
  refine HA.out.mono ?_
  rintro e y ⟨rfl, hy, hx⟩
  obtain ⟨hf, hgl⟩ := HFB.out y hy
  have c0 : y.cell? ⟨w.heap.size, 0, none⟩ = some (.pointer (some ⟨g, 0, none⟩)) := by simp [World.cell?, hx]
  have c1 : y.cell? ⟨g, 0, none⟩ = some (.int .i64 a) := by simp [World.cell?, hf]
  have c2 : y.cell? ⟨g, 1, none⟩ = some (.int .i64 c) := by simp [World.cell?, hf]
  have l0 : w.heap.size < y.heap.size := (Array.getElem?_eq_some_iff.1 hx).1
  have HY : Hid (Below w.heap.size w y) := hy
  have HI := Jf.is_code g c y c2
  have HIS : Hid (Calls Tryd.prog 34 #[.iface 86 (.pointer (some ⟨g, 0, none⟩)), .iface 43 (.int .i64 c)] y fun e w' => e = .returned (.bool true) ∧ w' = y) := HI
  clear hy hx hf HI hc
  go_wp2_with fail
  refine HIS.out.mono ?_
  rintro e y2 ⟨rfl, rfl⟩
  go_wp2_with fail
  refine Ql.region_cl (by kernel_rfl) (by kernel_rfl) ?_
  try dsimp only [Act.put]
  repeat (first | go_big_quiet_skip | (go_big_quiet_want; go_big_quiet_op; first | go_big_quiet_on | (refine ⟨_, fun _ _ => rfl, ?_⟩; go_big_quiet_on) | (refine ⟨_, fun _ _ => ⟨rfl, rfl⟩, ?_⟩; go_big_quiet_on)) | (refine wpQuiet_step (fun K hK => ?_); first
    | (refine Ql.q_cell (by rfl) 86 _ rfl w.heap.size 0 rfl _ c0 l0 (fun y => Tryd.isAgg86 y) (hK _ ?_); clear hK K; simp only [Act.put, List.setIfInBounds_toArray, List.set_cons_succ, List.set_cons_zero])
    | (refine Ql.q_cell (by rfl) 3 _ rfl g 0 rfl _ c1 hgl (fun y => Tryd.isAgg3 y) (hK _ ?_); clear hK K; simp only [Act.put, List.setIfInBounds_toArray, List.set_cons_succ, List.set_cons_zero])
    | (refine Ql.q_cell (by rfl) 43 _ rfl g 1 rfl _ c2 hgl (fun y => Tryd.isAgg43 y) (hK _ ?_); clear hK K; simp only [Act.put, List.setIfInBounds_toArray, List.set_cons_succ, List.set_cons_zero])
    | fail))
  refine wpQuiet_nil ?_
  intro y3 hy3
  have HY3 : Hid (Below w.heap.size w y3) := keepB HY.out hy3
  clear hy3
  go_wp2_with fail
  go_ret3
  exact ⟨rfl, HY3.out⟩
end Go.Proofs.YtabmpngliphdpaaDoor.Jg
