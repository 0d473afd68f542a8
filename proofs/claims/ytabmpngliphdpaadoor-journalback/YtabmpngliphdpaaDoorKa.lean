/- journal: New, keep, Len, Bytes; a cutter made. -/
import Derived.Test.YtabmpngliphdpaaDoorBj
import Derived.Test.YtabmpngliphdpaaDoorJy
import Derived.Test.YtabmpngliphdpaaDoorIc
namespace Go.Proofs.YtabmpngliphdpaaDoor.Ka
set_option linter.unusedVariables false
set_option linter.unusedSimpArgs false
open Go.RowKit Go.Conc Lib0 Kb Bj Jy Ju
attribute [local go_sem] Oper.semAt_some
theorem new_any (w : World) : Calls Tryd.prog 11 #[] w fun e w' => e = .returned (.pointer (some ⟨w.heap.size, 0, none⟩)) ∧ Jo w' w.heap.size w.heap.size (.pointer none) (.slice none 0 0) [] 0 ∧ Below w.heap.size w w' := by
  obtain ⟨W0, HW0⟩ : ∃ W, Hid (w.alloc (.cells #[.pointer none, .slice none 0 0, .int .i64 0] 83) = W) := ⟨_, rfl⟩
  have HX : Hid (Jo W0 w.heap.size w.heap.size (.pointer none) (.slice none 0 0) [] 0) := ⟨HW0.out ▸ h1_0 _ _, .inl rfl, World.ownsRowF_nil _ _ _ _, Nat.le_refl _, fun _ => rfl⟩
  have HB : Hid (Below w.heap.size w W0) := HW0.out ▸ below_one _ _
  go_enter Tryd.func11, Tryd.ntmps11
  go_wp2_with (first | (rw [HW0.out]) | fail)
  go_ret
  exact ⟨rfl, HX.out, HB.out⟩
theorem len_any {w : World} {B g : Nat} {p v : Value} {l : List UInt8} {n : Int} (h : Jo w B g p v l n) :
    Calls Tryd.prog 19 #[.pointer (some ⟨g, 0, none⟩)] w fun e w' => e = .returned (.int .i64 n) ∧ w' = w := by
  have hr := h.row
  have c2 : w.cell? ⟨g, 2, none⟩ = some (.int .i64 n) := by simp [World.cell?, hr]
  clear h hr
  go_enter Tryd.func19, Tryd.ntmps19
  go_wp2
  go_ret
  exact ⟨rfl, rfl⟩
theorem Jo.count {w : World} {B g : Nat} {p v : Value} {l : List UInt8} {n : Int} (h : Jo w B g p v l n) (m : Int) : Jo (w.setCell ⟨g, 2, none⟩ (.int .i64 m)) B g p v l m ∧ Fj g v w (w.setCell ⟨g, 2, none⟩ (.int .i64 m)) :=
  ⟨⟨Jg.setCell_heap h.row 2 _, h.addr, ownF_keep h.own fun q hq => Bd.scne (fun e => h.ne (by rw [hq, e])) _ _, h.base, h.empty⟩, Fj.of_set _ _ _ _ _⟩
theorem keep_any {w : World} {B g : Nat} {p v : Value} {l : List UInt8} {n : Int} (h : Jo w B g p v l n) (s : ByteArray) (h0 : s.data.toList ≠ []) (hl : l.length + s.size ≤ 140737488355328) (hn : 0 ≤ n ∧ n ≤ 140737488355328) :
    Calls Tryd.prog 36 #[.pointer (some ⟨g, 0, none⟩), .string s] w fun e w' => e = .returned (.tuple #[]) ∧ ∃ v', Jo w' B g (.pointer (some ⟨g, 0, none⟩)) v' (l ++ s.data.toList) (n + 1) ∧ Fj g v w w' ∧ Nw w v v' := by
  have gl := h.lt
  have HJ : Hid (Jo w B g p v l n) := h
  have H0 : Hid (s.data.toList ≠ [] ∧ l.length + s.size ≤ 140737488355328) := ⟨h0, hl⟩
  obtain ⟨hn0, hn1⟩ := hn
  clear h h0 hl
  go_enter Tryd.func36, Tryd.ntmps36
  go_wp2_with fail
  refine (jwrite_any HJ.out s H0.out.1 H0.out.2).mono ?_
  rintro e y ⟨rfl, v', hJ, hF, hN⟩
  have hr := hJ.row
  have c2 : y.cell? ⟨g, 2, none⟩ = some (.int .i64 n) := by simp [World.cell?, hr]
  have f2 : y.frozen? ⟨g, 2, none⟩ = false := by simp [World.frozen?, hr]
  have gl2 := hJ.lt
  have hc := Jo.count hJ (n + 1)
  have HR : Hid (∃ v', Jo (y.setCell ⟨g, 2, none⟩ (.int .i64 (n + 1))) B g (.pointer (some ⟨g, 0, none⟩)) v' (l ++ s.data.toList) (n + 1) ∧ Fj g v w (y.setCell ⟨g, 2, none⟩ (.int .i64 (n + 1))) ∧ Nw w v v') := ⟨v', hc.1, hF.trans hN hc.2, hN⟩
  clear hJ hF hN hr hc
  go_wp2_with fail
  go_end0
  exact ⟨rfl, HR.out⟩
/-- the bytes of any journal -/
theorem string_none {w : World} {B g : Nat} {p v : Value} {n : Int} (h : Jo w B g p v [] n) :
    Calls Tryd.prog 43 #[.pointer (some ⟨g, 0, none⟩)] w fun e w' => e = .returned (.string ⟨#[]⟩) ∧ Jo w' B g p v [] n ∧ Fj g v w w' := by
  obtain rfl := h.empty rfl
  have hbk := h.row
  have c1 : w.drew.cell? ⟨g, 1, none⟩ = some (.slice none 0 0) := by
    have : w.drew.heap[g]? = some (.cells #[p, .slice none 0 0, .int .i64 n] tJo (0, 0)) := hbk
    simp [World.cell?, this]
  have hSD : (Builtin.unsafeSliceData_ #[75] 132 #[.slice none 0 0]).run Tryd.prog w.drew = .ok (.pointer none) w.drew := rfl
  have hUS : ∀ (q : Option Addr) (W : World), (Builtin.unsafeString_ #[132, 3] 9 #[.pointer q, .int .i64 0]).run Tryd.prog W = .ok (.string .empty) W := fun q W => Lib.run_unsafeString_none W _ _ _ q
  have HF : Hid (Jo w.drew B g p (.slice none 0 0) [] n ∧ Fj g (.slice none 0 0) w w.drew) := ⟨⟨h.row, h.addr, h.own, h.base, h.empty⟩, Fj.of_below (Below.refl _ _).drew⟩
  clear h hbk
  go_enter Tryd.func43, Tryd.ntmps43
  go_wp2
  go_region
  all_goals (go_wp2; go_ret; exact ⟨rfl, HF.out⟩)
theorem jstring_any {w : World} {B g : Nat} {p v : Value} {l : List UInt8} {n : Int} (h : Jo w B g p v l n) :
    Calls Tryd.prog 43 #[.pointer (some ⟨g, 0, none⟩)] w fun e w' => e = .returned (.string ⟨l.toArray⟩) ∧ Jo w' B g p v l n ∧ Fj g v w w' := by
  cases l with
  | nil => exact string_none h
  | cons x t => exact jstring_some h (by simp)
theorem mkR (w : World) : (Instr.makeChan 136 (.int .i64 1)).run Tryd.prog w = .ok (.chan (some w.heap.size)) (w.alloc (.chan 1 #[] false 0 0 false)) := by
  obtain ⟨i, hi, hb⟩ : ∃ i, Tryd.prog.info? 107 = some i ∧ i.bytes = 88 := by
    have h : (Tryd.prog.info? 107).map (·.bytes) = some 88 := by kernel_rfl
    obtain ⟨j, hj, hs⟩ := Option.map_eq_some_iff.1 h
    exact ⟨j, hj, hs⟩
  exact run_makeChan Tryd.underlying136 hi .i64 1 (by omega) (by rw [hb]; decide)
theorem mkE (w : World) : (Instr.makeChan 137 (.int .i64 1)).run Tryd.prog w = .ok (.chan (some w.heap.size)) (w.alloc (.chan 1 #[] false 0 0 false)) := by
  obtain ⟨i, hi, hb⟩ : ∃ i, Tryd.prog.info? 47 = some i ∧ i.bytes = 16 := by
    have h : (Tryd.prog.info? 47).map (·.bytes) = some 16 := by kernel_rfl
    obtain ⟨j, hj, hs⟩ := Option.map_eq_some_iff.1 h
    exact ⟨j, hj, hs⟩
  exact run_makeChan Tryd.underlying137 hi .i64 1 (by omega) (by rw [hb]; decide)
theorem cut_new (w : World) (s : ByteArray) (r e : Nat) (h : r = w.heap.size ∧ e = w.heap.size + 1 ∨ r = w.heap.size + 1 ∧ e = w.heap.size) {W : World}
    (hW : (((w.alloc (.chan 1 #[] false 0 0 false)).alloc (.chan 1 #[] false 0 0 false)).alloc (.cells #[.string s, .int .i64 0, .int .i64 0, .chan (some r), .chan (some e)] 139)).drew = W) :
    Cu W (w.heap.size + 1 + 1) s 0 0 r e ∧ w.heap.size ≤ w.heap.size + 1 + 1 ∧ w.heap.size ≤ r ∧ w.heap.size ≤ e ∧ Below w.heap.size w W := by
  have e0 : W.heap[w.heap.size]? = some (.chan 1 #[] false 0 0 false) := by
    rw [← hW]
    show (((w.alloc _).alloc _).alloc _).heap[_]? = _
    rw [Lib.alloc_old _ _ _ (by simp only [World.alloc, Array.size_push]; omega), Lib.alloc_old _ _ _ (by simp only [World.alloc, Array.size_push]; omega)]
    exact heap_alloc_new w _
  have e1 : W.heap[w.heap.size + 1]? = some (.chan 1 #[] false 0 0 false) := by
    rw [← hW]
    show (((w.alloc _).alloc _).alloc _).heap[_]? = _
    rw [Lib.alloc_old _ _ _ (by simp only [World.alloc, Array.size_push]; omega)]
    have := heap_alloc_new (w.alloc (.chan 1 #[] false 0 0 false)) (.chan 1 #[] false 0 0 false)
    simpa using this
  have e2 : W.heap[w.heap.size + 1 + 1]? = some (.cells #[.string s, .int .i64 0, .int .i64 0, .chan (some r), .chan (some e)] 139 (0, 0)) := by
    rw [← hW]
    show (((w.alloc _).alloc _).alloc _).heap[_]? = _
    have := heap_alloc_new ((w.alloc (.chan 1 #[] false 0 0 false)).alloc (.chan 1 #[] false 0 0 false)) (.cells #[.string s, .int .i64 0, .int .i64 0, .chan (some r), .chan (some e)] 139)
    simpa using this
  have hb : Below w.heap.size w W := hW ▸ (keepB (keepB (below_one w _) (below_one _ _)) (below_one _ _)).drew
  refine ⟨⟨e2, ?_, ?_, by omega⟩, by omega, by omega, by omega, hb⟩
  · rcases h with ⟨rfl, _⟩ | ⟨rfl, _⟩
    · exact ⟨0, e0⟩
    · exact ⟨0, e1⟩
  · rcases h with ⟨_, rfl⟩ | ⟨_, rfl⟩
    · exact ⟨0, e1⟩
    · exact ⟨0, e0⟩
theorem cutterOf_any (s : ByteArray) (w : World) : Calls Tryd.prog 46 #[.string s] w fun e w' => ∃ g rc ec, e = .returned (.pointer (some ⟨g, 0, none⟩)) ∧ Cu w' g s 0 0 rc ec ∧ w.heap.size ≤ g ∧ w.heap.size ≤ rc ∧ w.heap.size ≤ ec ∧ Below w.heap.size w w' := by
  go_enter Tryd.func46, Tryd.ntmps46
  go_wp2_with fail
  have hR := mkR
  have hE := mkE
  go_region
  · have HF := cut_new w s _ _ (.inl ⟨rfl, rfl⟩) rfl
    go_wp2
    go_ret
    exact ⟨_, _, _, rfl, HF⟩
  · have HF := cut_new w s _ _ (.inr ⟨rfl, rfl⟩) rfl
    go_wp2
    go_ret
    exact ⟨_, _, _, rfl, HF⟩
theorem Jo.fit {w : World} {B g : Nat} {p v : Value} {l : List UInt8} {n : Int} (h : Jo w B g p v l n) : l.length ≤ maxLen := by
  rcases h.own.2 with ⟨_, h0⟩ | ⟨q, cap, cur, fz, _, _, _, _, h1, h2, _⟩
  · omega
  · omega
theorem bytes_any {w : World} {B g : Nat} {p v : Value} {l : List UInt8} {n : Int} (h : Jo w B g p v l n) (hl : l.length ≤ 281474976710656) :
    Calls Tryd.prog 22 #[.pointer (some ⟨g, 0, none⟩)] w fun e w' => e = .returned (.string ⟨l.toArray⟩) ∧ Jo w' B g p v l n ∧ Fj g v w w' := by
  have gl := h.lt
  have HJ : Hid (Jo w B g p v l n) := h
  have HL : Hid (l.length ≤ 281474976710656) := hl
  clear h hl
  go_enter Tryd.func22, Tryd.ntmps22
  go_wp2_with fail
  refine (jstring_any HJ.out).mono ?_
  rintro e y ⟨rfl, hJ, hF⟩
  have H2 : Hid (Jo y B g p v l n ∧ Fj g v w y) := ⟨hJ, hF⟩
  clear hJ hF
  go_wp2_with fail
  refine (Ic.clone_any ⟨l.toArray⟩ y (by rw [string_size]; exact HL.out)).mono ?_
  rintro e z ⟨rfl, hz⟩
  have H3 : Hid (Jo z B g p v l n ∧ Fj g v w z) := ⟨Bj.Jo.below H2.out.1 hz, H2.out.2.trans (Nw.refl _ _) (Fj.of_below hz)⟩
  clear hz
  go_wp2_with fail
  go_ret
  exact ⟨rfl, H3.out⟩
end Go.Proofs.YtabmpngliphdpaaDoor.Ka
