/- the chapter's examples, with which each law of stage 23 begins; JournalSums, JournalTakes. -/
import Derived.Test.YtabmpngliphdpaaDoorKf
import Derived.Test.YtabmpngliphdpaaDoorKc
import Derived.Test.YtabmpngliphdpaaDoorJc
namespace Go.Proofs.YtabmpngliphdpaaDoor.Kg
set_option linter.unusedVariables false
set_option linter.unusedSimpArgs false
open Go.RowKit Go.Conc Lib0 Kb Ja Jb Jg Bj Ka Kd Ke Kf Jx Kc
attribute [local go_sem] Oper.semAt_some
def x0 : En := ⟨2, 0, 3, ⟨#[]⟩, []⟩
def S17 : List UInt8 := [0, 0, 0, 1, 0, 0, 0, 5, 4, 0, 6, 0, 0, 65, 118, 102, 125]
theorem f_rec : (recB (0 + 1) x0.body).data.toList = S17 := by decide +kernel
theorem f_len : x0.body.size ≤ 10000000 := by decide +kernel
theorem f_ends : ends (S17 ++ S17) = (17, 1) := by decide +kernel
theorem f_sum : sumN (⟨#[49, 50, 51, 52, 53, 54, 55, 56, 57]⟩ : ByteArray).data.toList = 3421780262 := by decide +kernel
theorem x0_ok : x0.ok := by
  refine ⟨⟨?_, ?_, ?_, ?_⟩, ?_, ?_⟩
  · show i64in 2; unfold i64in; decide
  · show i64in 0; unfold i64in; decide
  · show i64in 3; unfold i64in; decide
  · decide
  · intro y hy; cases hy
  · decide
/-- what the laws lean on: the laid variables -/
structure Lv (w : World) : Prop where
  hal : Hal w
  hdl : Hdl w
  err : ∃ a : Addr, w.cell? ⟨1, 0, none⟩ = some (.iface 173 (.pointer (some a)))
theorem Lv.next {w y : World} (h : Lv w) (k : Below w.heap.size w y) : Lv y :=
  ⟨Jr.hal_next h.hal k, h.hdl.next k, let ⟨a, ha⟩ := h.err; ⟨a, (k.cell (World.block_lt_of_cell? _ _ ha)).trans ha⟩⟩
set_option maxRecDepth 100000 in
set_option maxHeartbeats 1600000 in
theorem examples_any (w : World) (h : Lv w) : Calls Tryd.prog 8 #[] w fun e w' => e = .returned (.bool true) ∧ Below w.heap.size w w' := by
  have HL : Hid (Lv w) := h
  clear h
  go_enter Tryd.func8, Tryd.ntmps8
  go_wp2_with fail
  refine (new_any w).mono ?_
  rintro e y0 ⟨rfl, hj0, hb0⟩
  obtain ⟨J, hJ⟩ : ∃ J, w.heap.size = J := ⟨_, rfl⟩
  have HJ0 : Hid (Jo y0 w.heap.size J (.pointer none) (.slice none 0 0) [] ((0 : Nat) : Int)) := hJ ▸ hj0
  have HB0 : Hid (Below w.heap.size w y0) := hb0
  have HJJ : Hid (w.heap.size = J) := hJ
  rw [hJ]
  have HAPP : Hid (Calls _ _ _ _ _) := append_any HJ0.out (HL.out.next HB0.out).hal x0 (.slice none 0 0) (rowo_nil _) x0_ok (by simp) (by omega)
  clear hj0 hb0 hJ
  go_wp2_with fail
  refine HAPP.out.mono ?_
  rintro e y1 ⟨-, h1⟩
  obtain ⟨rfl, v1, hj1, hf1, hn1⟩ := h1 f_len
  rw [f_rec, List.nil_append] at hj1
  have HB1 : Hid (Below w.heap.size w y1) := HB0.out.trans (hf1.below HJ0.out.base (fun q hq => by cases hq) HB0.out.size)
  have HBY : Hid (Calls _ _ _ _ _) := bytes_any hj1 (by decide)
  have hlow : ∀ q, v1.ownBlock = some q → w.heap.size ≤ q := fun q hq => (hj1.own.lt q hq).1
  have HJ1 : Hid (Jo y1 w.heap.size J (.pointer (some ⟨J, 0, none⟩)) v1 S17 ((0 + 1 : Nat) : Int) ∧ ∀ q, v1.ownBlock = some q → w.heap.size ≤ q) := ⟨hj1, hlow⟩
  clear h1 hj1 hf1 hn1 hlow
  go_wp2_with fail
  refine HBY.out.mono ?_
  rintro e y2 ⟨rfl, hj2, hf2⟩
  have HB2 : Hid (Below w.heap.size w y2) := HB1.out.trans (hf2.below HJ1.out.1.base HJ1.out.2 HB1.out.size)
  clear hj2 hf2
  obtain ⟨T, hT⟩ : ∃ T, (⟨S17.toArray⟩ : ByteArray) = T := ⟨_, rfl⟩
  have t0 : (T.size : Int) = 17 := by rw [← hT]; rfl
  have t1 : T.extract 0 13 = ⟨#[0, 0, 0, 1, 0, 0, 0, 5, 4, 0, 6, 0, 0]⟩ := by rw [← hT]; decide +kernel
  have t1b : ((T.extract 0 13).toList == [0, 0, 0, 1, 0, 0, 0, 5, 4, 0, 6, 0, 0]) = true := by rw [← hT]; decide +kernel
  have t2 : (T ++ T).data.toList = S17 ++ S17 := by rw [← hT]; decide +kernel
  obtain ⟨TT, hTT⟩ : ∃ TT, T ++ T = TT := ⟨_, rfl⟩
  rw [hTT] at t2
  have HTT : Hid (T ++ T = TT) := hTT
  have HT1 : Hid (T.extract 0 13 = ⟨#[0, 0, 0, 1, 0, 0, 0, 5, 4, 0, 6, 0, 0]⟩) := t1
  have HT2 : Hid (TT.data.toList = S17 ++ S17) := t2
  have HSUM : Hid (Calls _ _ _ _ _) := sum_any ⟨#[49, 50, 51, 52, 53, 54, 55, 56, 57]⟩ y2 (by decide) (HL.out.next HB2.out).hal
  rw [hT]
  clear hT hTT t1 t2
  go_wp2_with fail
  refine HSUM.out.mono ?_
  rintro e y3 ⟨rfl, rfl⟩
  rw [f_sum]
  obtain ⟨a, ha⟩ := (HL.out.next HB2.out).err
  have hts : TT.size = 34 := by rw [Jn.size_list, HT2.out]; rfl
  have HOP : Hid (Calls _ _ _ _ _) := open_any TT (by rw [hts]; decide) y3 (HL.out.next HB2.out).hal (HL.out.next HB2.out).hdl ha
  have HTS : Hid (TT.size = 34) := hts
  have p1 : (T.size : Int) + (T.size : Int) ≤ 9223372036854775807 := by omega
  clear ha hts
  go_wp2_with (first | (rw [HTT.out]) | fail)
  refine HOP.out.mono ?_
  rintro e y4 ⟨J4, p4, v4, er, rfl, hj4, hn4, hb4, hlo4⟩
  rw [HT2.out, f_ends] at hj4 hn4 hb4 ⊢
  obtain ⟨q, rfl, hq, hft⟩ := hb4 (by rw [HTS.out]; decide)
  have HB4 : Hid (Below w.heap.size w y4) := HB2.out.trans (hlo4.mono HB2.out.size)
  have HJ4 : Hid (∃ B, Jo y4 B J4 p4 v4 ((S17 ++ S17).take 17) (1 : Int)) := ⟨_, hj4⟩
  have HFL : Hid (Calls _ _ _ _ _) := fault_hit q 17 230 (by decide) y4 (HL.out.next HB4.out).hdl hft
  clear hj4 hn4 hb4 hlo4 hq hft
  go_wp2_with fail
  refine HFL.out.mono ?_
  rintro e y5 ⟨rfl, hb5⟩
  obtain ⟨B4, hj4⟩ := HJ4.out
  have HLN : Hid (Calls _ _ _ _ _) := len_any (hj4.below hb5)
  have HB5 : Hid (Below w.heap.size w y5) := HB4.out.trans (hb5.mono HB4.out.size)
  clear hj4 hb5
  go_wp2_with fail
  refine HLN.out.mono ?_
  rintro e y6 ⟨rfl, rfl⟩
  go_wp2_with fail
  go_ret
  exact ⟨rfl, HB5.out⟩
end Go.Proofs.YtabmpngliphdpaaDoor.Kg
