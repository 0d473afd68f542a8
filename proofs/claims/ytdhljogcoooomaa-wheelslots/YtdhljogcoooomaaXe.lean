/- The chapter's example. -/
import Derived.Test.YtdhljogcoooomaaTs
namespace Go.Proofs.Ytdhljogcoooomaa.Xe
set_option linter.unusedVariables false
set_option linter.unusedSimpArgs false
open Go.RowKit Go.Maps Lib0 Kb Xp Is Ds Es Fs Gs Hs Ks Js Ms Ts
attribute [local go_sem] Oper.semAt_some
def vA : Value := .string ⟨#[97]⟩
def vB : Value := .string ⟨#[98]⟩
def vC : Value := .string ⟨#[99]⟩
set_option maxRecDepth 100000 in
set_option maxHeartbeats 1600000 in
theorem examples_any (w : World) : Calls Try.prog 7 #[] w fun e w' => e = .returned (.bool true) ∧ Below w.heap.size w w' := by
  have hnew := new_yes 2 w (by decide) (by decide)
  go_enter Try.func7, Try.ntmps7
  go_wp2_with fail
  refine hnew.mono ?_
  rintro e w1 ⟨b, rfl, B, hW, hb, hB⟩
  have O1 : Hid (Ok 2 [] 0 0) := Ts.Ok.new (by decide) (by decide)
  have F1 : Hid (Fsh w w1 b 2 [] 0 0) := ⟨B, hW, hb, hB⟩
  clear hnew hW hb hB
  go_wp2_with fail
  obtain ⟨B1, hW1, hb1, hB1⟩ := F1.out
  refine (add_yes w1 b B1 2 [] 0 0 3 vA hW1 O1.out rfl (by decide) (by decide) (by decide)).mono ?_
  rintro e w2 ⟨rfl, ht⟩
  have O2 : Hid (Ok 2 [(1, 3, vA)] 0 1) := Hs.Ok.add (t := 3) O1.out rfl (by decide) (by decide) (by decide)
  have F2 : Hid (Fsh w w2 b 2 [(1, 3, vA)] 0 1) := Ts.Trn.fresh ht hb1 hB1
  clear hW1 hb1 hB1 F1 O1 ht
  go_wp2_with fail
  obtain ⟨B1, hW1, hb1, hB1⟩ := F2.out
  refine (add_yes w2 b B1 2 _ 0 1 1 vB hW1 O2.out rfl (by decide) (by decide) (by decide)).mono ?_
  rintro e w3 ⟨rfl, ht⟩
  have O3 : Hid (Ok 2 [(1, 3, vA), (2, 1, vB)] 0 2) := Hs.Ok.add (t := 1) O2.out rfl (by decide) (by decide) (by decide)
  have F3 : Hid (Fsh w w3 b 2 [(1, 3, vA), (2, 1, vB)] 0 2) := Ts.Trn.fresh ht hb1 hB1
  clear hW1 hb1 hB1 F2 O2 ht
  go_wp2_with fail
  obtain ⟨B1, hW1, hb1, hB1⟩ := F3.out
  refine (add_yes w3 b B1 2 _ 0 2 3 vC hW1 O3.out rfl (by decide) (by decide) (by decide)).mono ?_
  rintro e w4 ⟨rfl, ht⟩
  have O4 : Hid (Ok 2 [(1, 3, vA), (2, 1, vB), (3, 3, vC)] 0 3) := Hs.Ok.add (t := 3) O3.out rfl (by decide) (by decide) (by decide)
  have F4 : Hid (Fsh w w4 b 2 [(1, 3, vA), (2, 1, vB), (3, 3, vC)] 0 3) := Ts.Trn.fresh ht hb1 hB1
  clear hW1 hb1 hB1 F3 O3 ht
  go_wp2_with fail
  refine (add_no w4 b 0 (.string ⟨#[120]⟩) (.inl (by decide))).mono ?_
  rintro e w4' ⟨rfl, rfl⟩
  go_wp2_with fail
  obtain ⟨B1, hW1, hb1, hB1⟩ := F4.out
  refine (tick_any _ b B1 2 _ 0 3 hW1 O4.out (by decide) (by decide)).mono ?_
  rintro e w5 ⟨v, rfl, ho, ht⟩
  have O5 : Hid (Ok 2 [(1, 3, vA), (3, 3, vC)] 1 3) := Ts.Ok.tick O4.out (by decide)
  have F5 : Hid (Fsh w w5 b 2 [(1, 3, vA), (3, 3, vC)] 1 3) := Ts.Trn.fresh ht hb1 hB1
  replace ho : w5.ownsRow _ tT 1 v 1 [vB] := ho
  obtain ⟨gg, cap, rfl, -, -⟩ := ho.form (by decide)
  have e1 : w5.cell? ⟨gg, 0, none⟩ = some (.string ⟨#[98]⟩) := by
    have := ho.cells (g := gg) rfl 0 vB rfl
    rwa [add_zero] at this
  clear hW1 hb1 hB1 F4 O4 ht ho
  go_wp2_with fail
  obtain ⟨B1, hW1, hb1, hB1⟩ := F5.out
  refine (left_any w5 b B1 2 _ 1 3 1 hW1 O5.out (by decide)).mono ?_
  rintro e w5' ⟨rfl, rfl⟩
  rw [show lfN [(1, 3, vA), (3, 3, vC)] 1 1 = 2 by decide, show lfE [(1, 3, vA), (3, 3, vC)] 1 = 0 by decide]
  have hlen := len_any w5' b B1 2 _ 1 3 hW1
  have hnow := now_any w5' b B1 2 _ 1 3 hW1
  have HB5 : Hid (Below w.heap.size w w5') := hb1
  clear hW1 hb1 hB1 F5 O5
  go_wp2_with (first | (go_at_call 36; refine hlen.mono ?_; rintro e w6 ⟨rfl, rfl⟩; simp only [List.length_cons, List.length_nil]) | (go_at_call 37; refine hnow.mono ?_; rintro e w6 ⟨rfl, rfl⟩) | fail)
  go_ret
  exact ⟨rfl, HB5.out⟩
end Go.Proofs.Ytdhljogcoooomaa.Xe
