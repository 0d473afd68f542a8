/- stop; Answer. -/
import Derived.Test.YtgchdjjafgkcbaaPq
namespace Go.Proofs.Ytgchdjjafgkcbaa.Pv
set_option linter.unusedVariables false
set_option linter.unusedSimpArgs false
open Go.RowKit Go.Maps Lib0 Kb Xp Za Ze Ih Fh Hh Pa Pb Pc Pe Pf Pg
attribute [local go_sem] Oper.semAt_some
attribute [local irreducible] Pb.nl Pb.kl
section
variable {w : World} {base b wb rb kb hb : Nat} {Bw Br : Nat → Prop} {ck ch : Nat} {Dk Dh : DataW Value} {C : Cf} {old : Int} {XW XR : LT} {nw nr lw lr : Int}
set_option maxRecDepth 100000 in
set_option maxHeartbeats 1600000 in
theorem stop_wait (h : Tm w base b wb rb kb hb Bw Br ck ch Dk Dh C old XW XR nw nr lw lr) (ok : Ok 256 XW nw lw) {g : Nat} {r : Rq} {t : Int} (hd : Hd w base g r t false) (hw : (Lit.int .i64 t).wf = true) {x : XT} (hk : lkG XW t = some x) :
    Calls Try.prog 27 #[.pointer (some ⟨b, 0, none⟩), .pointer (some ⟨g, 0, none⟩)] w fun e w' => e = .returned (.tuple #[]) ∧ (∃ Bw', Tm w' base b wb rb kb hb Bw' Br ck ch Dk Dh C old (XW.filter fun y => !(y.1 == t)) XR nw nr lw lr) ∧ Kx w w' ∧ Below base w w' := by
  have HDR : Hid (Below w.heap.size w w.drew) := (Below.refl _ w).drew
  have HT : Hid (Tm w.drew base b wb rb kb hb Bw Br ck ch Dk Dh C old XW XR nw nr lw lr) := h.below HDR.out
  have HBS : Hid (base ≤ w.heap.size) := h.base_
  have HCA : Hid (Calls Try.prog 38 #[.pointer (some ⟨wb, 0, none⟩), .int .i64 t] w.drew fun e w' => e = .returned (.tuple #[x.2.2, .int .i64 0]) ∧ Trn w.drew wb Bw 256 (XW.filter fun y => !(y.1 == t)) nw lw w') := Ch.cancel_yes w.drew wb Bw 256 XW nw lw t x HT.out.ww ok ok.last1 hw hk
  have HE : Hid (∀ y, Trn w.drew wb Bw 256 (XW.filter fun y => !(y.1 == t)) nw lw y → ((∃ Bw', Tm y base b wb rb kb hb Bw' Br ck ch Dk Dh C old (XW.filter fun y => !(y.1 == t)) XR nw nr lw lr) ∧ Kx w y ∧ Below base w y)) := fun y hy => by
    obtain ⟨a1, a2, a3⟩ := HT.out.wait hy
    exact ⟨a1, (Kx.of HDR.out).trans a2, (HDR.out.mono HBS.out).trans a3⟩
  obtain ⟨c0, c1, -⟩ := h.cells
  obtain ⟨d0, d1, -⟩ := HT.out.cells
  obtain ⟨e1, e2, -⟩ := hd_cells hd
  obtain ⟨f1, f2, -⟩ := hd_cells (hd.keep (Kx.of HDR.out))
  clear h ok hd hw hk
  obtain ⟨xa, xb, xc⟩ := x
  dsimp only at HCA
  go_enter Try.func27, Try.ntmps27
  go_wp2_with fail
  go_region_with ((go_at_call 38; refine HCA.out.mono ?_; rintro e x ⟨rfl, hbx⟩; have HX := HE.out x hbx; have HX2 : Hid ((∃ Bw', Tm x base b wb rb kb hb Bw' Br ck ch Dk Dh C old (XW.filter fun y => !(y.1 == t)) XR nw nr lw lr) ∧ Kx w x ∧ Below base w x) := HX; clear HX hbx))
  all_goals (go_wp2_with fail)
  all_goals go_end0
  all_goals exact ⟨rfl, HX2.out⟩
set_option maxRecDepth 100000 in
set_option maxHeartbeats 1600000 in
theorem stop_late (h : Tm w base b wb rb kb hb Bw Br ck ch Dk Dh C old XW XR nw nr lw lr) (ok : Ok 256 XR nr lr) {g : Nat} {r : Rq} {t : Int} (hd : Hd w base g r t true) (hw : (Lit.int .i64 t).wf = true) {x : XT} (hk : lkG XR t = some x) :
    Calls Try.prog 27 #[.pointer (some ⟨b, 0, none⟩), .pointer (some ⟨g, 0, none⟩)] w fun e w' => e = .returned (.tuple #[]) ∧ (∃ Br', Tm w' base b wb rb kb hb Bw Br' ck ch Dk Dh C old XW (XR.filter fun y => !(y.1 == t)) nw nr lw lr) ∧ Kx w w' ∧ Below base w w' := by
  have HDR : Hid (Below w.heap.size w w.drew) := (Below.refl _ w).drew
  have HT : Hid (Tm w.drew base b wb rb kb hb Bw Br ck ch Dk Dh C old XW XR nw nr lw lr) := h.below HDR.out
  have HBS : Hid (base ≤ w.heap.size) := h.base_
  have HCA : Hid (Calls Try.prog 38 #[.pointer (some ⟨rb, 0, none⟩), .int .i64 t] w.drew fun e w' => e = .returned (.tuple #[x.2.2, .int .i64 0]) ∧ Trn w.drew rb Br 256 (XR.filter fun y => !(y.1 == t)) nr lr w') := Ch.cancel_yes w.drew rb Br 256 XR nr lr t x HT.out.wr ok ok.last1 hw hk
  have HE : Hid (∀ y, Trn w.drew rb Br 256 (XR.filter fun y => !(y.1 == t)) nr lr y → ((∃ Br', Tm y base b wb rb kb hb Bw Br' ck ch Dk Dh C old XW (XR.filter fun y => !(y.1 == t)) nw nr lw lr) ∧ Kx w y ∧ Below base w y)) := fun y hy => by
    obtain ⟨a1, a2, a3⟩ := HT.out.rem hy
    exact ⟨a1, (Kx.of HDR.out).trans a2, (HDR.out.mono HBS.out).trans a3⟩
  obtain ⟨c0, c1, -⟩ := h.cells
  obtain ⟨d0, d1, -⟩ := HT.out.cells
  obtain ⟨e1, e2, -⟩ := hd_cells hd
  obtain ⟨f1, f2, -⟩ := hd_cells (hd.keep (Kx.of HDR.out))
  clear h ok hd hw hk
  obtain ⟨xa, xb, xc⟩ := x
  dsimp only at HCA
  go_enter Try.func27, Try.ntmps27
  go_wp2_with fail
  go_region_with ((go_at_call 38; refine HCA.out.mono ?_; rintro e x ⟨rfl, hbx⟩; have HX := HE.out x hbx; have HX2 : Hid ((∃ Br', Tm x base b wb rb kb hb Bw Br' ck ch Dk Dh C old XW (XR.filter fun y => !(y.1 == t)) nw nr lw lr) ∧ Kx w x ∧ Below base w x) := HX; clear HX hbx))
  all_goals (go_wp2_with fail)
  all_goals go_end0
  all_goals exact ⟨rfl, HX2.out⟩
end
end Go.Proofs.Ytgchdjjafgkcbaa.Pv
