/- wait, remember: a held request's timer. -/
import Derived.Test.YtgchdjjafgkcbaaPd
namespace Go.Proofs.Ytgchdjjafgkcbaa.Pe
set_option linter.unusedVariables false
set_option linter.unusedSimpArgs false
open Go.RowKit Go.Maps Lib0 Kb Xp Za Ze Ih Fh Hh Pa Pb Pc
attribute [local go_sem] Oper.semAt_some
/-- the other held requests stay -/
def Ko (base g : Nat) (w w' : World) : Prop := ∀ k r t l, k ≠ g → Hd w base k r t l → Hd w' base k r t l
theorem Ko.refl (base g : Nat) (w : World) : Ko base g w w := fun _ _ _ _ _ h => h
theorem Ko.of {base g : Nat} {w x : World} (h : Kx w x) : Ko base g w x := fun _ _ _ _ _ hd => hd.keep h
theorem Ko.trans {base g : Nat} {w x y : World} (h : Ko base g w x) (k : Ko base g x y) : Ko base g w y := fun a r t l hne hd => k a r t l hne (h a r t l hne hd)
theorem Ko.set {base g o : Nat} {w : World} {c : Array Value} (hg : w.heap[g]? = some (.cells c tH (0, 0))) (v : Value) : Ko base g w (w.setCell ⟨g, o, none⟩ v) := fun k r t l hne hd => hd.other hg (fun e => hne e.symm) v
theorem hd_blk {w : World} {base g : Nat} {r : Rq} {t : Int} {l : Bool} (h : Hd w base g r t l) : ∃ c, w.heap[g]? = some (.cells c tH (0, 0)) := by
  obtain ⟨-, v1, v2, h1, -⟩ := h
  exact ⟨_, h1⟩
theorem hd_cells {w : World} {base g : Nat} {r : Rq} {t : Int} {l : Bool} (h : Hd w base g r t l) : w.cell? ⟨g, 12, none⟩ = some (.int .i64 t) ∧ w.cell? ⟨g, 13, none⟩ = some (.bool l) ∧ w.frozen? ⟨g, 12, none⟩ = false ∧ w.frozen? ⟨g, 13, none⟩ = false := by
  obtain ⟨-, v1, v2, h1, -⟩ := h
  unfold hcs at h1
  refine ⟨?_, ?_, ?_, ?_⟩ <;> simp [World.cell?, World.frozen?, h1]
theorem hd_timer {w : World} {base g : Nat} {r : Rq} {t : Int} {l : Bool} (h : Hd w base g r t l) (t' : Int) : Hd (w.setCell ⟨g, 12, none⟩ (.int .i64 t')) base g r t' l := by
  obtain ⟨h0, v1, v2, h1, h2, h3⟩ := h
  have kt := Kt.set (Kt.refl w) h1 (o := 12) (.int .i64 t')
  exact ⟨h0, v1, v2, by rw [setCell_heap h1]; rfl, kt.row h2, kt.row h3⟩
theorem hd_late {w : World} {base g : Nat} {r : Rq} {t : Int} {l : Bool} (h : Hd w base g r t l) (l' : Bool) : Hd (w.setCell ⟨g, 13, none⟩ (.bool l')) base g r t l' := by
  obtain ⟨h0, v1, v2, h1, h2, h3⟩ := h
  have kt := Kt.set (Kt.refl w) h1 (o := 13) (.bool l')
  exact ⟨h0, v1, v2, by rw [setCell_heap h1]; rfl, kt.row h2, kt.row h3⟩
theorem below_set {base g o : Nat} {w x : World} (h : Below base w x) (hg : base ≤ g) (v : Value) : Below base w (x.setCell ⟨g, o, none⟩ v) := h.setCell hg v
section
variable {w : World} {base b wb rb kb hb : Nat} {Bw Br : Nat → Prop} {ck ch : Nat} {Dk Dh : DataW Value} {C : Cf} {old : Int} {XW XR : LT} {nw nr lw lr : Int}
set_option maxRecDepth 100000 in
set_option maxHeartbeats 1600000 in
theorem wait_any (h : Tm w base b wb rb kb hb Bw Br ck ch Dk Dh C old XW XR nw nr lw lr) (co : Co C) (ok : Ok 256 XW nw lw) (hl : lw + 1 ≤ 5864062014805) {g : Nat} {r : Rq} {t0 : Int} {l0 : Bool} (hd : Hd w base g r t0 l0) :
    Calls Try.prog 26 #[.pointer (some ⟨b, 0, none⟩), .pointer (some ⟨g, 0, none⟩)] w fun e w' => e = .returned (.tuple #[]) ∧ (∃ Bw', Tm w' base b wb rb kb hb Bw' Br ck ch Dk Dh C old (XW ++ [(lw + 1, nw + C.timeout, .pointer (some ⟨g, 0, none⟩))]) XR nw nr (lw + 1) lr) ∧ Hd w' base g r (lw + 1) l0 ∧ Kt w w' ∧ Ko base g w w' ∧ Below base w w' := by
  have HT : Hid (Tm w.drew base b wb rb kb hb Bw Br ck ch Dk Dh C old XW XR nw nr lw lr) := h.below ((Below.refl _ w).drew)
  have HDR : Hid (Below w.heap.size w w.drew) := (Below.refl _ w).drew
  have HD : Hid (Hd w.drew base g r t0 l0) := hd.keep (Kx.of HDR.out)
  have q1 : ¬ C.timeout < 1 := by have := co.t0; omega
  have q2 : ¬ 100000 < C.timeout := by have := co.t1; omega
  have HADD : Hid (∀ x, Tm x base b wb rb kb hb Bw Br ck ch Dk Dh C old XW XR nw nr lw lr → Calls Try.prog 37 #[.pointer (some ⟨wb, 0, none⟩), .int .i64 C.timeout, .pointer (some ⟨g, 0, none⟩)] x fun e w' => e = .returned (.tuple #[.int .i64 (lw + 1), .int .i64 0]) ∧ Trn x wb Bw 256 (XW ++ [(lw + 1, nw + C.timeout, .pointer (some ⟨g, 0, none⟩))]) nw (lw + 1) w') := fun x hx => Hh.add_yes x wb Bw 256 XW nw lw C.timeout _ hx.ww ok rfl q1 q2 hl
  obtain ⟨c0, -, c2, -⟩ := h.cells
  obtain ⟨d0, -, d2, -⟩ := HT.out.cells
  have HEND : Hid (∀ x, Trn w.drew wb Bw 256 (XW ++ [(lw + 1, nw + C.timeout, .pointer (some ⟨g, 0, none⟩))]) nw (lw + 1) x → (x.cell? ⟨g, 12, none⟩ = some (.int .i64 t0) ∧ x.frozen? ⟨g, 12, none⟩ = false) ∧ Hid ((∃ Bw', Tm (x.setCell ⟨g, 12, none⟩ (.int .i64 (lw + 1))) base b wb rb kb hb Bw' Br ck ch Dk Dh C old (XW ++ [(lw + 1, nw + C.timeout, .pointer (some ⟨g, 0, none⟩))]) XR nw nr (lw + 1) lr) ∧ Hd (x.setCell ⟨g, 12, none⟩ (.int .i64 (lw + 1))) base g r (lw + 1) l0 ∧ Kt w (x.setCell ⟨g, 12, none⟩ (.int .i64 (lw + 1))) ∧ Ko base g w (x.setCell ⟨g, 12, none⟩ (.int .i64 (lw + 1))) ∧ Below base w (x.setCell ⟨g, 12, none⟩ (.int .i64 (lw + 1))))) := fun x tr => by
    obtain ⟨⟨Bw', h1⟩, h2, h3⟩ := HT.out.wait tr
    have hdx := HD.out.keep h2
    obtain ⟨c, hc⟩ := hd_blk hdx
    obtain ⟨e1, e2, e3, e4⟩ := hd_cells hdx
    refine ⟨⟨e1, e3⟩, ⟨Bw', h1.setH hc _⟩, hd_timer hdx _, Kt.set ((Kt.of HDR.out).trans h2.kt) hc _, ((Ko.of (Kx.of HDR.out)).trans (Ko.of h2)).trans (Ko.set hc _), below_set ?_ hd.1 _⟩
    exact (HDR.out.mono h.base_).trans h3
  clear h hd ok hl co HD
  go_enter Try.func26, Try.ntmps26
  go_wp2_with fail
  go_region_with ((go_at_call 37; refine (HADD.out _ HT.out).mono ?_; rintro e x ⟨rfl, tr⟩; obtain ⟨⟨e1, e2⟩, HE⟩ := HEND.out x tr; clear tr))
  all_goals (go_wp2_with fail)
  all_goals go_end0
  all_goals exact ⟨rfl, HE.out⟩
set_option maxRecDepth 100000 in
set_option maxHeartbeats 1600000 in
theorem remember_any (h : Tm w base b wb rb kb hb Bw Br ck ch Dk Dh C old XW XR nw nr lw lr) (co : Co C) (ok : Ok 256 XR nr lr) (hl : lr + 1 ≤ 5864062014805) {g : Nat} {r : Rq} {t0 : Int} {l0 : Bool} (hd : Hd w base g r t0 l0) :
    Calls Try.prog 32 #[.pointer (some ⟨b, 0, none⟩), .pointer (some ⟨g, 0, none⟩)] w fun e w' => e = .returned (.tuple #[]) ∧ (∃ Br', Tm w' base b wb rb kb hb Bw Br' ck ch Dk Dh C old XW (XR ++ [(lr + 1, nr + C.late, .pointer (some ⟨g, 0, none⟩))]) nw nr lw (lr + 1)) ∧ Hd w' base g r (lr + 1) true ∧ Kt w w' ∧ Ko base g w w' ∧ Below base w w' := by
  obtain ⟨a1, a2, a3, a4⟩ := hd_cells hd
  obtain ⟨y, hy⟩ : ∃ y, w.setCell ⟨g, 13, none⟩ (.bool true) = y := ⟨_, rfl⟩
  have HL : Hid (Hd y base g r t0 true ∧ Kt w y ∧ Ko base g w y ∧ Below base w y ∧ Tm y base b wb rb kb hb Bw Br ck ch Dk Dh C old XW XR nw nr lw lr) := by
    obtain ⟨c, hc⟩ := hd_blk hd
    exact hy ▸ ⟨hd_late hd true, Kt.set (Kt.refl w) hc _, Ko.set hc _, below_set (Below.refl _ _) hd.1 _, h.setH hc _⟩
  have HG : Hid (base ≤ g) := hd.1
  clear h hd
  have h := HL.out.2.2.2.2
  have hd := HL.out.1
  have HT : Hid (Tm y.drew base b wb rb kb hb Bw Br ck ch Dk Dh C old XW XR nw nr lw lr) := h.below ((Below.refl _ y).drew)
  have HDR : Hid (Below y.heap.size y y.drew) := (Below.refl _ y).drew
  have HD : Hid (Hd y.drew base g r t0 true) := hd.keep (Kx.of HDR.out)
  have q1 : ¬ C.late < 1 := by have := co.l0; omega
  have q2 : ¬ 100000 < C.late := by have := co.l1; omega
  have HADD : Hid (∀ x, Tm x base b wb rb kb hb Bw Br ck ch Dk Dh C old XW XR nw nr lw lr → Calls Try.prog 37 #[.pointer (some ⟨rb, 0, none⟩), .int .i64 C.late, .pointer (some ⟨g, 0, none⟩)] x fun e w' => e = .returned (.tuple #[.int .i64 (lr + 1), .int .i64 0]) ∧ Trn x rb Br 256 (XR ++ [(lr + 1, nr + C.late, .pointer (some ⟨g, 0, none⟩))]) nr (lr + 1) w') := fun x hx => Hh.add_yes x rb Br 256 XR nr lr C.late _ hx.wr ok rfl q1 q2 hl
  obtain ⟨-, c0, -, c2, -⟩ := h.cells
  obtain ⟨-, d0, -, d2, -⟩ := HT.out.cells
  have HEND : Hid (∀ x, Trn y.drew rb Br 256 (XR ++ [(lr + 1, nr + C.late, .pointer (some ⟨g, 0, none⟩))]) nr (lr + 1) x → (x.cell? ⟨g, 12, none⟩ = some (.int .i64 t0) ∧ x.frozen? ⟨g, 12, none⟩ = false) ∧ Hid ((∃ Br', Tm (x.setCell ⟨g, 12, none⟩ (.int .i64 (lr + 1))) base b wb rb kb hb Bw Br' ck ch Dk Dh C old XW (XR ++ [(lr + 1, nr + C.late, .pointer (some ⟨g, 0, none⟩))]) nw nr lw (lr + 1)) ∧ Hd (x.setCell ⟨g, 12, none⟩ (.int .i64 (lr + 1))) base g r (lr + 1) true ∧ Kt w (x.setCell ⟨g, 12, none⟩ (.int .i64 (lr + 1))) ∧ Ko base g w (x.setCell ⟨g, 12, none⟩ (.int .i64 (lr + 1))) ∧ Below base w (x.setCell ⟨g, 12, none⟩ (.int .i64 (lr + 1))))) := fun x tr => by
    obtain ⟨⟨Br', h1⟩, h2, h3⟩ := HT.out.rem tr
    have hdx := HD.out.keep h2
    obtain ⟨c, hc⟩ := hd_blk hdx
    obtain ⟨e1, e2, e3, e4⟩ := hd_cells hdx
    refine ⟨⟨e1, e3⟩, ⟨Br', h1.setH hc _⟩, hd_timer hdx _, Kt.set ((HL.out.2.1.trans (Kt.of HDR.out)).trans h2.kt) hc _, (HL.out.2.2.1.trans ((Ko.of (Kx.of HDR.out)).trans (Ko.of h2))).trans (Ko.set hc _), below_set ?_ HG.out _⟩
    exact HL.out.2.2.2.1.trans ((HDR.out.mono h.base_).trans h3)
  clear h hd ok hl co HD
  go_enter Try.func32, Try.ntmps32
  go_wp2_with fail
  try rw [hy]
  go_region_with ((go_at_call 37; refine (HADD.out _ HT.out).mono ?_; rintro e x ⟨rfl, tr⟩; obtain ⟨⟨e1, e2⟩, HE⟩ := HEND.out x tr; clear tr))
  all_goals (go_wp2_with fail)
  all_goals go_end0
  all_goals exact ⟨rfl, HE.out⟩
end
end Go.Proofs.Ytgchdjjafgkcbaa.Pe
