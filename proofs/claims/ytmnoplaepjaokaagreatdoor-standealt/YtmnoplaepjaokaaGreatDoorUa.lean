/- StanDealt: its walk. -/
import Derived.Test.YtmnoplaepjaokaaGreatDoorZk
import Derived.Test.YtmnoplaepjaokaaGreatDoorYf
import Derived.Test.YtmnoplaepjaokaaGreatDoorPick
import Derived.Test.YtmnoplaepjaokaaGreatDoorSg
namespace Go.Proofs.YtmnoplaepjaokaaGreatDoor.Ua
set_option linter.unusedVariables false
set_option linter.unusedSimpArgs false
open Go.RowKit Lib0 Kb Xp Ya Yb Yc Yd Yf Yg Zk
theorem bnd {x : Int} (h : (Lit.int .i64 x).wf = true) : -9223372036854775808 ≤ x ∧ x ≤ 9223372036854775807 := by
  simp [Lit.wf, IntKind.min, IntKind.max, IntKind.signed, IntKind.bits] at h; omega
/-- what stands along the loop: the numbers, and the row of those that are out -/
structure Dl (w y : World) (b d ob : Nat) (S : St) : Prop where
  kn : Kn w y b d S
  ok : OK S
  row : y.heap[ob]? = some (.cells (oC (S.mo + 1) S.out) tB)
  o0 : w.heap.size ≤ ob
section
variable {w y x : World} {b d ob : Nat} {S : St}
theorem Dl.ne (h : Dl w y b d ob S) : ob ≠ b ∧ ob ≠ d := by
  obtain ⟨W, hn⟩ := h.kn.nm
  exact ⟨ty_ne h.row hn.blk (by decide), ty_ne h.row hn.row (by decide)⟩
theorem Dl.at (h : Dl w y b d ob S) {k : Nat} (hk : k ≤ S.mo) : y.cell? ⟨ob, k, none⟩ = some (.bool (S.out k)) := by
  rw [cell_of_row _ _ _ _ _ _ h.row]; exact oC_get _ _ _ (by omega)
theorem Dl.fz (h : Dl w y b d ob S) (k : Nat) : y.frozen? ⟨ob, k, none⟩ = false := frozen_of_row y _ _ _ _ h.row
theorem kn_below (h : Kn w y b d S) (k : Below y.heap.size y x) : Kn w x b d S := by
  obtain ⟨W, hn⟩ := h.nm
  exact ⟨⟨W, Yd.Nm.below hn k⟩, keepB h.bel k, h.b0, h.d0, h.tb⟩
theorem kn_set (h : Kn w y b d S) {ob k : Nat} (h1 : ob ≠ b) (h2 : ob ≠ d) (h0 : w.heap.size ≤ ob) (v : Value) : Kn w (y.setCell ⟨ob, k, none⟩ v) b d S := by
  obtain ⟨W, hn⟩ := h.nm
  exact ⟨⟨W, Yd.Nm.keep hn (setCell_ne (p := ⟨ob, k, none⟩) h1 _) (setCell_ne (p := ⟨ob, k, none⟩) h2 _)⟩, h.bel.setCell h0 _, h.b0, h.d0, h.tb⟩
/-- the numbers are asked, the row stays -/
theorem Dl.take (h : Dl w y b d ob S) : Calls Tryz.prog 26 #[.pointer (some ⟨b, 0, none⟩)] y fun e w' => e = .returned (.tuple #[.int .i64 ((nxt S : Nat) : Int), .int .i64 (tkE S)]) ∧ Kn w w' b d (tk S) ∧ w'.heap[ob]? = some (.cells (oC (S.mo + 1) S.out) tB) := by
  obtain ⟨W, hn⟩ := h.kn.nm
  refine (Ye.take_dealt hn h.ok (h.kn.tb.next h.kn.bel).tz).mono ?_
  rintro e w' ⟨he, hn', hf⟩
  have hl := (Array.getElem?_eq_some_iff.1 h.row).1
  exact ⟨he, ⟨hn', bl_fr h.kn.bel hf (fun g hg => by rcases hg with rfl | rfl; exact h.kn.b0; exact h.kn.d0), h.kn.b0, h.kn.d0, h.kn.tb⟩, (hf.block _ hl (fun e => by rcases e with e | e; exact h.ne.1 e; exact h.ne.2 e)).trans h.row⟩
theorem Dl.taken (h : Dl w y b d ob S) (k : Int) : Calls Tryz.prog 24 #[.pointer (some ⟨b, 0, none⟩), .int .i64 k] y fun e w' => e = .returned (.bool (isOut S k)) ∧ Dl w w' b d ob S := by
  obtain ⟨W, hn⟩ := h.kn.nm
  refine (Yd.taken_any hn h.ok k).mono ?_
  rintro e w' ⟨he, m, rfl⟩
  have hb := Kb.below_drewN (Below.refl y.heap.size y) m
  exact ⟨he, kn_below h.kn hb, h.ok, kept hb h.row, h.o0⟩
theorem Dl.free (h : Dl w y b d ob S) (k : Int) : Calls Tryz.prog 25 #[.pointer (some ⟨b, 0, none⟩), .int .i64 k] y fun e w' => e = .returned (.int .i64 (frE S k)) ∧ Kn w w' b d (fr S k) ∧ w'.heap[ob]? = some (.cells (oC (S.mo + 1) S.out) tB) := by
  obtain ⟨W, hn⟩ := h.kn.nm
  refine (Yd.free_any hn h.ok k).mono ?_
  rintro e w' ⟨he, hn', hf⟩
  have hl := (Array.getElem?_eq_some_iff.1 h.row).1
  exact ⟨he, ⟨hn', bl_fr h.kn.bel hf (fun g hg => by rcases hg with rfl | rfl; exact h.kn.b0; exact h.kn.d0), h.kn.b0, h.kn.d0, h.kn.tb⟩, (hf.block _ hl (fun e => by rcases e with e | e; exact h.ne.1 e; exact h.ne.2 e)).trans h.row⟩
end
theorem upd_id {f : Nat → Bool} {k : Nat} {b : Bool} (h : f k = b) : upd f k b = f := by
  funext i
  by_cases e : i = k
  · subst e; rw [upd_same, h]
  · rw [upd_ne _ _ e]
/-- behind a Free, with the row's mark struck -/
theorem Dl.struck {w y x : World} {b d ob : Nat} {S : St} (h : Dl w y b d ob S) {k : Nat} (h1 : 1 ≤ k) (h2 : k ≤ S.mo) (hk : Kn w x b d (fr S k)) (hr : x.heap[ob]? = some (.cells (oC (S.mo + 1) S.out) tB)) : Dl w (x.setCell ⟨ob, k, none⟩ (.bool false)) b d ob (fr S k) := by
  have hm : (fr S k).mo = S.mo := by unfold fr; split <;> rfl
  have ho : (fr S k).out = upd S.out k false := by
    unfold fr
    by_cases e : isOut S k = true
    · rw [if_pos e]; rfl
    · rw [if_neg e, upd_id]
      have a1 : (1 : Int) ≤ (k : Int) := by omega
      have a2 : (k : Int) ≤ (S.mo : Int) := by omega
      simp [isOut, a1, a2] at e
      exact e
  have n1 : ob ≠ b := h.ne.1
  have n2 : ob ≠ d := h.ne.2
  refine ⟨kn_set hk n1 n2 h.o0 _, h.ok.fr k, ?_, h.o0⟩
  rw [setCell_heap hr, oC_set _ _ _ _ (by omega), hm, ho]
theorem out_at {S : St} {k : Nat} (h1 : 1 ≤ k) (h2 : k ≤ S.mo) : isOut S (k : Int) = S.out k := by
  have a1 : (1 : Int) ≤ (k : Int) := by omega
  have a2 : (k : Int) ≤ (S.mo : Int) := by omega
  simp [isOut, a2]; omega
/-- behind a Take, with the row's mark set -/
theorem Dl.marked {w y x : World} {b d ob : Nat} {S : St} (h : Dl w y b d ob S) (ht : nxt S ≠ 0) (hx : Nx S (nxt S)) (hk : Kn w x b d (tk S)) (hr : x.heap[ob]? = some (.cells (oC (S.mo + 1) S.out) tB)) : Dl w (x.setCell ⟨ob, nxt S, none⟩ (.bool true)) b d ob (tk S) := by
  have e : tk S = ⟨S.mo, nxt S, S.many + 1, upd S.out (nxt S) true⟩ := by unfold tk; rw [if_neg ht]
  refine ⟨kn_set hk h.ne.1 h.ne.2 h.o0 _, h.ok.tk, ?_, h.o0⟩
  rw [setCell_heap hr, oC_set _ _ _ _ (by have := hx.t2; omega), e]
theorem step_mod {S : St} (ho : OK S) {K : Nat} (h : K ≤ S.mo) : K % S.mo + 1 = stp S K := by
  have := ho.mo1
  unfold stp
  by_cases e : S.mo ≤ K
  · rw [if_pos e, show K = S.mo by omega, Nat.mod_self]
  · rw [if_neg e, Nat.mod_eq_of_lt (by omega)]
theorem int_of (n : Int) : intOf (.int .i64 n) = n := rfl
def dst (S : St) (t J : Nat) : Nat := if J ≤ t then t - J else S.mo - J + t + 1
theorem dst_next {S : St} {t J : Nat} (h1 : 1 ≤ t) (h2 : t ≤ S.mo) (hJ : J ≤ S.mo) (hne : J ≠ t) : dst S t (stp S J) < dst S t J := by
  unfold dst stp
  by_cases e : S.mo ≤ J
  · rw [if_pos e, if_pos h1, if_neg (by omega)]; omega
  · rw [if_neg e]
    by_cases e2 : J ≤ t
    · rw [if_pos e2, if_pos (by omega)]; omega
    · rw [if_neg e2, if_neg (by omega)]; omega
set_option maxRecDepth 100000 in
set_option maxHeartbeats 6400000 in
theorem walk (a0 : Int) (v1 : Value) (z1 : List Int) (w : World) (w0 : (Lit.int .i64 a0).wf = true) (w1 : Sg.LiesI w v1 z1) (hT : Tb w) :
    Calls Tryz.prog 6 #[.int .i64 a0, v1] w fun e w' => e = .returned (.bool true) ∧ Below w.heap.size w w' := by
  have b0 := bnd w0
  have pk0 := fun x => Pick.pick_any a0 40 x b0.1 b0.2 (by decide) (by decide)
  have l0 := Pick.pick_lo a0 40 (by decide)
  have h0 := Pick.pick_hi a0 40 (by decide)
  generalize Pick.pickOf a0 40 = n0 at *
  obtain ⟨mo, hmo⟩ : ∃ n : Nat, 1 + n0 = (n : Int) := ⟨(1 + n0).toNat, by omega⟩
  have HM1 : Hid (1 ≤ mo) := by show 1 ≤ mo; omega
  have HM2 : Hid (mo ≤ 40) := by show mo ≤ 40; omega
  have HT : Hid (Tb w) := hT
  have HS1 : Hid (Sg.LiesI w v1 z1) := w1
  obtain ⟨o1, cap1, hv1, lz1, _⟩ := w1
  subst hv1
  obtain ⟨N1, HN1⟩ : ∃ N, Hid (z1.length = N) := ⟨_, rfl⟩
  rw [HN1.out] at lz1 HS1 ⊢
  have hmk := run_make_row' (P := Tryz.prog) 61 tB (.bool false) 1 Tryz.underlying61 infoB rfl .i64 .i64 (mo + 1) (by have := HM2.out; omega) (by have := HM2.out; omega)
  rw [show ((mo + 1 : Nat) : Int) = (mo : Int) + 1 from rfl] at hmk
  clear b0 w0 hT
  go_enter Tryz.func6, Tryz.ntmps6
  go_wp2_with fail
  refine (known_any w HT.out).mono ?_
  rintro e y0 ⟨rfl, hy0⟩
  have HY0 : Hid (Below w.heap.size w y0) := hy0
  clear hy0
  go_wp2_with fail
  refine (pk0 _).mono ?_
  rintro e x0 ⟨rfl, hx0⟩
  rw [hx0]
  clear hx0 x0 pk0
  have q0 : (0 : Int) ≤ (mo : Int) := by omega
  have q1 : (mo : Int) ≤ 40 := by have := HM2.out; omega
  go_wp2_with fail
  try rw [hmo]
  refine (Yd.new_good mo y0 HM1.out (by have := HM2.out; omega)).mono ?_
  rintro e y1 ⟨b, d, rfl, hn, hb, hb0, hd0⟩
  have HKN : Hid (Kn w y1 b d (fresh mo)) := ⟨⟨_, hn⟩, keepB HY0.out hb, Nat.le_trans HY0.out.size hb0, Nat.le_trans HY0.out.size hd0, HT.out⟩
  clear hn hb hb0 hd0
  go_wp2_with fail
  have HDL : Hid (Dl w (y1.alloc (.cells (madeCells #[.bool false] (mo + 1)) tB)) b d y1.heap.size (fresh mo)) := by
    refine ⟨kn_below HKN.out (below_one _ _), ok_fresh HM1.out (by have := HM2.out; omega), ?_, HKN.out.bel.size⟩
    rw [h1_0, oC_made]; rfl
  have HFM : Hid ((fresh mo).mo = mo) := rfl
  clear hmk HKN HY0 l0 h0
  generalize y1.alloc (.cells (madeCells #[.bool false] (mo + 1)) tB) = y2 at *
  generalize y1.heap.size = ob at *
  go_loopw [10, 11, 12] (fun lv mv iv wr => ∃ (i : Nat) (S : St), iv = .int .i64 (i : Int) ∧ i ≤ N1 ∧ i ≤ 400 ∧ lv = .int .i64 (S.last : Int) ∧ mv = .int .i64 (S.many : Int) ∧ Hid (S.mo = mo) ∧ Hid (Dl w wr b d ob S)) (fun _ _ iv _ => 401 - (intOf iv).toNat)
  case atStart => exact ⟨0, fresh mo, rfl, Nat.zero_le _, Nat.zero_le _, rfl, rfl, HFM, HDL⟩
  case round =>
    obtain ⟨i, S, rfl, hi1, hi2, rfl, rfl, HMO, HD⟩ := hrel
    have r0 : (0 : Int) ≤ (i : Int) := by omega
    by_cases hlt : i < N1 ∧ i < 400
    · have hi2' : i < z1.length := by rw [HN1.out]; exact hlt.1
      obtain ⟨oa, ca, ea, _, hcell⟩ := HS1.out
      injection ea with ea1 ea2 ea3
      obtain ⟨a, ha, c0, wf0⟩ := hcell i hi2'
      rw [← ea1] at ha
      subst ha
      have c1 : wr.cell? (a.add i) = some (.int .i64 z1[i]) := (HD.out.kn.bel.cell (World.block_lt_of_cell? w _ c0)).trans c0
      have bx := bnd wf0
      generalize z1[i]'hi2' = x at *
      have r1 : (i : Int) < (N1 : Int) := by omega
      have r2 : (i : Int) < 400 := by omega
      have HIN : Hid (i < N1 ∧ i < 400) := hlt
      clear hi1 hi2 hlt hi2' c0 wf0 hcell ea1 ea2 ea3
      obtain ⟨q, hq⟩ : ∃ q, wrap64 (x.tdiv 2) = q := ⟨_, rfl⟩
      have hqb : -9223372036854775808 ≤ q ∧ q ≤ 9223372036854775807 := by
        rw [← hq]; unfold wrap64; omega
      have HDL : Hid (Dl w wr b d ob S) := HD
      cases he : (x.tmod 2 == 0) with
      | true =>
        as_aux_lemma =>
        have HPK : Hid (∀ y, Calls Tryz.prog 12 #[.int .i64 q, .int .i64 (mo : Int)] y fun e w' => e = .returned (.int .i64 (Pick.pickOf q mo)) ∧ w' = y) := fun y => Pick.pick_any q mo y hqb.1 hqb.2 (by have := HM1.out; omega) (by omega)
        have p0 := Pick.pick_lo q mo (by have := HM1.out; omega)
        have p1 := Pick.pick_hi q mo (by have := HM1.out; omega)
        generalize Pick.pickOf q mo = pp at *
        obtain ⟨k, hk⟩ : ∃ k : Nat, 1 + pp = (k : Int) := ⟨(1 + pp).toNat, by omega⟩
        have HK1 : Hid (1 ≤ k ∧ k ≤ S.mo) := by have := HMO.out; show 1 ≤ k ∧ k ≤ S.mo; omega
        have pb : pp ≤ 40 := by omega
        clear bx hqb
        go_wp2_with fail
        refine (HPK.out _).mono ?_
        rintro e y ⟨rfl, hy⟩
        rw [hy]
        clear hy y
        have hob : Hid (∀ S' : St, S'.mo = mo → ((k : Int) < ((S'.mo + 1 : Nat) : Int))) := fun S' e => by have := HK1.out; have := HMO.out; omega
        have rk : (k : Int) < (mo : Int) + 1 := by have := HK1.out; have := HMO.out; omega
        have rk0 : (0 : Int) ≤ (k : Int) := by omega
        go_wp2_with fail
        try rw [hk]
        refine (HDL.out.taken k).mono ?_
        rintro e y1 ⟨rfl, hd1⟩
        rw [out_at HK1.out.1 HK1.out.2]
        have HD1 : Hid (Dl w y1 b d ob S) := hd1
        clear hd1 HDL HD c1
        go_wp2_with fail
        refine (HD1.out.free k).mono ?_
        rintro e y2 ⟨rfl, hkn, hrow⟩
        have HD2 : Hid (Dl w (y2.setCell ⟨ob, k, none⟩ (.bool false)) b d ob (fr S k)) := HD1.out.struck HK1.out.1 HK1.out.2 hkn hrow
        have x0 : y2.cell? ⟨ob, k, none⟩ = some (.bool (S.out k)) := by
          rw [cell_of_row _ _ _ _ _ _ hrow]; exact oC_get _ _ _ (by have := HK1.out; omega)
        have xf : y2.frozen? ⟨ob, k, none⟩ = false := frozen_of_row y2 _ _ _ _ hrow
        have HMB : Hid (S.many ≤ 40) := by have := HD1.out.ok.many_le; have := HMO.out; have := HM2.out; show S.many ≤ 40; omega
        have hio := out_at HK1.out.1 HK1.out.2
        have hfm : Hid ((fr S k).mo = mo) := by
          have : (fr S k).mo = S.mo := by unfold fr; split <;> rfl
          exact this.trans HMO.out
        have hfl : (fr S k).last = S.last := by unfold fr; split <;> rfl
        cases hS : S.out k with
        | true =>
          as_aux_lemma =>
          have e1 : frE S k = 0 := by unfold frE; rw [hio, hS]; rfl
          have e2 : (fr S k).many = S.many - 1 := by unfold fr; rw [hio, hS]; rfl
          have HP : Hid (1 ≤ S.many) := HD1.out.ok.pos (k := k) (by rw [hio, hS])
          have HE : Hid ((S.many : Int) - 1 = ((fr S k).many : Int)) := by have := HP.out; rw [e2]; show (S.many : Int) - 1 = ((S.many - 1 : Nat) : Int); omega
          have HFL : Hid ((fr S k).last = S.last) := hfl
          rw [e1]
          rw [hS] at x0
          have m0 : (1 : Int) ≤ (S.many : Int) := by have := HP.out; omega
          have m1 : (S.many : Int) ≤ 40 := by have := HMB.out; omega
          clear hkn hrow hio hfl e1 e2 hS HD1
          go_wp2_with fail
          have := HIN.out
          refine ⟨⟨i + 1, fr S k, by simp, by omega, by omega, by rw [HFL.out], by rw [HE.out], hfm, HD2⟩, ?_⟩
          simp only [intOf]
          omega
        | false =>
          as_aux_lemma =>
          have e1 : frE S k = 181 := by unfold frE; rw [hio, hS]; rfl
          have e2 : (fr S k).many = S.many := by unfold fr; rw [hio, hS]; rfl
          have HE : Hid ((fr S k).many = S.many) := e2
          have HFL : Hid ((fr S k).last = S.last) := hfl
          rw [e1]
          rw [hS] at x0
          clear hkn hrow hio hfl e1 e2 hS HD1
          go_wp2_with fail
          have := HIN.out
          refine ⟨⟨i + 1, fr S k, by simp, by omega, by omega, by rw [HFL.out], by rw [HE.out], hfm, HD2⟩, ?_⟩
          simp only [intOf]
          omega
      | false =>
        as_aux_lemma =>
        have hsp := nxt_spec HD.out.ok
        have HSP : Hid (nxt S = 0 ↔ S.many = S.mo) := spent HD.out.ok
        have HMB : Hid (S.many ≤ 40) := by have := HD.out.ok.many_le; have := HMO.out; have := HM2.out; show S.many ≤ 40; omega
        have HLB : Hid (S.last ≤ S.mo) := HD.out.ok.last
        clear bx hqb hq
        go_wp2_with fail
        refine (HDL.out.take).mono ?_
        rintro e y2 ⟨rfl, hkn, hrow⟩
        by_cases ht : nxt S = 0
        · as_aux_lemma =>
          have e1 : tkE S = 180 := by rw [tkE, if_pos ht]
          have e2 : tk S = S := by rw [tk, if_pos ht]
          rw [e2] at hkn
          have HD2 : Hid (Dl w y2 b d ob S) := ⟨hkn, HD.out.ok, hrow, HD.out.o0⟩
          have hmm : S.many = mo := (HSP.out.1 ht).trans HMO.out
          have HMM : Hid (S.many = mo) := hmm
          rw [e1, ht, hmm]
          clear hkn hrow e1 e2 ht hsp HDL HD c1 hmm
          go_wp2_with fail
          have := HIN.out
          refine ⟨⟨i + 1, S, by simp, by omega, by omega, rfl, by rw [HMM.out], HMO, HD2⟩, ?_⟩
          simp only [intOf]
          omega
        · as_aux_lemma =>
          have hx : Nx S (nxt S) := hsp.resolve_left (fun e => ht e.1)
          have e1 : tkE S = 0 := by rw [tkE, if_neg ht]
          have e2 : tk S = ⟨S.mo, nxt S, S.many + 1, upd S.out (nxt S) true⟩ := by rw [tk, if_neg ht]
          have HDM : Hid (Dl w (y2.setCell ⟨ob, nxt S, none⟩ (.bool true)) b d ob (tk S)) := HD.out.marked ht hx hkn hrow
          have HTM : Hid ((tk S).mo = mo ∧ (tk S).last = nxt S ∧ (tk S).many = S.many + 1) := by rw [e2]; exact ⟨HMO.out, rfl, rfl⟩
          have HX : Hid (Nx S (nxt S)) := hx
          have HOK : Hid (OK S) := HD.out.ok
          have HIV : Hid (Iv S (nxt S) S.last) := hx.iv HD.out.ok
          have HROW : Hid (y2.heap[ob]? = some (.cells (oC (S.mo + 1) S.out) tB)) := hrow
          have HAT : Hid (∀ k, k ≤ S.mo → y2.cell? ⟨ob, k, none⟩ = some (.bool (S.out k))) := fun k hk => by
            rw [cell_of_row _ _ _ _ _ _ hrow]; exact oC_get _ _ _ (by omega)
          have x0 := HAT.out (nxt S) hx.t2
          rw [hx.free] at x0
          have xf : y2.frozen? ⟨ob, nxt S, none⟩ = false := frozen_of_row y2 _ _ _ _ hrow
          have HT1 : Hid (1 ≤ nxt S ∧ nxt S ≤ mo) := ⟨hx.t1, by have := hx.t2; rw [HMO.out] at this; exact this⟩
          rw [e1]
          clear hkn hrow e1 e2 ht hsp HDL HD c1 hx
          obtain ⟨t, HTT⟩ : ∃ t, Hid (nxt S = t) := ⟨_, rfl⟩
          rw [HTT.out] at HDM HTM HX HIV x0 xf HT1
          rw [HTT.out]
          have t0 : (1 : Int) ≤ (t : Int) := by have := HT1.out; omega
          have t1 : (t : Int) ≤ (mo : Int) := by have := HT1.out; omega
          have t2 : (t : Int) < (mo : Int) + 1 := by omega
          have t3 : (0 : Int) ≤ (t : Int) := by omega
          have l0 : (0 : Int) ≤ (S.last : Int) := by omega
          have l1 : (S.last : Int) ≤ 40 := by have := HLB.out; have := HMO.out; omega
          have mz : ¬ (mo : Int) = 0 := by have := HM1.out; omega
          have mz2 : ((mo : Int) == 0) = false := by simpa using mz
          have mp : (0 : Int) < (mo : Int) := by have := HM1.out; omega
          have HJ0 : Hid (wrap64 ((S.last : Int) % (mo : Int) + 1) = ((stp S S.last : Nat) : Int)) := by
            have := step_mod HOK.out HOK.out.last
            have hle := HIV.out.stp_le HOK.out
            rw [HMO.out] at this hle
            have e : (S.last : Int) % (mo : Int) + 1 = ((stp S S.last : Nat) : Int) := by rw [← this]; simp
            show wrap64 _ = _
            rw [e]; unfold wrap64; omega
          clear mz
          go_wp2_with fail
          try clear wr
          go_loopw [18] (fun jv wr => ∃ K : Nat, jv = .int .i64 ((stp S K : Nat) : Int) ∧ Hid (Iv S t K) ∧ wr = y2) (fun jv _ => dst S t (intOf jv).toNat)
          case atStart => exact ⟨S.last, by rw [← HJ0.out], HIV, rfl⟩
          case round =>
            obtain ⟨K, rfl, HI, rfl⟩ := hrel
            have hJ1 := stp_pos S K
            have hJ2 := HI.out.stp_le HOK.out
            by_cases hj : stp S K = t
            · as_aux_lemma =>
              rw [hj]
              have HLN : Hid (∀ y, Dl w y b d ob (tk S) → Calls Tryz.prog 27 #[.pointer (some ⟨b, 0, none⟩)] y fun e w' => e = .returned (.int .i64 ((S.many : Int) + 1)) ∧ w' = y) := fun y hy => by
                obtain ⟨W, hn⟩ := hy.kn.nm
                have := Yd.len_any hn
                rw [HTM.out.2.2] at this
                exact this
              have sm : (S.many : Int) + 1 ≤ 41 := by have := HMB.out; omega
              have sm0 : (0 : Int) ≤ (S.many : Int) := by omega
              clear hJ1 hJ2 hj HI HAT HROW
              go_wp2_with fail
              refine (HLN.out _ HDM.out).mono ?_
              rintro e y3 ⟨rfl, hy3⟩
              rw [hy3]
              clear hy3 y3
              go_wp2_with fail
              have := HIN.out
              refine ⟨⟨i + 1, tk S, by simp, by omega, by omega, by rw [HTM.out.2.1], by rw [HTM.out.2.2]; rfl, HTM.out.1, HDM⟩, ?_⟩
              simp only [intOf]
              omega
            · as_aux_lemma =>
              have ho2 := HI.out.out HX.out hj
              have HI2 : Hid (Iv S t (stp S K)) := HI.out.next HOK.out HX.out hj
              have x1 := HAT.out (stp S K) hJ2
              rw [ho2] at x1
              have HDS : Hid (dst S t (stp S (stp S K)) < dst S t (stp S K)) := dst_next HX.out.t1 HX.out.t2 hJ2 hj
              have HST : Hid (wrap64 (((stp S K : Nat) : Int) % (mo : Int) + 1) = ((stp S (stp S K) : Nat) : Int)) := by
                have h7 := step_mod HOK.out hJ2
                have hle := HI2.out.stp_le HOK.out
                have h8 := HMO.out
                rw [HMO.out] at h7 hle
                have e : ((stp S K : Nat) : Int) % (mo : Int) + 1 = ((stp S (stp S K) : Nat) : Int) := by rw [← h7]; simp
                show wrap64 _ = _
                rw [e]; unfold wrap64; omega
              have j0 : (0 : Int) ≤ ((stp S K : Nat) : Int) := by omega
              have j1 : ((stp S K : Nat) : Int) < (mo : Int) + 1 := by have := HMO.out; omega
              have j2 : (((stp S K : Nat) : Int) == (t : Int)) = false := by simp; omega
              have j3 : (((stp S K : Nat) : Int) != (t : Int)) = true := by simp; omega
              generalize stp S K = J at *
              clear hJ1 hJ2 hj HI ho2 x0 xf
              go_wp2_with fail
              refine ⟨⟨J, by rw [← HST.out], HI2, trivial⟩, ?_⟩
              have h5 := HDS.out
              have h6 := HST.out
              generalize wrap64 ((J : Int) % (mo : Int) + 1) = X at h6 ⊢
              subst h6
              rw [int_of, int_of, Int.toNat_natCast, Int.toNat_natCast]
              exact h5
    · as_aux_lemma =>
      have hex : ¬ ((i : Int) < (N1 : Int)) ∨ ((i : Int) < (N1 : Int)) ∧ ¬ ((i : Int) < 400) := by omega
      have HB : Hid (Below w.heap.size w wr) := HD.out.kn.bel
      clear hlt hi1 hi2
      rcases hex with g | ⟨g, g2⟩
      · go_wp2_with fail
        go_ret
        exact ⟨rfl, HB.out⟩
      · go_wp2_with fail
        go_ret
        exact ⟨rfl, HB.out⟩
end Go.Proofs.YtmnoplaepjaokaaGreatDoor.Ua
