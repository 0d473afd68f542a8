/- Share: the program's walk. -/
import Derived.Test.YtaacocliclibgaaSa
namespace Go.Proofs.Ytaacocliclibgaa.Sj
set_option linter.unusedVariables false
open Go.RowKit Sl Kb Mp Ms So Sc Gf Tg Sa
def upN (X : Nat → Int) (j : Nat) : Nat → Int := fun i => if i < j then X i else 0
theorem upN_step (X : Nat → Int) (n j : Nat) (h : j < n) : (inC n (upN X j)).setIfInBounds j (.int .i64 (X j)) = inC n (upN X (j + 1)) := by
  rw [inC_set _ _ _ _ h]
  refine inC_ext fun i _ => ?_
  simp only [updI, upN]
  by_cases e : i = j
  · subst e; rw [if_pos rfl, if_pos (by omega)]
  · rw [if_neg e]
    by_cases c : i < j
    · rw [if_pos c, if_pos (by omega)]
    · rw [if_neg c, if_neg (by omega)]
theorem xS_mono (u : Int) (z : List Int) (h : ∀ i, 0 ≤ xF u z i) (j k : Nat) (hjk : j ≤ k) : 0 ≤ xS u z j ∧ xS u z j ≤ xS u z k := by
  have h0 : ∀ j, 0 ≤ xS u z j := fun j => by
    induction j with
    | zero => simp [xS]
    | succ j ih => rw [xS]; have := h j; omega
  refine ⟨h0 j, ?_⟩
  induction k with
  | zero => rw [show j = 0 by omega]; exact Int.le_refl _
  | succ k ih =>
    by_cases e : j = k + 1
    · rw [e]; exact Int.le_refl _
    · have := ih (by omega); rw [xS]; have := h k; omega
theorem cell_ne {x : World} {g n : Nat} (v : Value) {p : Addr} (h : p.block ≠ g) : (x.setCell ⟨g, n, none⟩ v).cell? p = x.cell? p := by
  unfold World.cell?
  rw [Below.heap_setCell x ⟨g, n, none⟩ v p.block h]
theorem more_bounds (X : Nat → Int) (c : Nat → Nat) (k i : Nat) : X i ≤ more X c k i ∧ more X c k i ≤ X i + k := by
  induction k generalizing i with
  | zero => simp [more]
  | succ k ih =>
    simp only [more, updI]
    split
    · rename_i h
      have := ih (c k)
      rw [h]; omega
    · have := ih i; omega
theorem xF_top (u : Int) (z : List Int) (hu : 0 ≤ u) (hu2 : u ≤ 999999999999) (hW : 0 < sm z) (hz : z.all isW = true) (i : Nat) : xF u z i ≤ 1000000000000000000 := by
  have hb : 0 ≤ zf z i ∧ zf z i ≤ 1000000 := by
    by_cases h : i < z.length
    · rw [zf_get z i h]; exact (isW_iff _).1 (List.all_eq_true.1 hz _ (List.getElem_mem h))
    · rw [zf, List.getD_eq_getElem?_getD, List.getElem?_eq_none (by omega)]; simp
  have e1 := Int.mul_le_mul_of_nonneg_left hb.2 hu
  have e2 : 0 ≤ u * zf z i := Int.mul_nonneg hu hb.1
  have e3 := Int.ediv_le_self (sm z) e2
  rw [xF]; omega
theorem same {x y : World} (h : y = x) : Below x.heap.size x y := by
  subst h; exact Below.refl _ _
set_option maxRecDepth 100000 in
set_option maxHeartbeats 1600000 in
theorem share_ok (u : Int) (z : List Int) (a : Addr) (w : World) (cap : Nat) (hu : isA u = true) (hz : tgB z = true) (hc : ∀ i (h : i < z.length), w.cell? (a.add i) = some (.int .i64 z[i])) (hL : Lies w (.slice (some a) z.length cap) z) :
    Calls Try.prog 11 #[.int .i64 u, .slice (some a) z.length cap] w fun e w' => ∃ g c, e = .returned (.tuple #[.slice (some ⟨g, 0, none⟩) z.length z.length, .int .i64 0]) ∧ w'.heap[g]? = some (.cells (inC z.length (more (xF u z) c (u - xS u z z.length).toNat)) 3 (0, 0)) ∧ w.heap.size ≤ g ∧ Below w.heap.size w w' ∧ Mix id c 0 z.length ∧ Srt (rF u z) c 0 z.length ∧ ∀ k, k < z.length → c k < z.length := by
  have hw : wOK z = true ∧ 0 < sm z := by simpa [tgB] using hz
  have hw2 : z.length ≤ 100 ∧ z.all isW = true := by simpa [wOK] using hw.1
  have hV : tgV z = sm z := by rw [tgV, hw.1]; rfl
  have pi := fun w => isAmount_any u w
  rw [hu] at pi
  have pt := fun x h => together_lies z (.slice (some a) z.length cap) x (by omega) h
  rw [hV, hz] at pt
  have ha := (isA_iff u).1 hu
  have hlb := left_bounds u z hw.2
  have hne : z ≠ [] := fun e => by rw [e] at hw; simp [sm] at hw
  have HX0 : Hid (∀ i, 0 ≤ xF u z i) := fun i => xF_bounds u z ha.1 hw.2 hw2.2 i
  have HX1 : Hid (∀ i, xF u z i ≤ 1000000000000000000) := fun i => xF_top u z ha.1 ha.2 hw.2 hw2.2 i
  have HC : Hid (∀ i (h : i < z.length), w.cell? (a.add i) = some (.int .i64 z[i])) := hc
  have HL : Hid (Lies w (.slice (some a) z.length cap) z) := hL
  obtain ⟨W, hW⟩ : ∃ W, W = sm z := ⟨_, rfl⟩
  rw [← hW] at pt
  obtain ⟨N, hN⟩ : ∃ N, N = z.length := ⟨_, rfl⟩
  rw [← hN] at pt ⊢
  have HH : Hid (W = sm z ∧ N = z.length ∧ N ≤ 100 ∧ 0 < W ∧ z.all isW = true ∧ z ≠ [] ∧ 0 ≤ u - xS u z N ∧ u - xS u z N < (N : Int)) := ⟨hW, hN, by omega, by omega, hw2.2, hne, by rw [hN]; exact hlb.1, by rw [hN]; exact hlb.2 hne⟩
  have W0 : 0 < W := by omega
  have W1 : W ≤ 100000000 := by have := (sm_w z hw2.2).2; omega
  have u0 := ha.1
  have u1 := ha.2
  have n1 : (N : Int) ≤ 100 := by omega
  have mk := fun x => run_make_row' (P := Try.prog) 32 3 (.int .i64 0) 8 Try.underlying32 infoI rfl .i64 .i64 N (by omega) (by omega) x
  simp only [made_inC] at mk
  have HB0 : Hid (∀ x, Below w.heap.size w x → Lies x (.slice (some a) N cap) z) := fun x hb => by rw [hN]; exact lies_below hL hb
  clear hu hz hc hL hw hw2 hV ha hlb hne hW hN
  go_enter Try.func11, Try.ntmps11
  go_wp2_with fail
  refine (pi _).mono ?_
  rintro e y ⟨rfl, hy⟩
  have B1 := same hy
  clear hy
  go_wp2_with fail
  refine (pt _ (HB0.out _ B1)).mono ?_
  rintro e y2 ⟨rfl, hy⟩
  have B2 := keepB B1 (same hy)
  clear hy B1 pi pt
  go_wp2_with fail
  have K1 : Hid (((y2.alloc (Obj.cells (inC N fun x => 0) 3)).alloc (Obj.cells (inC N fun x => 0) 3)).drew.heap[y2.heap.size]? = some (.cells (inC N fun x => 0) 3 (0, 0)) ∧ ((y2.alloc (Obj.cells (inC N fun x => 0) 3)).alloc (Obj.cells (inC N fun x => 0) 3)).drew.heap[y2.heap.size + 1]? = some (.cells (inC N fun x => 0) 3 (0, 0)) ∧ y2.heap.size ≠ y2.heap.size + 1 ∧ w.heap.size ≤ y2.heap.size ∧ w.heap.size ≤ y2.heap.size + 1 ∧ Below w.heap.size w (((y2.alloc (Obj.cells (inC N fun x => 0) 3)).alloc (Obj.cells (inC N fun x => 0) 3)).drew)) :=
    ⟨h2_0 y2 _ _, h2_1 y2 _ _, by omega, B2.size, by have := B2.size; omega, (keepB B2 (below_two y2 _ _)).drew⟩
  clear B2
  go_region
  · generalize ((y2.alloc (Obj.cells (inC N fun x => 0) 3)).alloc (Obj.cells (inC N fun x => 0) 3)).drew = y3 at *
    generalize y2.heap.size + 1 = gr at *
    generalize y2.heap.size = gs at *
    go_wp2_with fail
    clear mk
    go_loopw [10, 34] (fun vl vi wr => ∃ (j : Nat) (Lv : Int), j ≤ N ∧ vi = .int .i64 (j : Int) ∧ vl = .int .i64 Lv ∧ Hid (Lv = u - xS u z j) ∧ Hid (wr.heap[gs]? = some (.cells (inC N (upN (xF u z) j)) 3 (0, 0)) ∧ wr.heap[gr]? = some (.cells (inC N (upN (rF u z) j)) 3 (0, 0)) ∧ Below w.heap.size w wr)) (fun _ vi _ => N + 1 - (intOf vi).toNat)
    case atStart =>
      obtain ⟨k1, k2, k3, k4, k5, k6⟩ := K1.out
      refine ⟨0, u, Nat.zero_le _, rfl, rfl, ?_, ?_, ?_, k6⟩
      · show _ = _; simp [xS]
      · rw [k1, show inC N (upN (xF u z) 0) = inC N (fun _ => 0) from inC_ext fun i _ => by simp [upN]]
      · rw [k2, show inC N (upN (rF u z) 0) = inC N (fun _ => 0) from inC_ext fun i _ => by simp [upN]]
    case round =>
      obtain ⟨j, Lv, hj, rfl, rfl, HLv, HI⟩ := hrel
      obtain ⟨k1, k2, k3, k4, k5, k6⟩ := K1.out
      obtain ⟨h1, h2, h3⟩ := HI.out
      obtain ⟨d1, d2, d3, d4, d5, d6, d7, d8⟩ := HH.out
      by_cases hlt : j < N
      · have q : (j : Int) < (N : Int) := by omega
        have hjl : j < z.length := by omega
        obtain ⟨v, hv⟩ : ∃ v, v = z[j] := ⟨_, rfl⟩
        have cz : wr.cell? (a.add j) = some (.int .i64 v) := by
          have h0 := HC.out j hjl
          rw [hv]; exact (h3.cell (World.block_lt_of_cell? w _ h0)).trans h0
        have hvb := (isW_iff v).1 (by rw [hv]; exact List.all_eq_true.1 d5 _ (List.getElem_mem hjl))
        obtain ⟨UV, hUV⟩ : ∃ UV, u * v = UV := ⟨_, rfl⟩
        have UV0 : 0 ≤ UV := by rw [← hUV]; exact Int.mul_nonneg u0 hvb.1
        have UV1 : UV ≤ 1000000000000000000 := by
          rw [← hUV]
          have e1 := Int.mul_le_mul_of_nonneg_left hvb.2 u0
          have e2 : u * 1000000 ≤ 999999999999 * 1000000 := by omega
          omega
        obtain ⟨Q, hQ⟩ : ∃ Q, UV.tdiv W = Q := ⟨_, rfl⟩
        obtain ⟨R, hR⟩ : ∃ R, UV.tmod W = R := ⟨_, rfl⟩
        have hQx : xF u z j = Q := by rw [xF, zf_get z j hjl, ← hv, hUV, ← d1, ← hQ, Int.tdiv_eq_ediv_of_nonneg UV0]
        have hRx : rF u z j = R := by rw [rF, zf_get z j hjl, ← hv, hUV, ← d1, ← hR, Int.tmod_eq_emod_of_nonneg UV0]
        have Q0 : 0 ≤ Q := by rw [← hQ]; exact Int.tdiv_nonneg UV0 (by omega)
        have Q1 : Q ≤ 1000000000000000000 := by have := Int.tdiv_le_self W UV0; omega
        have R0 : 0 ≤ R := by rw [← hR]; exact Int.tmod_nonneg _ UV0
        have R1 : R < W := by rw [← hR]; exact Int.tmod_lt_of_pos _ W0
        have zW : ¬ W = 0 := by omega
        have cs : wr.cell? ⟨gs, j, none⟩ = some (.int .i64 (upN (xF u z) j j)) := cell_row h1 (inC_get _ _ _ hlt)
        have cr : wr.cell? ⟨gr, j, none⟩ = some (.int .i64 (upN (rF u z) j j)) := cell_row h2 (inC_get _ _ _ hlt)
        have fs : wr.frozen? ⟨gs, j, none⟩ = false := frozen_row h1
        have fr : wr.frozen? ⟨gr, j, none⟩ = false := frozen_row h2
        generalize upN (xF u z) j j = o1 at *
        generalize upN (rF u z) j j = o2 at *
        have cr2 : ∀ V, (wr.setCell ⟨gs, j, none⟩ V).cell? ⟨gr, j, none⟩ = some (.int .i64 o2) := fun V => (cell_ne V (fun e => k3 e.symm)).trans cr
        have fr2 : ∀ V, (wr.setCell ⟨gs, j, none⟩ V).frozen? ⟨gr, j, none⟩ = false := fun V => by rw [World.frozen?_setCell]; exact fr
        have HJ : Hid (xF u z j = Q ∧ rF u z j = R ∧ gs ≠ gr ∧ w.heap.size ≤ gs ∧ w.heap.size ≤ gr ∧ j < N) := ⟨hQx, hRx, k3, k4, k5, hlt⟩
        clear k1 k2 k3 k4 k5 k6 h1 h2 h3 d1 d2 d3 d4 d5 d6 d7 d8 hv hvb hQx hRx hlt hjl
        go_wp2_with fail
        go_region
        have P4 : Hid (((wr.setCell ⟨gs, j, none⟩ (.int .i64 Q)).setCell ⟨gr, j, none⟩ (.int .i64 R)).drew.heap[gs]? = some (.cells (inC N (upN (xF u z) (j + 1))) 3 (0, 0)) ∧ ((wr.setCell ⟨gs, j, none⟩ (.int .i64 Q)).setCell ⟨gr, j, none⟩ (.int .i64 R)).drew.heap[gr]? = some (.cells (inC N (upN (rF u z) (j + 1))) 3 (0, 0)) ∧ Below w.heap.size w (((wr.setCell ⟨gs, j, none⟩ (.int .i64 Q)).setCell ⟨gr, j, none⟩ (.int .i64 R)).drew)) := by
          obtain ⟨h1, h2, h3⟩ := HI.out
          obtain ⟨e1, e2, e3, e4, e5, e6⟩ := HJ.out
          refine ⟨?_, ?_, (((h3.setCell e4 _).setCell e5 _).drew)⟩
          · show ((wr.setCell ⟨gs, j, none⟩ (.int .i64 Q)).setCell ⟨gr, j, none⟩ (.int .i64 R)).heap[gs]? = _
            rw [Below.heap_setCell _ ⟨gr, j, none⟩ _ gs e3, setCell_heap h1, ← e1, upN_step _ _ _ e6]
          · show ((wr.setCell ⟨gs, j, none⟩ (.int .i64 Q)).setCell ⟨gr, j, none⟩ (.int .i64 R)).heap[gr]? = _
            rw [setCell_heap ((Below.heap_setCell wr ⟨gs, j, none⟩ _ gr (fun e => e3 e.symm)).trans h2), ← e2, upN_step _ _ _ e6]
        generalize ((wr.setCell ⟨gs, j, none⟩ (.int .i64 Q)).setCell ⟨gr, j, none⟩ (.int .i64 R)).drew = y4 at *
        have c4 : y4.cell? ⟨gs, j, none⟩ = some (.int .i64 Q) := by
          obtain ⟨e1, e2, e3, e4, e5, e6⟩ := HJ.out
          rw [cell_row P4.out.1 (inC_get _ _ _ e6), ← e1]; simp [upN]
        have Lb : Lv ≤ 999999999999 ∧ 0 ≤ Lv - Q := by
          obtain ⟨e1, e2, e3, e4, e5, e6⟩ := HJ.out
          obtain ⟨d1, d2, d3, d4, d5, d6, d7, d8⟩ := HH.out
          have m1 := xS_mono u z HX0.out j N (by omega)
          have m2 := xS_mono u z HX0.out (j + 1) N (by omega)
          rw [xS, e1] at m2
          have := HLv.out
          omega
        have L1 := Lb.1
        have L2 := Lb.2
        have HLv2 : Hid (Lv - Q = u - xS u z (j + 1)) := by
          show _ = _
          rw [xS, HJ.out.1, HLv.out]; omega
        clear cs cr fs fr cr2 fr2 Lb
        go_wp2_with fail
        exact ⟨⟨j + 1, Lv - Q, by have := HJ.out.2.2.2.2.2; omega, by go_num, by go_num, HLv2, P4⟩, by simp only [intOf]; have := HJ.out.2.2.2.2.2; omega⟩
      · obtain rfl : j = N := by omega
        have hrow : wr.heap[gr]? = some (.cells (inC j (rF u z)) 3 (0, 0)) := by
          rw [h2, show inC j (upN (rF u z) j) = inC j (rF u z) from inC_ext fun i hi => by simp [upN, hi]]
        have hsh : wr.heap[gs]? = some (.cells (inC j (xF u z)) 3 (0, 0)) := by
          rw [h1, show inC j (upN (xF u z) j) = inC j (xF u z) from inC_ext fun i hi => by simp [upN, hi]]
        have pg := greatest_any wr j gr (rF u z) d3 hrow
        obtain ⟨K, hK⟩ : ∃ K : Nat, Lv = (K : Int) := ⟨Lv.toNat, by have := HLv.out; omega⟩
        have hKn : (K : Int) < (j : Int) := by have := HLv.out; omega
        have HK : Hid ((u - xS u z j).toNat = K ∧ K < j ∧ j ≤ 100) := by have := HLv.out; exact ⟨by omega, by omega, d3⟩
        subst hK
        have HS : Hid (wr.heap[gs]? = some (.cells (inC j (xF u z)) 3 (0, 0)) ∧ Below w.heap.size w wr ∧ w.heap.size ≤ gs) := ⟨hsh, h3, k4⟩
        clear k1 k2 k3 k4 k5 k6 h1 h2 h3 d1 d2 d3 d4 d5 d6 d7 d8 HI HLv hrow hsh hlt
        go_wp2_with fail
        refine pg.mono ?_
        rintro e y5 ⟨g3, rfl, hg3, hb5, c, hc1, hc2, hc3, hc4⟩
        have H5 : Hid (y5.heap[gs]? = some (.cells (inC j (xF u z)) 3 (0, 0)) ∧ Below w.heap.size w y5 ∧ gs ≠ g3 ∧ Row y5 g3 j c ∧ Mix id c 0 j ∧ Srt (rF u z) c 0 j ∧ ∀ k, k < j → c k < j) := by
          obtain ⟨s1, s2, s3⟩ := HS.out
          have hlt := (Array.getElem?_eq_some_iff.1 s1).1
          exact ⟨kept hb5 s1, keepB s2 hb5, by omega, hc1, hc2, hc3, hc4⟩
        clear hb5 hc1 hc2 hc3 hc4 pg hg3
        go_wp2_with fail
        rename World => wr9
        go_loopw [67] (fun vi wr => ∃ t : Nat, t ≤ K ∧ vi = .int .i64 (t : Int) ∧ Hid (wr.heap[gs]? = some (.cells (inC j (more (xF u z) c t)) 3 (0, 0)) ∧ Row wr g3 j c ∧ Below w.heap.size w wr)) (fun vi _ => K + 1 - (intOf vi).toNat)
        case atStart =>
          obtain ⟨s1, s2, s3, s4, s5, s6, s7⟩ := H5.out
          exact ⟨0, Nat.zero_le _, rfl, s1, s4, s2⟩
        case round =>
          obtain ⟨t, ht, rfl, HI⟩ := hrel
          obtain ⟨s1, s2, s3, s4, s5, s6, s7⟩ := H5.out
          obtain ⟨b1, b2, b3⟩ := HK.out
          obtain ⟨h1, h2, h3⟩ := HI.out
          by_cases hlt : t < K
          · have q : (t : Int) < (K : Int) := by omega
            have ct := h2.cell (i := t) (by omega)
            obtain ⟨CT, hCT⟩ : ∃ CT : Nat, CT = c t := ⟨_, rfl⟩
            have hCTj : CT < j := by rw [hCT]; exact s7 t (by omega)
            have qc : (CT : Int) < (j : Int) := by omega
            rw [← hCT] at ct
            have cs : wr.cell? ⟨gs, CT, none⟩ = some (.int .i64 (more (xF u z) c t CT)) := cell_row h1 (inC_get _ _ _ hCTj)
            have fs : wr.frozen? ⟨gs, CT, none⟩ = false := frozen_row h1
            have mb := more_bounds (xF u z) c t CT
            have mx := HX1.out CT
            have m0 := HX0.out CT
            obtain ⟨mv, hmv⟩ : ∃ mv, mv = more (xF u z) c t CT := ⟨_, rfl⟩
            rw [← hmv] at cs mb
            have mv0 : 0 ≤ mv := by omega
            have mv1 : mv ≤ 2000000000000000000 := by omega
            have HN : Hid ((wr.setCell ⟨gs, CT, none⟩ (.int .i64 (mv + 1))).heap[gs]? = some (.cells (inC j (more (xF u z) c (t + 1))) 3 (0, 0)) ∧ Row (wr.setCell ⟨gs, CT, none⟩ (.int .i64 (mv + 1))) g3 j c ∧ Below w.heap.size w (wr.setCell ⟨gs, CT, none⟩ (.int .i64 (mv + 1))) ∧ t < K) := by
              refine ⟨?_, ?_, h3.setCell HS.out.2.2 _, hlt⟩
              · rw [setCell_heap h1, inC_set _ _ _ _ hCTj, hmv, more, hCT]
              · unfold Row
                rw [Below.heap_setCell wr ⟨gs, CT, none⟩ _ g3 (fun e => s3 e.symm)]; exact h2
            clear h1 h2 h3 HI s1 s2 s3 s4 s5 s6 s7 b1 b2 b3 hCT hCTj mb mx m0 hmv ht hlt
            go_wp2_with fail
            obtain ⟨f1, f2, f3, f4⟩ := HN.out
            exact ⟨⟨t + 1, by omega, by go_num, f1, f2, f3⟩, by simp only [intOf]; omega⟩
          · obtain rfl : t = K := by omega
            have q : ¬ (t : Int) < (t : Int) := by omega
            have HZ : Hid (wr.heap[gs]? = some (.cells (inC j (more (xF u z) c (u - xS u z j).toNat)) 3 (0, 0)) ∧ w.heap.size ≤ gs ∧ Below w.heap.size w wr ∧ So.Mix id c 0 j ∧ So.Srt (rF u z) c 0 j ∧ ∀ k, k < j → c k < j) := ⟨by rw [b1]; exact h1, HS.out.2.2, h3, s5, s6, s7⟩
            clear h1 h2 h3 HI s1 s2 s3 s4 s5 s6 s7 b1 b2 b3 ht hlt
            go_wp2_with fail
            go_ret2
            exact ⟨gs, rfl, c, HZ.out⟩
  · have K2 := K1.out
    replace K1 : Hid (_ ∧ _ ∧ _ ∧ _ ∧ _ ∧ _) := ⟨K2.2.1, K2.1, Ne.symm K2.2.2.1, K2.2.2.2.2.1, K2.2.2.2.1, K2.2.2.2.2.2⟩
    clear K2
    generalize ((y2.alloc (Obj.cells (inC N fun x => 0) 3)).alloc (Obj.cells (inC N fun x => 0) 3)).drew = y3 at *
    generalize y2.heap.size + 1 = gs at *
    generalize y2.heap.size = gr at *
    go_wp2_with fail
    clear mk
    go_loopw [10, 34] (fun vl vi wr => ∃ (j : Nat) (Lv : Int), j ≤ N ∧ vi = .int .i64 (j : Int) ∧ vl = .int .i64 Lv ∧ Hid (Lv = u - xS u z j) ∧ Hid (wr.heap[gs]? = some (.cells (inC N (upN (xF u z) j)) 3 (0, 0)) ∧ wr.heap[gr]? = some (.cells (inC N (upN (rF u z) j)) 3 (0, 0)) ∧ Below w.heap.size w wr)) (fun _ vi _ => N + 1 - (intOf vi).toNat)
    case atStart =>
      obtain ⟨k1, k2, k3, k4, k5, k6⟩ := K1.out
      refine ⟨0, u, Nat.zero_le _, rfl, rfl, ?_, ?_, ?_, k6⟩
      · show _ = _; simp [xS]
      · rw [k1, show inC N (upN (xF u z) 0) = inC N (fun _ => 0) from inC_ext fun i _ => by simp [upN]]
      · rw [k2, show inC N (upN (rF u z) 0) = inC N (fun _ => 0) from inC_ext fun i _ => by simp [upN]]
    case round =>
      obtain ⟨j, Lv, hj, rfl, rfl, HLv, HI⟩ := hrel
      obtain ⟨k1, k2, k3, k4, k5, k6⟩ := K1.out
      obtain ⟨h1, h2, h3⟩ := HI.out
      obtain ⟨d1, d2, d3, d4, d5, d6, d7, d8⟩ := HH.out
      by_cases hlt : j < N
      · have q : (j : Int) < (N : Int) := by omega
        have hjl : j < z.length := by omega
        obtain ⟨v, hv⟩ : ∃ v, v = z[j] := ⟨_, rfl⟩
        have cz : wr.cell? (a.add j) = some (.int .i64 v) := by
          have h0 := HC.out j hjl
          rw [hv]; exact (h3.cell (World.block_lt_of_cell? w _ h0)).trans h0
        have hvb := (isW_iff v).1 (by rw [hv]; exact List.all_eq_true.1 d5 _ (List.getElem_mem hjl))
        obtain ⟨UV, hUV⟩ : ∃ UV, u * v = UV := ⟨_, rfl⟩
        have UV0 : 0 ≤ UV := by rw [← hUV]; exact Int.mul_nonneg u0 hvb.1
        have UV1 : UV ≤ 1000000000000000000 := by
          rw [← hUV]
          have e1 := Int.mul_le_mul_of_nonneg_left hvb.2 u0
          have e2 : u * 1000000 ≤ 999999999999 * 1000000 := by omega
          omega
        obtain ⟨Q, hQ⟩ : ∃ Q, UV.tdiv W = Q := ⟨_, rfl⟩
        obtain ⟨R, hR⟩ : ∃ R, UV.tmod W = R := ⟨_, rfl⟩
        have hQx : xF u z j = Q := by rw [xF, zf_get z j hjl, ← hv, hUV, ← d1, ← hQ, Int.tdiv_eq_ediv_of_nonneg UV0]
        have hRx : rF u z j = R := by rw [rF, zf_get z j hjl, ← hv, hUV, ← d1, ← hR, Int.tmod_eq_emod_of_nonneg UV0]
        have Q0 : 0 ≤ Q := by rw [← hQ]; exact Int.tdiv_nonneg UV0 (by omega)
        have Q1 : Q ≤ 1000000000000000000 := by have := Int.tdiv_le_self W UV0; omega
        have R0 : 0 ≤ R := by rw [← hR]; exact Int.tmod_nonneg _ UV0
        have R1 : R < W := by rw [← hR]; exact Int.tmod_lt_of_pos _ W0
        have zW : ¬ W = 0 := by omega
        have cs : wr.cell? ⟨gs, j, none⟩ = some (.int .i64 (upN (xF u z) j j)) := cell_row h1 (inC_get _ _ _ hlt)
        have cr : wr.cell? ⟨gr, j, none⟩ = some (.int .i64 (upN (rF u z) j j)) := cell_row h2 (inC_get _ _ _ hlt)
        have fs : wr.frozen? ⟨gs, j, none⟩ = false := frozen_row h1
        have fr : wr.frozen? ⟨gr, j, none⟩ = false := frozen_row h2
        generalize upN (xF u z) j j = o1 at *
        generalize upN (rF u z) j j = o2 at *
        have cr2 : ∀ V, (wr.setCell ⟨gs, j, none⟩ V).cell? ⟨gr, j, none⟩ = some (.int .i64 o2) := fun V => (cell_ne V (fun e => k3 e.symm)).trans cr
        have fr2 : ∀ V, (wr.setCell ⟨gs, j, none⟩ V).frozen? ⟨gr, j, none⟩ = false := fun V => by rw [World.frozen?_setCell]; exact fr
        have HJ : Hid (xF u z j = Q ∧ rF u z j = R ∧ gs ≠ gr ∧ w.heap.size ≤ gs ∧ w.heap.size ≤ gr ∧ j < N) := ⟨hQx, hRx, k3, k4, k5, hlt⟩
        clear k1 k2 k3 k4 k5 k6 h1 h2 h3 d1 d2 d3 d4 d5 d6 d7 d8 hv hvb hQx hRx hlt hjl
        go_wp2_with fail
        go_region
        have P4 : Hid (((wr.setCell ⟨gs, j, none⟩ (.int .i64 Q)).setCell ⟨gr, j, none⟩ (.int .i64 R)).drew.heap[gs]? = some (.cells (inC N (upN (xF u z) (j + 1))) 3 (0, 0)) ∧ ((wr.setCell ⟨gs, j, none⟩ (.int .i64 Q)).setCell ⟨gr, j, none⟩ (.int .i64 R)).drew.heap[gr]? = some (.cells (inC N (upN (rF u z) (j + 1))) 3 (0, 0)) ∧ Below w.heap.size w (((wr.setCell ⟨gs, j, none⟩ (.int .i64 Q)).setCell ⟨gr, j, none⟩ (.int .i64 R)).drew)) := by
          obtain ⟨h1, h2, h3⟩ := HI.out
          obtain ⟨e1, e2, e3, e4, e5, e6⟩ := HJ.out
          refine ⟨?_, ?_, (((h3.setCell e4 _).setCell e5 _).drew)⟩
          · show ((wr.setCell ⟨gs, j, none⟩ (.int .i64 Q)).setCell ⟨gr, j, none⟩ (.int .i64 R)).heap[gs]? = _
            rw [Below.heap_setCell _ ⟨gr, j, none⟩ _ gs e3, setCell_heap h1, ← e1, upN_step _ _ _ e6]
          · show ((wr.setCell ⟨gs, j, none⟩ (.int .i64 Q)).setCell ⟨gr, j, none⟩ (.int .i64 R)).heap[gr]? = _
            rw [setCell_heap ((Below.heap_setCell wr ⟨gs, j, none⟩ _ gr (fun e => e3 e.symm)).trans h2), ← e2, upN_step _ _ _ e6]
        generalize ((wr.setCell ⟨gs, j, none⟩ (.int .i64 Q)).setCell ⟨gr, j, none⟩ (.int .i64 R)).drew = y4 at *
        have c4 : y4.cell? ⟨gs, j, none⟩ = some (.int .i64 Q) := by
          obtain ⟨e1, e2, e3, e4, e5, e6⟩ := HJ.out
          rw [cell_row P4.out.1 (inC_get _ _ _ e6), ← e1]; simp [upN]
        have Lb : Lv ≤ 999999999999 ∧ 0 ≤ Lv - Q := by
          obtain ⟨e1, e2, e3, e4, e5, e6⟩ := HJ.out
          obtain ⟨d1, d2, d3, d4, d5, d6, d7, d8⟩ := HH.out
          have m1 := xS_mono u z HX0.out j N (by omega)
          have m2 := xS_mono u z HX0.out (j + 1) N (by omega)
          rw [xS, e1] at m2
          have := HLv.out
          omega
        have L1 := Lb.1
        have L2 := Lb.2
        have HLv2 : Hid (Lv - Q = u - xS u z (j + 1)) := by
          show _ = _
          rw [xS, HJ.out.1, HLv.out]; omega
        clear cs cr fs fr cr2 fr2 Lb
        go_wp2_with fail
        exact ⟨⟨j + 1, Lv - Q, by have := HJ.out.2.2.2.2.2; omega, by go_num, by go_num, HLv2, P4⟩, by simp only [intOf]; have := HJ.out.2.2.2.2.2; omega⟩
      · obtain rfl : j = N := by omega
        have hrow : wr.heap[gr]? = some (.cells (inC j (rF u z)) 3 (0, 0)) := by
          rw [h2, show inC j (upN (rF u z) j) = inC j (rF u z) from inC_ext fun i hi => by simp [upN, hi]]
        have hsh : wr.heap[gs]? = some (.cells (inC j (xF u z)) 3 (0, 0)) := by
          rw [h1, show inC j (upN (xF u z) j) = inC j (xF u z) from inC_ext fun i hi => by simp [upN, hi]]
        have pg := greatest_any wr j gr (rF u z) d3 hrow
        obtain ⟨K, hK⟩ : ∃ K : Nat, Lv = (K : Int) := ⟨Lv.toNat, by have := HLv.out; omega⟩
        have hKn : (K : Int) < (j : Int) := by have := HLv.out; omega
        have HK : Hid ((u - xS u z j).toNat = K ∧ K < j ∧ j ≤ 100) := by have := HLv.out; exact ⟨by omega, by omega, d3⟩
        subst hK
        have HS : Hid (wr.heap[gs]? = some (.cells (inC j (xF u z)) 3 (0, 0)) ∧ Below w.heap.size w wr ∧ w.heap.size ≤ gs) := ⟨hsh, h3, k4⟩
        clear k1 k2 k3 k4 k5 k6 h1 h2 h3 d1 d2 d3 d4 d5 d6 d7 d8 HI HLv hrow hsh hlt
        go_wp2_with fail
        refine pg.mono ?_
        rintro e y5 ⟨g3, rfl, hg3, hb5, c, hc1, hc2, hc3, hc4⟩
        have H5 : Hid (y5.heap[gs]? = some (.cells (inC j (xF u z)) 3 (0, 0)) ∧ Below w.heap.size w y5 ∧ gs ≠ g3 ∧ Row y5 g3 j c ∧ Mix id c 0 j ∧ Srt (rF u z) c 0 j ∧ ∀ k, k < j → c k < j) := by
          obtain ⟨s1, s2, s3⟩ := HS.out
          have hlt := (Array.getElem?_eq_some_iff.1 s1).1
          exact ⟨kept hb5 s1, keepB s2 hb5, by omega, hc1, hc2, hc3, hc4⟩
        clear hb5 hc1 hc2 hc3 hc4 pg hg3
        go_wp2_with fail
        rename World => wr9
        go_loopw [67] (fun vi wr => ∃ t : Nat, t ≤ K ∧ vi = .int .i64 (t : Int) ∧ Hid (wr.heap[gs]? = some (.cells (inC j (more (xF u z) c t)) 3 (0, 0)) ∧ Row wr g3 j c ∧ Below w.heap.size w wr)) (fun vi _ => K + 1 - (intOf vi).toNat)
        case atStart =>
          obtain ⟨s1, s2, s3, s4, s5, s6, s7⟩ := H5.out
          exact ⟨0, Nat.zero_le _, rfl, s1, s4, s2⟩
        case round =>
          obtain ⟨t, ht, rfl, HI⟩ := hrel
          obtain ⟨s1, s2, s3, s4, s5, s6, s7⟩ := H5.out
          obtain ⟨b1, b2, b3⟩ := HK.out
          obtain ⟨h1, h2, h3⟩ := HI.out
          by_cases hlt : t < K
          · have q : (t : Int) < (K : Int) := by omega
            have ct := h2.cell (i := t) (by omega)
            obtain ⟨CT, hCT⟩ : ∃ CT : Nat, CT = c t := ⟨_, rfl⟩
            have hCTj : CT < j := by rw [hCT]; exact s7 t (by omega)
            have qc : (CT : Int) < (j : Int) := by omega
            rw [← hCT] at ct
            have cs : wr.cell? ⟨gs, CT, none⟩ = some (.int .i64 (more (xF u z) c t CT)) := cell_row h1 (inC_get _ _ _ hCTj)
            have fs : wr.frozen? ⟨gs, CT, none⟩ = false := frozen_row h1
            have mb := more_bounds (xF u z) c t CT
            have mx := HX1.out CT
            have m0 := HX0.out CT
            obtain ⟨mv, hmv⟩ : ∃ mv, mv = more (xF u z) c t CT := ⟨_, rfl⟩
            rw [← hmv] at cs mb
            have mv0 : 0 ≤ mv := by omega
            have mv1 : mv ≤ 2000000000000000000 := by omega
            have HN : Hid ((wr.setCell ⟨gs, CT, none⟩ (.int .i64 (mv + 1))).heap[gs]? = some (.cells (inC j (more (xF u z) c (t + 1))) 3 (0, 0)) ∧ Row (wr.setCell ⟨gs, CT, none⟩ (.int .i64 (mv + 1))) g3 j c ∧ Below w.heap.size w (wr.setCell ⟨gs, CT, none⟩ (.int .i64 (mv + 1))) ∧ t < K) := by
              refine ⟨?_, ?_, h3.setCell HS.out.2.2 _, hlt⟩
              · rw [setCell_heap h1, inC_set _ _ _ _ hCTj, hmv, more, hCT]
              · unfold Row
                rw [Below.heap_setCell wr ⟨gs, CT, none⟩ _ g3 (fun e => s3 e.symm)]; exact h2
            clear h1 h2 h3 HI s1 s2 s3 s4 s5 s6 s7 b1 b2 b3 hCT hCTj mb mx m0 hmv ht hlt
            go_wp2_with fail
            obtain ⟨f1, f2, f3, f4⟩ := HN.out
            exact ⟨⟨t + 1, by omega, by go_num, f1, f2, f3⟩, by simp only [intOf]; omega⟩
          · obtain rfl : t = K := by omega
            have q : ¬ (t : Int) < (t : Int) := by omega
            have HZ : Hid (wr.heap[gs]? = some (.cells (inC j (more (xF u z) c (u - xS u z j).toNat)) 3 (0, 0)) ∧ w.heap.size ≤ gs ∧ Below w.heap.size w wr ∧ So.Mix id c 0 j ∧ So.Srt (rF u z) c 0 j ∧ ∀ k, k < j → c k < j) := ⟨by rw [b1]; exact h1, HS.out.2.2, h3, s5, s6, s7⟩
            clear h1 h2 h3 HI s1 s2 s3 s4 s5 s6 s7 b1 b2 b3 ht hlt
            go_wp2_with fail
            go_ret2
            exact ⟨gs, rfl, c, HZ.out⟩
/-- Share's error -/
def shE (u : Int) (z : List Int) : Int := if isA u then (if tgB z then 0 else 1) else 71
set_option maxRecDepth 100000 in
set_option maxHeartbeats 400000 in
theorem share_bad (u : Int) (z : List Int) (v : Value) (w : World) (hl : z.length ≤ 1048700) (h : Lies w v z) (hb : isA u = true → tgB z = false) :
    Calls Try.prog 11 #[.int .i64 u, v] w fun e w' => e = .returned (.tuple #[.slice none 0 0, .int .i64 (shE u z)]) ∧ Below w.heap.size w w' := by
  have pi := fun w => isAmount_any u w
  have pt := together_lies z v w hl h
  have HL : Hid (Lies w v z) := h
  have HT : Hid (∀ x, Below w.heap.size w x → Calls Try.prog 20 #[v] x fun e w' => e = .returned (.tuple #[.int .i64 (tgV z), .bool (tgB z)]) ∧ w' = x) := fun x hx => together_lies z v x hl (lies_below h hx)
  cases hu : isA u
  · have hE : shE u z = 71 := by rw [shE, hu]; rfl
    rw [hE]
    rw [hu] at pi
    clear hb hu hE pt h
    go_enter Try.func11, Try.ntmps11
    go_wp2_with fail
    refine (pi _).mono ?_
    rintro e y ⟨rfl, hy⟩
    have B1 := same hy
    clear hy
    go_wp2_with fail
    go_ret2
    exact ⟨rfl, B1⟩
  · have ht := hb hu
    have hE : shE u z = 1 := by rw [shE, hu, ht]; rfl
    rw [hE]
    rw [hu] at pi
    have HT2 : Hid (∀ x, Below w.heap.size w x → Calls Try.prog 20 #[v] x fun e w' => e = .returned (.tuple #[.int .i64 (tgV z), .bool false]) ∧ w' = x) := fun x hx => by have := HT.out x hx; rwa [ht] at this
    generalize tgV z = tv at *
    clear hb hu hE pt h ht HT
    go_enter Try.func11, Try.ntmps11
    go_wp2_with fail
    refine (pi _).mono ?_
    rintro e y ⟨rfl, hy⟩
    have B1 := same hy
    clear hy
    go_wp2_with fail
    refine (HT2.out _ B1).mono ?_
    rintro e y2 ⟨rfl, hy⟩
    have B2 := keepB B1 (same hy)
    clear hy
    go_wp2_with fail
    go_ret2
    exact ⟨rfl, B2⟩
theorem share_good (u : Int) (z : List Int) (v : Value) (w : World) (h : Lies w v z) (hu : isA u = true) (hz : tgB z = true) :
    Calls Try.prog 11 #[.int .i64 u, v] w fun e w' => ∃ g c, e = .returned (.tuple #[.slice (some ⟨g, 0, none⟩) z.length z.length, .int .i64 0]) ∧ w'.heap[g]? = some (.cells (inC z.length (more (xF u z) c (u - xS u z z.length).toNat)) 3 (0, 0)) ∧ w.heap.size ≤ g ∧ Below w.heap.size w w' ∧ So.Mix id c 0 z.length ∧ So.Srt (rF u z) c 0 z.length ∧ ∀ k, k < z.length → c k < z.length := by
  have h' := h
  rcases h with ⟨rfl, rfl⟩ | ⟨a, cap, rfl, _, _, hc, _⟩
  · simp [tgB, wOK, sm] at hz
  · exact share_ok u z a w cap hu hz hc h'
end Go.Proofs.Ytaacocliclibgaa.Sj
