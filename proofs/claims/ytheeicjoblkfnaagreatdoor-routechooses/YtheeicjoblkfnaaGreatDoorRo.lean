/- RouteChooses: the walk. -/
import Derived.Test.YtheeicjoblkfnaaGreatDoorRn
import Derived.Test.YtheeicjoblkfnaaGreatDoorRk
namespace Go.Proofs.YtheeicjoblkfnaaGreatDoor.Ro
set_option linter.unusedVariables false
set_option linter.unusedSimpArgs false
open Go.RowKit Lib0 Kb Rp Rw Rs Rc Rn
abbrev tG : TypeId := 47
theorem cells6 {y : World} {b : Nat} {c0 c1 c2 c3 c4 c5 : Value} (h : y.heap[b]? = some (.cells #[c0, c1, c2, c3, c4, c5] tG)) : y.cell? ⟨b, 0, none⟩ = some c0 ∧ y.cell? ⟨b, 1, none⟩ = some c1 ∧ y.cell? ⟨b, 2, none⟩ = some c2 ∧ y.cell? ⟨b, 3, none⟩ = some c3 ∧ y.cell? ⟨b, 4, none⟩ = some c4 ∧ y.cell? ⟨b, 5, none⟩ = some c5 := by
  refine ⟨?_, ?_, ?_, ?_, ?_, ?_⟩ <;> simp [World.cell?, h]
theorem add_of (b i : Nat) : (⟨b, 0, none⟩ : Addr).add i = ⟨b, i, none⟩ := by unfold Addr.add; split <;> simp_all
theorem ri_tw {y : World} {T : Nat} {z : List Int} (h : y.heap[T]? = some (.cells (vC (z.length + 8) (tw z)) 3)) (hz : z.length ≤ 3000) : RI y (.slice (some ⟨T, 0, none⟩) z.length (z.length + 8)) z := by
  refine ⟨_, _, rfl, by omega, fun i hi => ⟨_, rfl, ?_⟩⟩
  rw [add_of, cell_vC h i (by omega), tw, dif_pos hi]
theorem rb_bw {y : World} {H M : Nat} {rd : List Bool} (h : y.heap[H]? = some (.cells (vC (M + 8) (bw rd)) 4)) (hM : rd.length = M) (hz : M ≤ 3000) : RB y (.slice (some ⟨H, 0, none⟩) M (M + 8)) rd := by
  subst hM
  refine ⟨_, _, rfl, by omega, fun i hi => ⟨_, rfl, ?_⟩⟩
  rw [add_of, cell_vC h i (by omega), bw, dif_pos hi]
/-- truths turned about, with true ones behind -/
def fl (rd : List Bool) : Nat → Value := fun i => .bool (if h : i < rd.length then !rd[i] else true)
theorem fl_bw (rd : List Bool) : fl rd = bw (rd.map not) := by
  funext i
  unfold fl bw
  by_cases h : i < rd.length
  · rw [dif_pos h, dif_pos (by simpa using h)]; simp
  · rw [dif_neg h, dif_neg (by simpa using h)]
theorem fl_all (rd : List Bool) (M : Nat) (hM : rd.length = M) : vC (M + 8) (upTo (fl rd) (bw rd) M) = vC (M + 8) (bw (rd.map not)) := by
  rw [← fl_bw]
  refine vC_ext fun i _ => ?_
  unfold upTo
  split
  · rfl
  · rename_i h
    unfold fl bw
    rw [dif_neg (by omega), dif_neg (by omega)]
theorem kfr {H : Nat} {w x : World} {b : Nat} {o : Obj} (h : Fr [H] w x) (hb : w.heap[b]? = some o) (hne : b ≠ H) : x.heap[b]? = some o := (h.block b (Array.getElem?_eq_some_iff.1 hb).1 (by simpa using hne)).trans hb
theorem ty_ne {y : World} {p q : Nat} {c d : Array Value} {t u : TypeId} (h : y.heap[p]? = some (.cells c t)) (k : y.heap[q]? = some (.cells d u)) (hn : t ≠ u) : p ≠ q := by
  rintro rfl
  rw [h] at k
  cases k
  exact hn rfl
set_option maxRecDepth 100000 in
set_option maxHeartbeats 3200000 in
theorem walk (nm : ByteArray) (s1 s2 s3 s4 : Int) (v : Value) (z : List Int) (u : Value) (rd : List Bool) (w : World) (hv : RI w v z) (hu : RB w u rd) :
    Calls Tryz.prog 4 #[.agg #[.string nm, v, .int .i64 s1, .int .i64 s2, .int .i64 s3, .int .i64 s4], u] w fun e w' => e = .returned (.bool true) ∧ Below w.heap.size w w' := by
  have pk := fun w => Rk.known_any w
  have LV : Hid (∀ x, Below w.heap.size w x → RI x v z) := fun x hx => hv.below hx
  have LU : Hid (∀ x, Below w.heap.size w x → RB x u rd) := fun x hx => hu.below hx
  obtain ⟨o, cap, rfl, hz, -⟩ := hv
  obtain ⟨p, cap2, rfl, hr, -⟩ := hu
  obtain ⟨N, HN⟩ : ∃ N, Hid (z.length = N) := ⟨_, rfl⟩
  obtain ⟨M, HM⟩ : ∃ M, Hid (rd.length = M) := ⟨_, rfl⟩
  rw [HN.out] at LV hz ⊢
  rw [HM.out] at LU hr ⊢
  have hz0 : Hid (N ≤ 9223372036854775807) := hz
  have hr0 : Hid (M ≤ 9223372036854775807) := hr
  clear hz hr
  go_enter Tryz.func4, Tryz.ntmps4
  go_wp2_with fail
  have hG := h1_0 w (.cells #[.string nm, .slice o N cap, .int .i64 s1, .int .i64 s2, .int .i64 s3, .int .i64 s4] tG)
  have hb := below_one w (.cells #[.string nm, .slice o N cap, .int .i64 s1, .int .i64 s2, .int .i64 s3, .int .i64 s4] tG)
  generalize w.alloc (.cells #[.string nm, .slice o N cap, .int .i64 s1, .int .i64 s2, .int .i64 s3, .int .i64 s4] tG) = y0 at *
  refine (pk _).mono ?_
  rintro e y1 ⟨rfl, k⟩
  replace hG := kept k hG
  replace hb := keepB hb k
  have HY1 : Hid (w.heap.size ≤ y1.heap.size) := hb.size
  have HLT : Hid (w.heap.size < y1.heap.size) := (Array.getElem?_eq_some_iff.1 hG).1
  clear k pk
  by_cases h1 : (3000 : Int) < (N : Int)
  · obtain ⟨-, c1, -, -, -, -⟩ := cells6 hG
    go_wp2_with fail
    go_ret
    exact ⟨rfl, hb⟩
  · by_cases h2 : (3000 : Int) < (M : Int)
    · obtain ⟨-, c1, -, -, -, -⟩ := cells6 hG
      go_wp2_with fail
      go_ret
      exact ⟨rfl, hb⟩
    · have hN3 : Hid (N ≤ 3000) := by show _ ≤ _; omega
      have hM3 : Hid (M ≤ 3000) := by show _ ≤ _; omega
      have hGa := kept (below_one y1 (.cells #[.string nm, .slice o N cap, .int .i64 s1, .int .i64 s2, .int .i64 s3, .int .i64 s4] tG)) hG
      obtain ⟨c0, c1, c2, c3, c4, c5⟩ := cells6 hG
      obtain ⟨-, d1, -, -, -, -⟩ := cells6 hGa
      have e1 : decide ((3000 : Int) < (N : Int)) = false := by simp; omega
      have e2 : decide ((3000 : Int) < (M : Int)) = false := by simp; omega
      go_wp2_with fail
      have hO := h1_0 y1 (.cells #[.string nm, .slice o N cap, .int .i64 s1, .int .i64 s2, .int .i64 s3, .int .i64 s4] tG)
      replace hG := hGa
      replace hb := keepB hb (below_one y1 (.cells #[.string nm, .slice o N cap, .int .i64 s1, .int .i64 s2, .int .i64 s3, .int .i64 s4] tG))
      have hOw : Hid (w.heap.size ≤ y1.heap.size) := by
        show _ ≤ _
        exact HY1.out
      obtain ⟨O, HO⟩ : ∃ O, Hid (y1.heap.size = O) := ⟨_, rfl⟩
      rw [HO.out] at hO hOw HLT ⊢
      clear hGa c0 c1 c2 c3 c4 c5 d1 e1 e2
      generalize y1.alloc (.cells #[.string nm, .slice o N cap, .int .i64 s1, .int .i64 s2, .int .i64 s3, .int .i64 s4] tG) = y2 at *
      clear HO HY1
      obtain ⟨N8, HN8⟩ : ∃ N8, Hid (N + 8 = N8) := ⟨_, rfl⟩
      obtain ⟨M8, HM8⟩ : ∃ M8, Hid (M + 8 = M8) := ⟨_, rfl⟩
      have pt := twins_any z (.slice o N cap) y2 (LV.out _ hb) (by rw [HN.out]; exact hN3.out)
      rw [HN.out, HN8.out] at pt
      refine pt.mono ?_
      rintro e y3 ⟨rfl, hT, k⟩
      have hGO : w.heap.size ≠ O := by
        have := hb.size
        intro e
        have h9 := HLT.out
        omega
      clear pt
      obtain ⟨T, HT⟩ : ∃ T, Hid (y2.heap.size = T) := ⟨_, rfl⟩
      rw [HT.out] at hT ⊢
      replace hG := kept k hG
      replace hO := kept k hO
      replace hb := keepB hb k
      have fO := froz hO 1
      have cO : y3.cell? ⟨O, 1, none⟩ = some (.slice o N cap) := (cells6 hO).2.1
      clear k HT y2
      have hO2 : (y3.setCell ⟨O, 1, none⟩ (.slice (some ⟨T, 0, none⟩) N N8)).heap[O]? = some (.cells #[.string nm, .slice (some ⟨T, 0, none⟩) N N8, .int .i64 s1, .int .i64 s2, .int .i64 s3, .int .i64 s4] tG) := setCell_heap hO 1 _
      have hT2 := (setCell_ne (w := y3) (g := O) (k := T) (ty_ne hO hT (by decide)) 1 (.slice (some ⟨T, 0, none⟩) N N8)).trans hT
      have hG2 := (setCell_ne (w := y3) (g := O) (k := w.heap.size) (fun e => hGO e.symm) 1 (.slice (some ⟨T, 0, none⟩) N N8)).trans hG
      have hb2 := hb.setCell (p := ⟨O, 1, none⟩) hOw.out (.slice (some ⟨T, 0, none⟩) N N8)
      go_wp2_with fail
      clear fO cO hO hT hG hb
      generalize y3.setCell ⟨O, 1, none⟩ (.slice (some ⟨T, 0, none⟩) N N8) = y4 at *
      have pb := bools_any rd (.slice p M cap2) y4 (LU.out _ hb2) (by rw [HM.out]; exact hM3.out)
      rw [HM.out, HM8.out] at pb
      refine pb.mono ?_
      rintro e y5 ⟨rfl, hH, k⟩
      clear pb
      have hHw : Hid (w.heap.size ≤ y4.heap.size) := hb2.size
      obtain ⟨H, HH⟩ : ∃ H, Hid (y4.heap.size = H) := ⟨_, rfl⟩
      rw [HH.out] at hH hHw ⊢
      replace hG2 := kept k hG2
      replace hO2 := kept k hO2
      replace hT2 := kept k hT2
      replace hb2 := keepB hb2 k
      clear k HH y4
      have c1 := (cells6 hG2).2.1
      have pc := chooser_any z rd (.slice o N cap) (.slice p M cap2) y5 (LV.out _ hb2) (LU.out _ hb2)
      go_wp2_with fail
      refine pc.mono ?_
      rintro e y ⟨he, hy⟩
      obtain ⟨r1, r2, hr12⟩ : ∃ r1 r2, chE (cho z rd) = .returned (.tuple #[.int .i64 r1, .bool r2]) := ⟨_, _, rfl⟩
      rw [hr12] at he
      subst he
      rw [hy]
      clear hy y pc c1
      have HR12 : Hid (chE (cho z rd) = .returned (.tuple #[.int .i64 r1, .bool r2])) := hr12
      clear hr12
      go_wp2_with fail
      go_loopw [10, 11, 12] (fun iv _ _ wr => ∃ i : Nat, iv = .int .i64 (i : Int) ∧ i ≤ 2 ∧ Hid (Below y5.heap.size y5 wr)) (fun iv _ _ _ => 3 - (intOf iv).toNat)
      case atStart => exact ⟨0, rfl, by omega, Below.refl _ _⟩
      case round =>
        obtain ⟨i, rfl, hi, HB⟩ := hrel
        by_cases hi2 : i < 2
        · have q0 : (i : Int) < 2 := by omega
          have q1 : (i : Int) + 1 ≤ 9223372036854775807 := by omega
          obtain ⟨c0, c1, c2, c3, c4, c5⟩ := cells6 (kept HB.out hO2)
          have rT := ri_tw (T := T) (z := z) (by rw [HN.out, HN8.out]; exact kept HB.out hT2) (by rw [HN.out]; exact hN3.out)
          have rH := rb_bw (H := H) (M := M) (rd := rd) (by rw [HM8.out]; exact kept HB.out hH) HM.out hM3.out
          rw [HN.out, HN8.out] at rT
          rw [HM8.out] at rH
          have pc := choose_any z rd nm s1 s2 s3 s4 _ _ wr rT rH
          rw [HR12.out] at pc
          have HI : Hid (i < 2) := hi2
          clear rT rH hi hi2
          go_wp2_with fail
          refine pc.mono ?_
          rintro e y ⟨rfl, k⟩
          have HB2 : Hid (Below y5.heap.size y5 y) := keepB HB.out k
          clear pc k c0 c1 c2 c3 c4 c5
          go_wp2_with fail
          exact ⟨⟨i + 1, by simp, HI.out, HB2⟩, by simp only [intOf]; have := HI.out; omega⟩
        · have q0 : ¬ (i : Int) < 2 := by omega
          have hO3 := kept HB.out hO2
          have hT3 := kept HB.out hT2
          have hG3 := kept HB.out hG2
          have hH3 := kept HB.out hH
          have hb3 := keepB hb2 HB.out
          have c1 := (cells6 hO3).2.1
          have d1 := (cells6 hG3).2.1
          have ps := stills_any z (.slice o N cap) T wr (LV.out _ hb3) (by rw [HN.out]; exact hN3.out) (by rw [HN.out, HN8.out]; exact hT3)
          rw [HN.out, HN8.out] at ps
          clear hi hi2 HB hO2 hT2 hG2 hH hb2
          go_wp2_with fail
          refine ps.mono ?_
          rintro e y6 ⟨rfl, k⟩
          replace hO3 := kept k hO3
          replace hT3 := kept k hT3
          replace hG3 := kept k hG3
          replace hH3 := kept k hH3
          replace hb3 := keepB hb3 k
          clear k ps c1 d1 wr
          have e8 : (M : Int) + 8 = (M8 : Int) := by have := HM8.out; omega
          have m1 : (M : Int) ≤ 3000 := by have := hM3.out; omega
          have m2 : (0 : Int) ≤ (M8 : Int) := by omega
          have m3 : ¬ M8 = 0 := by have := HM8.out; omega
          go_wp2_with fail
          go_loopw [13, 15] (fun sv iv wr => ∃ i : Nat, sv = .bool true ∧ iv = .int .i64 (i : Int) ∧ i ≤ M8 ∧ Hid (Below y6.heap.size y6 wr)) (fun _ iv _ => M8 + 1 - (intOf iv).toNat)
          case atStart => exact ⟨0, rfl, rfl, by omega, Below.refl _ _⟩
          case round =>
            obtain ⟨i, rfl, rfl, hi, HB⟩ := hrel
            by_cases hi2 : i < M8
            · have q0 : (i : Int) < (M8 : Int) := by omega
              have q1 : (0 : Int) ≤ (i : Int) := by omega
              have q2 : (i : Int) + 1 ≤ 9223372036854775807 := by omega
              have k1 := cell_vC (by rw [← HM8.out] at hH3; exact kept HB.out hH3) i (by rw [HM8.out]; exact hi2)
              have HI : Hid (i < M8) := hi2
              by_cases hiM : i < M
              · have q3 : (i : Int) < (M : Int) := by omega
                have q4 : decide (M ≤ i) = false := by simp; omega
                have q6 : ¬ (M : Int) ≤ (i : Int) := by omega
                have hur := LU.out _ (keepB hb3 HB.out)
                obtain ⟨o', cap', e', -, hc⟩ := hur
                rw [HM.out] at e'
                cases e'
                obtain ⟨a, rfl, cz⟩ := hc i (by rw [HM.out]; exact hiM)
                rw [bw, dif_pos (by rw [HM.out]; exact hiM)] at k1
                obtain ⟨bb, hbb⟩ : ∃ bb, rd[i]'(by rw [HM.out]; exact hiM) = bb := ⟨_, rfl⟩
                rw [hbb] at k1 cz
                clear hbb hc hi hi2 hiM
                go_wp2_with fail
                go_quiet (fail)
                go_wp2_with fail
                exact ⟨⟨i + 1, by simp, by simp, HI.out, below_drewN HB.out _⟩, by simp only [intOf]; have := HI.out; omega⟩
              · have q3 : decide (M ≤ i) = true := by simp; omega
                have q4 : (M : Int) ≤ (i : Int) := by omega
                rw [bw, dif_neg (by rw [HM.out]; exact hiM)] at k1
                clear hi hi2 hiM
                go_wp2_with fail
                go_quiet (fail)
                go_wp2_with fail
                exact ⟨⟨i + 1, by simp, by simp, HI.out, below_drewN HB.out _⟩, by simp only [intOf]; have := HI.out; omega⟩
            · have q0 : ¬ (i : Int) < (M8 : Int) := by omega
              replace hO3 := kept HB.out hO3
              replace hT3 := kept HB.out hT3
              replace hH3 := kept HB.out hH3
              replace hb3 := keepB hb3 HB.out
              clear HB hi hi2 hG3
              obtain ⟨y7, hy7⟩ : ∃ y7, wr = y7 := ⟨_, rfl⟩
              rw [hy7] at hO3 hT3 hH3 hb3 ⊢
              clear hy7
              go_wp2_with fail
              go_loopw [16] (fun iv wr => ∃ i : Nat, iv = .int .i64 (i : Int) ∧ i ≤ M ∧ wr.heap[H]? = some (.cells (vC M8 (upTo (fl rd) (bw rd) i)) 4) ∧ Hid (Fr [H] y7 wr)) (fun iv _ => M + 1 - (intOf iv).toNat)
              case atStart => exact ⟨0, rfl, by omega, by rw [upTo_zero]; exact hH3, Fr.refl _ _⟩
              case round =>
                obtain ⟨i, rfl, hi, hHw2, HF⟩ := hrel
                by_cases hi2 : i < M
                · have q0 : (i : Int) < (M : Int) := by omega
                  have q1 : (0 : Int) ≤ (i : Int) := by omega
                  have q2 : (i : Int) + 1 ≤ 9223372036854775807 := by omega
                  have hi8 : i < M8 := by have := HM8.out; omega
                  have k1 := cell_vC hHw2 i hi8
                  have k2 := froz hHw2 i
                  rw [upTo, if_neg (by omega), bw, dif_pos (by rw [HM.out]; exact hi2)] at k1
                  obtain ⟨bb, hbb⟩ : ∃ bb, rd[i]'(by rw [HM.out]; exact hi2) = bb := ⟨_, rfl⟩
                  rw [hbb] at k1
                  have HG2 : Hid ((wr.setCell ⟨H, i, none⟩ (.bool !bb)).heap[H]? = some (.cells (vC M8 (upTo (fl rd) (bw rd) (i + 1))) 4)) := by
                    show _ = _
                    rw [setCell_heap hHw2, ← upTo_step _ _ _ _ hi8, fl, dif_pos (by rw [HM.out]; exact hi2), hbb]
                  have HF2 : Hid (Fr [H] y7 (wr.setCell ⟨H, i, none⟩ (.bool !bb))) := HF.out.set (.inl (by simp)) _ _
                  have HI : Hid (i < M) := hi2
                  clear hbb hHw2 hi hi2 hi8 HF
                  go_wp2_with fail
                  exact ⟨⟨i + 1, by simp, HI.out, HG2.out, HF2⟩, by simp only [intOf]; have := HI.out; omega⟩
                · have q0 : ¬ (i : Int) < (M : Int) := by omega
                  obtain rfl : i = M := by omega
                  have hO4 := kfr HF.out hO3 (ty_ne hO3 hH3 (by decide))
                  have hT4 := kfr HF.out hT3 (ty_ne hT3 hH3 (by decide))
                  have hb4 := Fr.behind hb3 HF.out (by simp; exact hHw.out)
                  rw [← HM8.out, fl_all rd i HM.out] at hHw2
                  have rT := ri_tw (T := T) (z := z) (by rw [HN.out, HN8.out]; exact hT4) (by rw [HN.out]; exact hN3.out)
                  have rH := rb_bw (H := H) (M := i) (rd := rd.map not) hHw2 (by rw [List.length_map]; exact HM.out) hM3.out
                  rw [HN.out, HN8.out] at rT
                  rw [HM8.out] at rH
                  have pc := chooser_any z (rd.map not) _ _ wr rT rH
                  have pd := fun x (hx : Below wr.heap.size wr x) => choose_any z (rd.map not) nm s1 s2 s3 s4 _ _ x (rT.below hx) (rH.below hx)
                  obtain ⟨t1, t2, ht12⟩ : ∃ r1 r2, chE (cho z (rd.map not)) = .returned (.tuple #[.int .i64 r1, .bool r2]) := ⟨_, _, rfl⟩
                  rw [ht12] at pc
                  simp only [ht12] at pd
                  have hpd := pd wr (Below.refl _ _)
                  obtain ⟨c0, c1, c2, c3, c4, c5⟩ := cells6 hO4
                  clear ht12 rT rH pd hi hi2
                  go_wp2_with fail
                  refine pc.mono ?_
                  rintro e y ⟨rfl, hy⟩
                  rw [hy]
                  clear hy y pc
                  go_wp2_with fail
                  refine hpd.mono ?_
                  rintro e y ⟨rfl, k⟩
                  have hb5 := keepB hb4 k
                  clear hpd
                  go_wp2_with fail
                  go_ret
                  exact ⟨by simp, hb5⟩
end Go.Proofs.YtheeicjoblkfnaaGreatDoor.Ro
