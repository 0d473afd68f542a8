import Derived.Test.YtpifebapodfeaaaGreatQ22
import Derived.Deep.RegionHeld3
import Derived.Deep.RegionWith
import Derived.OwnWalk
import Derived.Deep.AppendLies
/- SealPlays: the walk. -/
namespace Go.Proofs.YtpifebapodfeaaaGreat.Dq
set_option linter.unusedVariables false
open Go.RowKit
set_option maxRecDepth 100000 in
set_option maxHeartbeats 1600000 in
theorem walk (a0 a1 : Int) (v2 : Value) (z2 : List So.Opv) (w : World) (w0 : (Lit.int .i64 a0).wf = true) (w1 : (Lit.int .i64 a1).wf = true) (w2 : So.Lies w v2 z2 1048576) (k2 : z2.length ≤ 1048576) :
    Calls Tryz.prog 3 #[.int .i64 a0, .int .i64 a1, v2] w fun e w' => e = .returned (.bool true) ∧ Below w.heap.size w w' := by
  obtain ⟨o2, cp2, rfl, c2⟩ := w2
  have HC : Hid (∀ i (h : i < z2.length), ∃ a : Addr, o2 = some a ∧ So.At w a i z2[i] ∧ z2[i].Fine 1048576) := c2
  have HL : Hid (z2.length ≤ 1048576) := k2
  clear c2 k2
  obtain ⟨ia, hia, hza0, hza1, hza2⟩ := info_parts Dp.infoA
  obtain ⟨ib, hib, hzb0, hzb1, hzb2⟩ := info_parts Dp.infoB
  go_enter Tryz.func3, Tryz.ntmps3
  go_wp2
  go_loopw [7, 8, 9] (fun va vb vk wr => ∃ (j : Nat) (q : Nat → Dp.Quad) (fs : Nat → Nat → Option Sd.Held), j ≤ 2 ∧ vk = .int .i64 (j : Int) ∧ Dp.Has2 w.heap.size wr va vb j q fs ∧ Below w.heap.size w wr) (fun _ _ vk _ => 3 - (intOf vk).toNat)
  case atStart => exact ⟨0, fun _ => ⟨0, 0, 0, 0, 0⟩, fun _ _ => Option.none, Nat.zero_le _, rfl, ⟨World.ownsRow_nil _ _ _ _, World.ownsRow_nil _ _ _ _, fun i h => absurd h (Nat.not_lt_zero _), fun i k h => absurd h (Nat.not_lt_zero _), fun i h => absurd h (Nat.not_lt_zero _)⟩, Below.refl _ _⟩
  case round =>
    obtain ⟨j, q, fs, hj, rfl, H, hb⟩ := hrel
    have hB := hb.size
    by_cases hlt : j < 2
    · obtain ⟨nj, hnj, cj⟩ : ∃ nj : Int, (Lit.int .i64 nj).wf = true ∧ (wr.alloc (Obj.cells #[.int .i64 a0, .int .i64 a1] 3)).cell? ⟨wr.heap.size, j, Option.none⟩ = some (.int .i64 nj) := by
        rcases (by omega : j = 0 ∨ j = 1) with rfl | rfl
        · exact ⟨a0, w0, by rw [cell_of_row _ _ 0 _ _ _ (Cb.h1_0 wr _)]; rfl⟩
        · exact ⟨a1, w1, by rw [cell_of_row _ _ 1 _ _ _ (Cb.h1_0 wr _)]; rfl⟩
      have BY := Cb.below_one wr (Obj.cells #[.int .i64 a0, .int .i64 a1] 3)
      obtain ⟨p, hp, PK⟩ := Ft.pick_nat nj hnj 4 (by decide) (by decide)
      rw [show ((4 : Nat) : Int) = 4 from rfl] at PK
      have NA := fun y => Sr.new_good (1 + p) (by omega) (by omega) y
      have NB := fun y => Dd.newr_good (1 + p) (by omega) (by omega) y
      rw [show ((1 + p : Nat) : Int) = 1 + (p : Int) by omega] at NA NB
      have q0 : (0 : Int) ≤ (j : Int) := by omega
      have q1 : (j : Int) < 2 := by omega
      have q2 : (0 : Int) ≤ (p : Int) := by omega
      have q3 : (p : Int) < 4 := by omega
      by_cases hr : 1 ≤ nj ∧ nj ≤ 32
      · obtain ⟨m, rfl⟩ : ∃ m : Nat, nj = (m : Int) := ⟨nj.toNat, by omega⟩
        have XA := fun y => Sr.new_good m (by omega) (by omega) y
        have XB := fun y => Dd.newr_good m (by omega) (by omega) y
        clear hr hnj hp hlt
        go_wp2_with (first
          | (go_at_call_of 4 (Value.int .i64 (m : Int)); refine (XA _).mono ?_; rintro e y ⟨c1, c2, rfl, -, -, -, g⟩; replace BY := Cb.keepB BY g; clear g)
          | (go_at_call_of 5 (Value.int .i64 (m : Int)); refine (XB _).mono ?_; rintro e y ⟨c3, c4, rfl, -, -, -, g⟩; replace BY := Cb.keepB BY g; clear g)
          | (go_at_call 6; refine (PK _).mono ?_; rintro e y ⟨rfl, hy⟩; rw [hy])
          | (go_at_call 4; refine (NA _).mono ?_; rintro e y ⟨b1, d1, rfl, l1, l2, hA, g⟩; have m1 := Nat.le_trans BY.size l1; have m2 := Nat.le_trans BY.size l2; replace BY := Cb.keepB BY g; clear g l1 l2)
          | (go_at_call 5; refine (NB _).mono ?_; rintro e y ⟨b2, d2, rfl, l3, l4, hD, g⟩; have m3 := Nat.le_trans BY.size l3; have m4 := Nat.le_trans BY.size l4; replace BY := Cb.keepB BY g; replace hA := Dp.slotsA_below g hA; have sz := BY.size; clear g l3 l4)
          | (at_builtin; refine wpList_append_lies _ rfl _ _ _ rfl w.heap.size 26 ia _ 1 8 Tryz.underlying23 hia hza0 hza1 hza2 rfl (by omega) _ j _ rfl ((H.below BY).a.alloc _) ⟨y.heap.size, 0, none⟩ 1 1 _ rfl (by rfl) (World.news_of_block (heap_alloc_new y _)) (by simp [Value.oneCell']) (by omega) (by unfold maxLen; omega) (by omega) (by first | omega | (simp <;> omega)) (y.heap.size + 1) (by simp) ?_; intro ga ca wa own1 g1 hat hlt1; have ga1 := g1.size; rw [World.size_alloc] at ga1)
          | (at_builtin; refine wpList_append_lies _ rfl _ _ _ rfl w.heap.size 30 ib _ 1 8 Tryz.underlying24 hib hzb0 hzb1 hzb2 rfl (by omega) _ j _ rfl ((Dp.grow_b ((H.below BY).below (Cb.below_one _ _)) g1).alloc _) ⟨wa.heap.size, 0, none⟩ 1 1 _ rfl (by rfl) (World.news_of_block (heap_alloc_new wa _)) (by simp [Value.oneCell']) (by omega) (by unfold maxLen; omega) (by omega) (by first | omega | (simp <;> omega)) (wa.heap.size + 1) (by simp) ?_; intro gb cb wb own2 g2 hat2 hlt2))
        obtain ⟨q', fs', H', bel⟩ := Dp.grow H hB BY hA hD m1 m2 m3 m4 own1 g1 own2 g2
        exact ⟨⟨j + 1, q', fs', by omega, by simp, H', hb.trans bel⟩, by simp only [intOf]; omega⟩
      · have XA := fun y => Sr.new_bad nj (by omega) y
        have XB := fun y => Dd.newr_bad nj (by omega) y
        clear hr hnj hp hlt
        go_wp2_with (first
          | (go_at_call_of 4 (Value.int .i64 nj); refine (XA _).mono ?_; rintro e y ⟨rfl, hy⟩; rw [hy])
          | (go_at_call_of 5 (Value.int .i64 nj); refine (XB _).mono ?_; rintro e y ⟨rfl, hy⟩; rw [hy])
          | (go_at_call 6; refine (PK _).mono ?_; rintro e y ⟨rfl, hy⟩; rw [hy])
          | (go_at_call 4; refine (NA _).mono ?_; rintro e y ⟨b1, d1, rfl, l1, l2, hA, g⟩; have m1 := Nat.le_trans BY.size l1; have m2 := Nat.le_trans BY.size l2; replace BY := Cb.keepB BY g; clear g l1 l2)
          | (go_at_call 5; refine (NB _).mono ?_; rintro e y ⟨b2, d2, rfl, l3, l4, hD, g⟩; have m3 := Nat.le_trans BY.size l3; have m4 := Nat.le_trans BY.size l4; replace BY := Cb.keepB BY g; replace hA := Dp.slotsA_below g hA; have sz := BY.size; clear g l3 l4)
          | (at_builtin; refine wpList_append_lies _ rfl _ _ _ rfl w.heap.size 26 ia _ 1 8 Tryz.underlying23 hia hza0 hza1 hza2 rfl (by omega) _ j _ rfl ((H.below BY).a.alloc _) ⟨y.heap.size, 0, none⟩ 1 1 _ rfl (by rfl) (World.news_of_block (heap_alloc_new y _)) (by simp [Value.oneCell']) (by omega) (by unfold maxLen; omega) (by omega) (by first | omega | (simp <;> omega)) (y.heap.size + 1) (by simp) ?_; intro ga ca wa own1 g1 hat hlt1; have ga1 := g1.size; rw [World.size_alloc] at ga1)
          | (at_builtin; refine wpList_append_lies _ rfl _ _ _ rfl w.heap.size 30 ib _ 1 8 Tryz.underlying24 hib hzb0 hzb1 hzb2 rfl (by omega) _ j _ rfl ((Dp.grow_b ((H.below BY).below (Cb.below_one _ _)) g1).alloc _) ⟨wa.heap.size, 0, none⟩ 1 1 _ rfl (by rfl) (World.news_of_block (heap_alloc_new wa _)) (by simp [Value.oneCell']) (by omega) (by unfold maxLen; omega) (by omega) (by first | omega | (simp <;> omega)) (wa.heap.size + 1) (by simp) ?_; intro gb cb wb own2 g2 hat2 hlt2))
        obtain ⟨q', fs', H', bel⟩ := Dp.grow H hB BY hA hD m1 m2 m3 m4 own1 g1 own2 g2
        exact ⟨⟨j + 1, q', fs', by omega, by simp, H', hb.trans bel⟩, by simp only [intOf]; omega⟩
    · obtain rfl : j = 2 := by omega
      obtain ⟨ga, ca, rfl, -⟩ := Dp.own_cells H.a (by decide)
      obtain ⟨gb, cb, rfl, -⟩ := Dp.own_cells H.b (by decide)
      clear hlt hj hia hza0 hza1 hza2 hib hzb0 hzb1 hzb2 w0 w1
      rename World => x1
      rw [show ((2 : Nat) : Int) = 2 from rfl]
      go_wp2
      go_loopw [15] (fun vi wr => ∃ (i : Nat) (fs : Nat → Nat → Option Sd.Held), i ≤ z2.length ∧ vi = .int .i64 (i : Int) ∧ Dp.Has2 w.heap.size wr (.slice (some ⟨ga, 0, Option.none⟩) 2 ca) (.slice (some ⟨gb, 0, Option.none⟩) 2 cb) 2 q fs ∧ Below w.heap.size w wr) (fun vi _ => z2.length + 1 - (intOf vi).toNat)
      case atStart => exact ⟨0, fs, Nat.zero_le _, rfl, H, hb⟩
      case round =>
        clear H hb hB fs
        obtain ⟨i, fs, hi, rfl, H, hb⟩ := hrel
        have hB := hb.size
        have hl := HL.out
        by_cases hlt : i < z2.length
        · obtain ⟨a, rfl, hat, f1, f2, f3, f4, f5, f6, f7⟩ := HC.out i hlt
          obtain ⟨t0, t1, t2, t3, t4, t5, t6, t7⟩ := So.at_below hat hb
          obtain ⟨r1, r2, r3, r4, r5, r6, r7⟩ := So.at_fields (So.at_below hat hb)
          clear hat
          generalize z2[i] = o at t0 t1 t2 t3 t4 t5 t6 t7 r1 r2 r3 r4 r5 r6 r7 f1 f2 f3 f4 f5 f6 f7
          obtain ⟨k, on, sl, al, me, key, ex, text⟩ := o
          dsimp only at t0 t1 t2 t3 t4 t5 t6 t7 r1 r2 r3 r4 r5 r6 r7 f1 f2 f3 f4 f5 f6 f7
          obtain ⟨p, hp, PK⟩ := Ft.pick_nat on f1 2 (by decide) (by decide)
          rw [show ((2 : Nat) : Int) = 2 from rfl] at PK
          have cA : wr.cell? ⟨ga, p, Option.none⟩ = some (.pointer (some ⟨(q p).b1, 0, Option.none⟩)) := (Dp.own_at H.a p hp).trans (Dp.rowA_get q 2 p hp)
          have cB : wr.cell? ⟨gb, p, Option.none⟩ = some (.pointer (some ⟨(q p).b2, 0, Option.none⟩)) := (Dp.own_at H.b p hp).trans (Dp.rowB_get q 2 p hp)
          have PL := fun y h => Do.play_any (q p).b1 (q p).d1 (q p).b2 (q p).d2 (q p).n (fs p) k on sl al me f2 f3 f4 key ex text f5 f6 f7 y h
          have q0 : (0 : Int) ≤ (i : Int) := by omega
          have q1 : (i : Int) < (z2.length : Int) := by omega
          have q2 : (0 : Int) ≤ (p : Int) := by omega
          have q3 : (p : Int) < 2 := by omega
          have q4 : (z2.length : Int) ≤ 1048576 := by omega
          have Hh : Hid (i < z2.length ∧ p < 2) := ⟨hlt, hp⟩
          clear hi hlt hp hl f1 f2 f3 f4 f5 f6 f7
          go_wp2_with (go_at_call 6; refine (PK _).mono ?_; rintro e y ⟨rfl, hy⟩; rw [hy])
          go_region_with (go_at_call 7; refine (PL _ (Dj.syn_below (H.syn p Hh.out.2) (Below.refl _ wr).drew)).mono ?_; rintro e y ⟨f', rfl, hS, F⟩)
          all_goals (
            go_wp2
            obtain ⟨hlt, hp⟩ := Hh.out
            have H1 := H.below (Below.refl _ wr).drew
            have H2 := H1.step hp hS F
            have B2 := H1.step_below hp F hB
            exact ⟨⟨i + 1, _, by omega, by simp, H2, (hb.trans (Below.refl _ wr).drew).trans B2⟩, by simp only [intOf]; omega⟩)
        · have ql : ¬ (i : Int) < (z2.length : Int) := by omega
          clear hlt hi hl HC
          rename World => x2
          go_wp2
          go_loopw [18] (fun vk wr => ∃ (j : Nat), j ≤ 2 ∧ vk = .int .i64 (j : Int) ∧ Dp.Has2 w.heap.size wr (.slice (some ⟨ga, 0, Option.none⟩) 2 ca) (.slice (some ⟨gb, 0, Option.none⟩) 2 cb) 2 q fs ∧ Below w.heap.size w wr) (fun vk _ => 3 - (intOf vk).toNat)
          case atStart => exact ⟨0, Nat.zero_le _, rfl, H, hb⟩
          case round =>
            clear H hb hB
            obtain ⟨j, hj, rfl, H, hb⟩ := hrel
            by_cases hlt : j < 2
            · have hjj : Hid (j < 2) := hlt
              have q0 : (0 : Int) ≤ (j : Int) := by omega
              have q1 : (j : Int) < 2 := by omega
              have n32 := H.small hlt
              clear hlt hj
              rename World => x3
              go_wp2
              go_loopw [19] (fun vi wr => ∃ (i : Nat), i ≤ (q j).n ∧ vi = .int .i64 (i : Int) ∧ Dp.Has2 w.heap.size wr (.slice (some ⟨ga, 0, Option.none⟩) 2 ca) (.slice (some ⟨gb, 0, Option.none⟩) 2 cb) 2 q fs ∧ Below w.heap.size w wr) (fun vi _ => (q j).n + 1 - (intOf vi).toNat)
              case atStart => exact ⟨0, Nat.zero_le _, rfl, H, hb⟩
              case round =>
                clear H hb
                obtain ⟨i', hi', rfl, Hc, hb⟩ := hrel
                have cA := Hc.cellA hjj.out
                have cB := Hc.cellB hjj.out
                have cL := Hc.cellL hjj.out
                by_cases hlt : i' < (q j).n
                · have TA := fun y h => Di.Tag_any (q j).b1 (q j).d1 (q j).n (fs j) (i' : Int) ⟨#[101, 110, 100]⟩ (by decide) y h
                  have TB := fun y (h : Dj.Syn y (q j).b1 (q j).d1 (q j).b2 (q j).d2 (q j).n (fs j)) => Dg.Tagr (q j).b2 (q j).d2 (q j).n (fs j) (i' : Int) (fun hd e => Di.slots_ok h.1 (i' : Int) hd e) ⟨#[101, 110, 100]⟩ (by decide) y h.2
                  have RA := fun y h => Di.Round_any (q j).b1 (q j).d1 (q j).n (fs j) (i' : Int) y h
                  have RB := fun y (h : Dj.Syn y (q j).b1 (q j).d1 (q j).b2 (q j).d2 (q j).n (fs j)) => De.Roundr (q j).b2 (q j).d2 (q j).n (fs j) (i' : Int) y h.2
                  generalize Dg.tagO (De.getO (q j).n (fs j) (i' : Int)) ⟨#[101, 110, 100]⟩ = TT at *
                  generalize Dg.tagE (De.getO (q j).n (fs j) (i' : Int)) = TE at *
                  generalize (Sq.roundOf (De.getO (q j).n (fs j) (i' : Int)) : Int) = RR at *
                  have p0 : (0 : Int) ≤ (i' : Int) := by omega
                  have p1 : (i' : Int) < ((q j).n : Int) := by omega
                  have p2 : ((q j).n : Int) ≤ 32 := by omega
                  have Hh : Hid (i' < (q j).n) := hlt
                  clear hlt hi' n32
                  go_wp2_with (first
                    | (go_at_call 8; refine (TA _ (Hc.syn j hjj.out).1).mono ?_; rintro e y ⟨rfl, hA, g⟩; replace hb := hb.trans (Hc.belowA hjj.out g (by first | exact hb.size | exact Nat.le_trans hb.size (by simp))); replace Hc := Hc.stepA hjj.out hA g; clear g hA cA cB cL; have cA := Hc.cellA hjj.out; have cB := Hc.cellB hjj.out; have cL := Hc.cellL hjj.out)
                    | (go_at_call 9; refine (TB _ (Hc.syn j hjj.out)).mono ?_; rintro e y ⟨rfl, g⟩; replace hb := hb.trans (g.mono hb.size); replace Hc := Hc.below g; clear g cA cB cL; have cA := Hc.cellA hjj.out; have cB := Hc.cellB hjj.out; have cL := Hc.cellL hjj.out))
                  replace hb := hb.trans ((Below.refl y.heap.size y).drew.mono hb.size)
                  replace Hc := Hc.below (Below.refl y.heap.size y).drew
                  clear cA cB cL
                  have cA := Hc.cellA hjj.out
                  have cB := Hc.cellB hjj.out
                  have cL := Hc.cellL hjj.out
                  go_region_held3 (fun z => z.cell? ⟨ga, j, Option.none⟩ = some (.pointer (some ⟨(q j).b1, 0, Option.none⟩)) ∧ z.cell? ⟨gb, j, Option.none⟩ = some (.pointer (some ⟨(q j).b2, 0, Option.none⟩))) (exact ⟨cA, cB⟩) (first
                    | (go_at_call 10; refine (RA _ (Hc.syn j hjj.out).1).mono ?_; rintro e y ⟨rfl, hA, g⟩; replace hb := hb.trans (Hc.belowA hjj.out g (by first | exact hb.size | exact Nat.le_trans hb.size (by simp))); replace Hc := Hc.stepA hjj.out hA g; clear g hA cA cB cL; have cA := Hc.cellA hjj.out; have cB := Hc.cellB hjj.out; have cL := Hc.cellL hjj.out)
                    | (go_at_call 11; refine (RB _ (Hc.syn j hjj.out)).mono ?_; rintro e y ⟨rfl, g⟩; replace hb := hb.trans (g.mono hb.size); replace Hc := Hc.below g; clear g cA cB cL; have cA := Hc.cellA hjj.out; have cB := Hc.cellB hjj.out; have cL := Hc.cellL hjj.out))
                  all_goals (
                    go_wp2
                    have hlt := Hh.out
                    exact ⟨⟨i' + 1, by omega, by simp, Hc, hb⟩, by simp only [intOf]; omega⟩)
                · have p1 : ¬ (i' : Int) < ((q j).n : Int) := by omega
                  clear hlt hi'
                  go_wp2
                  have hlt := hjj.out
                  exact ⟨⟨j + 1, by omega, by simp, Hc, hb⟩, by simp only [intOf]; omega⟩
            · have q1 : ¬ (j : Int) < 2 := by omega
              go_wp2
              go_ret
              exact ⟨rfl, hb⟩
end Go.Proofs.YtpifebapodfeaaaGreat.Dq
