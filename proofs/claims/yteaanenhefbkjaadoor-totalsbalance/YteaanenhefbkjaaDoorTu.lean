/- The law's noted. -/
import Derived.Test.YteaanenhefbkjaaDoorTr
import Derived.BigQuiet
namespace Go.Proofs.YteaanenhefbkjaaDoor.Tu
set_option linter.unusedVariables false
set_option linter.unusedSimpArgs false
open Go.RowKit Lib0 Kb Xp Ic Ta Hp Hr Ht Hu Hx Tb Tc Td Te Tf Tg Tn Num Chars Tj Tk Tl Tp Tr
attribute [local go_sem] Oper.semAt_some
def dcs (d : D) : Array Value := #[.int .i64 d.lk, .int .i64 d.wh, .int .i64 d.am, .bool d.cr, .bool d.ys]
theorem wf64 {a : Int} (h : (Lit.int .i64 a).wf = true) : -9223372036854775808 ≤ a ∧ a ≤ 9223372036854775807 := by
  simp [Lit.wf, IntKind.min, IntKind.max, IntKind.signed, IntKind.bits] at h; omega
theorem infoDe : (Tryd.prog.info? tDe).map (·.size) = some 5 := by kernel_rfl
/-- the deals that came in, as they lie -/
structure Dls (w : World) (oz : Option Addr) (z : List D) : Prop where
  at_ : ∀ i (h : i < z.length), ∃ a : Addr, oz = some a ∧ So.At w a i z[i]
  fine : ∀ i (h : i < z.length), (-9223372036854775808 ≤ z[i].lk ∧ z[i].lk ≤ 9223372036854775807) ∧ (-9223372036854775808 ≤ z[i].wh ∧ z[i].wh ≤ 9223372036854775807) ∧ (-9223372036854775808 ≤ z[i].am ∧ z[i].am ≤ 9223372036854775807)
  len : z.length ≤ 4611686018427387904
theorem Dls.below {w x : World} {oz : Option Addr} {z : List D} (h : Dls w oz z) (k : Below w.heap.size w x) : Dls x oz z :=
  ⟨fun i hi => by
    obtain ⟨a, ea, h0, h1, h2, h3, h4⟩ := h.at_ i hi
    have kk : ∀ p u, w.cell? p = some u → x.cell? p = some u := fun p u hp => (k.cell (World.block_lt_of_cell? w _ hp)).trans hp
    exact ⟨a, ea, kk _ _ h0, kk _ _ h1, kk _ _ h2, kk _ _ h3, kk _ _ h4⟩, h.fine, h.len⟩
theorem Dls.cells {w : World} {oz : Option Addr} {z : List D} (h : Dls w oz z) (i : Nat) (hi : i < z.length) : ∃ a : Addr, oz = some a ∧ w.cell? (a.add (i * 5)) = some (.int .i64 z[i].lk) ∧ w.cell? ⟨(a.add (i * 5)).block, (a.add (i * 5)).off + 1, none⟩ = some (.int .i64 z[i].wh) ∧ w.cell? ⟨(a.add (i * 5)).block, (a.add (i * 5)).off + 2, none⟩ = some (.int .i64 z[i].am) ∧ w.cell? ⟨(a.add (i * 5)).block, (a.add (i * 5)).off + 3, none⟩ = some (.bool z[i].cr) ∧ w.cell? ⟨(a.add (i * 5)).block, (a.add (i * 5)).off + 4, none⟩ = some (.bool z[i].ys) := by
  obtain ⟨a, ea, h0, h1, h2, h3, h4⟩ := h.at_ i hi
  rw [So.add_field _ _ _ (by decide)] at h1 h2 h3 h4
  exact ⟨a, ea, h0, h1, h2, h3, h4⟩
set_option maxRecDepth 100000 in
set_option maxHeartbeats 6400000 in
theorem noted_any (n : Nat) (hn : 0 < n ∧ n ≤ 32) (oz : Option Addr) (cz : Nat) (z : List D) (bk : Bool) (w : World) (hz : Dls w oz z) :
    Calls Tryd.prog 4 #[.int .i64 (n : Int), .slice oz z.length cz, .bool bk] w fun e w' => ∃ b g, e = .returned (.pointer (some ⟨b, 0, none⟩)) ∧ BkT w' w.heap.size b g n (tot n (z.take 300)) ∧ Below w.heap.size w w' := by
  have HZ : Hid (Dls w oz z) := hz
  have HNW : Hid (∀ y, Calls Tryd.prog 9 #[.int .i64 (n : Int)] y fun e w' => ∃ b g, e = .returned (.tuple #[.pointer (some ⟨b, 0, none⟩), .int .i64 0]) ∧ BkT w' y.heap.size b g n (fun _ _ => 0) ∧ Below y.heap.size y w') := fun y => new_any n hn y
  have HN : Hid (0 < n ∧ n ≤ 32) := hn
  obtain ⟨N, HN0⟩ : ∃ N, Hid (z.length = N) := ⟨_, rfl⟩
  have HT : Hid ((z.take 300).length = min N 300) := by show (z.take 300).length = _; rw [List.length_take, HN0.out]; omega
  have hzl : N ≤ 4611686018427387904 := HN0.out ▸ hz.len
  have q0 : (N : Int) ≤ 9223372036854775807 := by omega
  rw [HN0.out]
  clear hz hn hzl
  go_enter Tryd.func4, Tryd.ntmps4
  go_wp2_with fail
  refine (HNW.out _).mono ?_
  rintro e y0 ⟨b, g, rfl, hbk0, hy0⟩
  have HB0 : Hid (BkT y0 w.heap.size b g n (tot n (done z bk 0)) ∧ Below w.heap.size w y0) := ⟨by rw [done_zero]; exact hbk0, hy0⟩
  clear hbk0 hy0
  go_wp2_with fail
  go_loopw [9, 10, 11, 12, 13] (fun iv _ _ _ _ wr => ∃ i : Nat, iv = .int .i64 (i : Int) ∧ Hid (i ≤ min N 300) ∧ Hid (BkT wr w.heap.size b g n (tot n (done z bk i)) ∧ Below w.heap.size w wr)) (fun iv _ _ _ _ _ => 301 - (intOf iv).toNat)
  case atStart => exact ⟨0, rfl, Nat.zero_le _, HB0.out⟩
  case round =>
    obtain ⟨i, rfl, HI, HB⟩ := hrel
    by_cases hlt : i < min N 300
    · have hbw := HB.out.2
      have hzw := HZ.out.below (HB.out.2.mono (Nat.le_refl _))
      have hiz : i < z.length := by rw [HN0.out]; omega
      obtain ⟨a, rfl, c0, c1, c2, c3, c4⟩ := hzw.cells i hiz
      have hix : idx (min N 300) bk i < z.length := by rw [HN0.out]; unfold idx; split <;> omega
      obtain ⟨a', ea, g0, g1, g2, g3, g4⟩ := hzw.cells _ hix
      cases ea
      have hfn := HZ.out.fine _ hix
      have hdn := done_next n z bk i (by rw [HT.out]; exact hlt) (by rw [HT.out]; exact hix)
      simp only [HT.out] at hdn
      have hdl := done_len z bk i (by rw [HT.out]; omega)
      obtain ⟨X, hX⟩ : ∃ X, z[i] = X := ⟨_, rfl⟩
      obtain ⟨Y, hY⟩ : ∃ Y, z[idx (min N 300) bk i] = Y := ⟨_, rfl⟩
      rw [hX] at c0 c1 c2 c3 c4
      rw [hY] at g0 g1 g2 g3 g4 hfn hdn
      have HXY : Hid (bk = false → X = Y) := fun e => by subst e; rw [← hX, ← hY]; rfl
      have HDN : Hid (tot n (done z bk (i + 1)) = updF (tot n (done z bk i)) (pkl n Y) (sumT (tot n (done z bk i) (pkl n Y)) (brD Y))) := hdn
      have HDL : Hid ((done z bk i).length = i) := hdl
      have HFN : Hid _ := hfn
      have HLT : Hid (i < min N 300) := hlt
      have q1 : (i : Int) < (N : Int) := by omega
      have q2 : (i : Int) < 300 := by omega
      have q3 : (0 : Int) ≤ (i : Int) := by omega
      have q4 : (i : Int) + 1 ≤ 9223372036854775807 := by omega
      have HBX : Hid (Below w.heap.size w (wr.alloc (.cells (dcs X) tDe)) ∧ (wr.alloc (.cells (dcs X) tDe)).heap[wr.heap.size]? = some (.cells (dcs X) tDe (0, 0))) := ⟨keepB HB.out.2 (below_one _ _), h1_0 _ _⟩
      unfold dcs at HBX
      clear hX hY hdn hdl hlt hbw hzw hiz hix hfn
      have HDE : Hid (∀ y, Calls Tryd.prog 10 #[.agg #[.int .i64 Y.lk, .int .i64 Y.wh, .int .i64 Y.am, .bool Y.cr, .bool Y.ys]] y fun e w' => ∃ v v2, e = .returned (.tuple #[.agg #[.string (mtiK (kd Y)), v], .agg #[.string (anS (mtiK (kd Y))), v2]]) ∧ RowF w' v [(3, if Y.cr then p2 else p0), (4, ⟨(dgs 12 (md Y)).toArray⟩)] ∧ RowF w' v2 [(39, if Y.ys then Te.c0 else Te.c5)] ∧ Below y.heap.size y w') := fun y => deal_any Y.lk Y.wh Y.am Y.cr Y.ys HFN.out.2.1 HFN.out.2.2 y
      have PK : Hid (∀ y, Calls Tryd.prog 5 #[.int .i64 Y.lk, .int .i64 (n : Int)] y fun e w' => e = .returned (.int .i64 (pkl n Y : Int)) ∧ w' = y) := fun y => by
        have h9 := Pick.pick_any Y.lk (n : Int) y HFN.out.1.1 HFN.out.1.2 (by have := HN.out; omega) (by have := HN.out; omega)
        have h8 := Pick.pick_lo Y.lk (n : Int) (by have := HN.out; omega)
        rw [show (pkl n Y : Int) = Pick.pickOf Y.lk n by unfold pkl; omega]
        exact h9
      obtain ⟨MT, HMT⟩ : ∃ MT, Hid (mtiK (kd Y) = MT) := ⟨_, rfl⟩
      obtain ⟨MT2, HMT2⟩ : ∃ MT2, Hid (anS MT = MT2) := ⟨_, rfl⟩
      rw [HMT.out, HMT2.out] at HDE
      cases bk
      · have hxy := HXY.out rfl
        subst hxy
        obtain ⟨V, HVe⟩ : ∃ V, Hid ((wr.alloc (.cells #[.int .i64 X.lk, .int .i64 X.wh, .int .i64 X.am, .bool X.cr, .bool X.ys] tDe)) = V) := ⟨_, rfl⟩
        have HV : Hid (Below wr.heap.size wr V ∧ V.heap[wr.heap.size]? = some (.cells #[.int .i64 X.lk, .int .i64 X.wh, .int .i64 X.am, .bool X.cr, .bool X.ys] tDe (0, 0))) := ⟨HVe.out ▸ below_one _ _, HVe.out ▸ h1_0 _ _⟩
        have hvr := HV.out.2
        clear g0 g1 g2 g3 g4
        go_wp2_with (first
          | (refine wpList_load_row rfl tDe _ rfl wr.heap.size rfl _ _ _ _ hvr Tryd.underlying47 rfl infoDe ?_)
          | (rw [HVe.out])
          | fail)
        clear hvr
        refine (HDE.out V).mono ?_
        rintro e y1 ⟨v, v2, rfl, hv, hv2, hy1⟩
        obtain ⟨o, l, c, rfl⟩ := row_shape hv
        obtain ⟨o2, l2, c2, rfl⟩ := row_shape hv2
        have hb1 : Below wr.heap.size wr y1 := keepB HV.out.1 hy1
        have HB1 : Hid (Below w.heap.size w y1) := keepB HB.out.2 hb1
        have hbx1 : y1.heap[wr.heap.size]? = some (.cells #[.int .i64 X.lk, .int .i64 X.wh, .int .i64 X.am, .bool X.cr, .bool X.ys] tDe (0, 0)) := kept hy1 HV.out.2
        have HND : Hid (∀ y4, Below y1.heap.size y1 y4 → Calls Tryd.prog 11 #[.pointer (some ⟨b, 0, none⟩), .int .i64 (pkl n X : Int), .agg #[.string MT, .slice o l c], .agg #[.string MT2, .slice o2 l2 c2]] y4 fun e w' => e = .returned (.int .i64 0) ∧ BkT w' w.heap.size b g n (tot n (done z false (i + 1))) ∧ Below w.heap.size w w') := fun y4 hy4 => by
          have h9 := note_deal ((HB.out.1.below hb1).below hy4) (keepB HB1.out hy4).size (by have := HDL.out; have := HLT.out; omega) X _ _ (rowf_below hv hy4) (rowf_below hv2 hy4)
          rw [HMT.out, HMT2.out] at h9
          refine h9.mono ?_
          rintro e w' ⟨he, hbk, hbl⟩
          exact ⟨he, by rw [HDN.out]; exact hbk, (keepB HB1.out hy4).trans hbl⟩
        obtain ⟨W1, HW1⟩ : ∃ W1, Hid ((y1.alloc (.cells #[.string ⟨#[]⟩, .slice none 0 0] tMs)).alloc (.cells #[.string ⟨#[]⟩, .slice none 0 0] tMs) = W1) := ⟨_, rfl⟩
        have r1 : W1.heap[y1.heap.size]? = some (.cells #[.string ⟨#[]⟩, .slice none 0 0] tMs (0, 0)) := HW1.out ▸ h2_0 _ _ _
        have r2 : W1.heap[y1.heap.size + 1]? = some (.cells #[.string ⟨#[]⟩, .slice none 0 0] tMs (0, 0)) := HW1.out ▸ h2_1 _ _ _
        have bw1 : Below y1.heap.size y1 W1 := HW1.out ▸ below_two _ _ _
        obtain ⟨W2, HW2⟩ : ∃ W2, Hid ((W1.setRow y1.heap.size #[.string MT, .slice o l c]) = W2) := ⟨_, rfl⟩
        have r3 : W2.heap[y1.heap.size]? = some (.cells #[.string MT, .slice o l c] tMs (0, 0)) := HW2.out ▸ setRow_at r1 _
        have r4 : W2.heap[y1.heap.size + 1]? = some (.cells #[.string ⟨#[]⟩, .slice none 0 0] tMs (0, 0)) := HW2.out ▸ (setRow_ne (by omega) _).trans r2
        have bw2 : Below y1.heap.size y1 W2 := HW2.out ▸ below_setRow bw1 (Nat.le_refl _) _
        obtain ⟨W3, HW3⟩ : ∃ W3, Hid ((W2.setRow (y1.heap.size + 1) #[.string MT2, .slice o2 l2 c2]) = W3) := ⟨_, rfl⟩
        have hx3 : W3.heap[y1.heap.size]? = some (.cells #[.string MT, .slice o l c] tMs (0, 0)) := HW3.out ▸ (setRow_ne (by omega) _).trans r3
        have hx4 : W3.heap[y1.heap.size + 1]? = some (.cells #[.string MT2, .slice o2 l2 c2] tMs (0, 0)) := HW3.out ▸ setRow_at r4 _
        have HW : Hid (Below y1.heap.size y1 W3) := HW3.out ▸ below_setRow bw2 (by omega) _
        have hbx3 := kept HW.out hbx1
        have d0 : W3.cell? ⟨wr.heap.size, 0, none⟩ = some (.int .i64 X.lk) := by simp [World.cell?, hbx3]
        have ld : wr.heap.size < W3.heap.size := (Array.getElem?_eq_some_iff.1 hbx3).1
        clear hv hv2 hy1 hb1 hbx1 bw1 bw2 hbx3
        go_wp2_with (first
          | (refine wpList_store_row rfl tMs _ _ rfl y1.heap.size #[.string MT, .slice o l c] (by rfl) (by rfl) _ _ r1 infoMs (by rfl) (by simp [Value.oneCell']) ?_)
          | (refine wpList_store_row rfl tMs _ _ rfl (y1.heap.size + 1) #[.string MT2, .slice o2 l2 c2] (by rfl) (by rfl) _ _ r4 infoMs (by rfl) (by simp [Value.oneCell']) ?_)
          | (rw [HW1.out])
          | (rw [HW2.out])
          | (rw [HW3.out])
          | fail)
        refine Qt.region_tail 7 1 (C := Ql.Cl W3) (by kernel_rfl) rfl (by kernel_rfl) (by kernel_rfl) (by kernel_rfl) ((Below.refl _ _).drew) ?_
        dsimp only [List.take, List.drop, Act.put]
        repeat (first | go_big_quiet_skip | (go_big_quiet_want; go_big_quiet_op; first | go_big_quiet_on | (refine ⟨_, fun _ _ => rfl, ?_⟩; go_big_quiet_on) | (refine ⟨_, fun _ _ => ⟨rfl, rfl⟩, ?_⟩; go_big_quiet_on)) | (refine wpQuiet_step (fun K hK => ?_); first
          | (refine Ql.q_cell (by rfl) 3 _ rfl wr.heap.size 0 rfl _ d0 ld (fun y => Tryd.isAgg3 y) (hK _ ?_); clear hK K; simp only [Act.put, List.setIfInBounds_toArray, List.set_cons_succ, List.set_cons_zero])
          | (refine Ql.q_row (by rfl) 42 _ rfl y1.heap.size rfl _ _ _ _ hx3 Tryd.underlying42 rfl infoMs (hK _ ?_); clear hK K; simp only [Act.put, List.setIfInBounds_toArray, List.set_cons_succ, List.set_cons_zero])
          | (refine Ql.q_row (by rfl) 42 _ rfl (y1.heap.size+1) rfl _ _ _ _ hx4 Tryd.underlying42 rfl infoMs (hK _ ?_); clear hK K; simp only [Act.put, List.setIfInBounds_toArray, List.set_cons_succ, List.set_cons_zero])
          | (go_simp; apply Exists.intro; refine ⟨fun y hy => ?_, hK _ ?_⟩; (first | (go_at_call 5; exact Ql.cl_same hy (PK.out _))); clear hK K)
          | fail))
        refine wpQuiet_nil ?_
        intro y4 hy4
        have hy4' : Below y1.heap.size y1 y4 := keepB HW.out hy4
        clear hx3 hx4 d0 ld r1 r2 r3 r4 hy4
        go_wp2_with fail
        refine (HND.out y4 hy4').mono ?_
        rintro e y5 ⟨rfl, hbk5, hy5⟩
        have H5 : Hid _ := And.intro hbk5 hy5
        clear hbk5 hy5 hy4'
        go_wp2_with fail
        refine ⟨⟨i + 1, by simp, by have := HLT.out; show i + 1 ≤ min N 300; omega, H5.out⟩, ?_⟩
        have := HLT.out
        simp only [intOf]; omega
      · obtain ⟨J, HJ⟩ : ∃ J, Hid (idx (min N 300) true i = J) := ⟨_, rfl⟩
        rw [HJ.out] at g0 g1 g2 g3 g4
        obtain ⟨V0, HV0⟩ : ∃ V, Hid ((wr.alloc (.cells #[.int .i64 X.lk, .int .i64 X.wh, .int .i64 X.am, .bool X.cr, .bool X.ys] tDe)) = V) := ⟨_, rfl⟩
        have hv0 : V0.heap[wr.heap.size]? = some (.cells #[.int .i64 X.lk, .int .i64 X.wh, .int .i64 X.am, .bool X.cr, .bool X.ys] tDe (0, 0)) := HV0.out ▸ h1_0 _ _
        have bv0 : Below wr.heap.size wr V0 := HV0.out ▸ below_one _ _
        obtain ⟨V, HVe⟩ : ∃ V, Hid (V0.setRow wr.heap.size #[.int .i64 Y.lk, .int .i64 Y.wh, .int .i64 Y.am, .bool Y.cr, .bool Y.ys] = V) := ⟨_, rfl⟩
        have hvr : V.heap[wr.heap.size]? = some (.cells #[.int .i64 Y.lk, .int .i64 Y.wh, .int .i64 Y.am, .bool Y.cr, .bool Y.ys] tDe (0, 0)) := HVe.out ▸ setRow_at hv0 _
        have HV : Hid (Below wr.heap.size wr V ∧ V.heap[wr.heap.size]? = some (.cells #[.int .i64 Y.lk, .int .i64 Y.wh, .int .i64 Y.am, .bool Y.cr, .bool Y.ys] tDe (0, 0))) := ⟨HVe.out ▸ below_setRow bv0 (Nat.le_refl _) _, hvr⟩
        have kk2 : ∀ p u, wr.cell? p = some u → V0.cell? p = some u := fun p u hp => (bv0.cell (World.block_lt_of_cell? wr _ hp)).trans hp
        replace g0 := kk2 _ _ g0
        replace g1 := kk2 _ _ g1
        replace g2 := kk2 _ _ g2
        replace g3 := kk2 _ _ g3
        replace g4 := kk2 _ _ g4
        by_cases hN : N ≤ 300
        · have q5 : (N : Int) ≤ 300 := by omega
          have q6 : min (N : Int) 300 = (N : Int) := by omega
          have q7 : (N : Int) - 1 - (i : Int) = (J : Int) := by have := HJ.out; unfold idx at this; simp at this; omega
          have q8 : (J : Int) < (N : Int) := by omega
          have q9 : (0 : Int) ≤ (J : Int) := by omega
          clear hN kk2 bv0
          go_wp2_with (first
            | (refine wpList_store_row rfl tDe _ _ rfl wr.heap.size #[.int .i64 Y.lk, .int .i64 Y.wh, .int .i64 Y.am, .bool Y.cr, .bool Y.ys] (by rfl) (by rfl) _ _ hv0 infoDe (by rfl) (by simp [Value.oneCell']) ?_)
            | (refine wpList_load_row rfl tDe _ rfl wr.heap.size rfl _ _ _ _ hvr Tryd.underlying47 rfl infoDe ?_)
            | (rw [HV0.out])
            | (rw [HVe.out])
            | fail)
          clear hvr hv0 g0 g1 g2 g3 g4 c0 c1 c2 c3 c4 q5 q6 q7 q8 q9
          refine (HDE.out V).mono ?_
          rintro e y1 ⟨v, v2, rfl, hv, hv2, hy1⟩
          obtain ⟨o, l, c, rfl⟩ := row_shape hv
          obtain ⟨o2, l2, c2, rfl⟩ := row_shape hv2
          have hb1 : Below wr.heap.size wr y1 := keepB HV.out.1 hy1
          have HB1 : Hid (Below w.heap.size w y1) := keepB HB.out.2 hb1
          have hbx1 : y1.heap[wr.heap.size]? = some (.cells #[.int .i64 Y.lk, .int .i64 Y.wh, .int .i64 Y.am, .bool Y.cr, .bool Y.ys] tDe (0, 0)) := kept hy1 HV.out.2
          have HND : Hid (∀ y4, Below y1.heap.size y1 y4 → Calls Tryd.prog 11 #[.pointer (some ⟨b, 0, none⟩), .int .i64 (pkl n Y : Int), .agg #[.string MT, .slice o l c], .agg #[.string MT2, .slice o2 l2 c2]] y4 fun e w' => e = .returned (.int .i64 0) ∧ BkT w' w.heap.size b g n (tot n (done z true (i + 1))) ∧ Below w.heap.size w w') := fun y4 hy4 => by
            have h9 := note_deal ((HB.out.1.below hb1).below hy4) (keepB HB1.out hy4).size (by have := HDL.out; have := HLT.out; omega) Y _ _ (rowf_below hv hy4) (rowf_below hv2 hy4)
            rw [HMT.out, HMT2.out] at h9
            refine h9.mono ?_
            rintro e w' ⟨he, hbk, hbl⟩
            exact ⟨he, by rw [HDN.out]; exact hbk, (keepB HB1.out hy4).trans hbl⟩
          obtain ⟨W1, HW1⟩ : ∃ W1, Hid ((y1.alloc (.cells #[.string ⟨#[]⟩, .slice none 0 0] tMs)).alloc (.cells #[.string ⟨#[]⟩, .slice none 0 0] tMs) = W1) := ⟨_, rfl⟩
          have r1 : W1.heap[y1.heap.size]? = some (.cells #[.string ⟨#[]⟩, .slice none 0 0] tMs (0, 0)) := HW1.out ▸ h2_0 _ _ _
          have r2 : W1.heap[y1.heap.size + 1]? = some (.cells #[.string ⟨#[]⟩, .slice none 0 0] tMs (0, 0)) := HW1.out ▸ h2_1 _ _ _
          have bw1 : Below y1.heap.size y1 W1 := HW1.out ▸ below_two _ _ _
          obtain ⟨W2, HW2⟩ : ∃ W2, Hid ((W1.setRow y1.heap.size #[.string MT, .slice o l c]) = W2) := ⟨_, rfl⟩
          have r3 : W2.heap[y1.heap.size]? = some (.cells #[.string MT, .slice o l c] tMs (0, 0)) := HW2.out ▸ setRow_at r1 _
          have r4 : W2.heap[y1.heap.size + 1]? = some (.cells #[.string ⟨#[]⟩, .slice none 0 0] tMs (0, 0)) := HW2.out ▸ (setRow_ne (by omega) _).trans r2
          have bw2 : Below y1.heap.size y1 W2 := HW2.out ▸ below_setRow bw1 (Nat.le_refl _) _
          obtain ⟨W3, HW3⟩ : ∃ W3, Hid ((W2.setRow (y1.heap.size + 1) #[.string MT2, .slice o2 l2 c2]) = W3) := ⟨_, rfl⟩
          have hx3 : W3.heap[y1.heap.size]? = some (.cells #[.string MT, .slice o l c] tMs (0, 0)) := HW3.out ▸ (setRow_ne (by omega) _).trans r3
          have hx4 : W3.heap[y1.heap.size + 1]? = some (.cells #[.string MT2, .slice o2 l2 c2] tMs (0, 0)) := HW3.out ▸ setRow_at r4 _
          have HW : Hid (Below y1.heap.size y1 W3) := HW3.out ▸ below_setRow bw2 (by omega) _
          have hbx3 := kept HW.out hbx1
          have d0 : W3.cell? ⟨wr.heap.size, 0, none⟩ = some (.int .i64 Y.lk) := by simp [World.cell?, hbx3]
          have ld : wr.heap.size < W3.heap.size := (Array.getElem?_eq_some_iff.1 hbx3).1
          clear hv hv2 hy1 hb1 hbx1 bw1 bw2 hbx3
          go_wp2_with (first
            | (refine wpList_store_row rfl tMs _ _ rfl y1.heap.size #[.string MT, .slice o l c] (by rfl) (by rfl) _ _ r1 infoMs (by rfl) (by simp [Value.oneCell']) ?_)
            | (refine wpList_store_row rfl tMs _ _ rfl (y1.heap.size + 1) #[.string MT2, .slice o2 l2 c2] (by rfl) (by rfl) _ _ r4 infoMs (by rfl) (by simp [Value.oneCell']) ?_)
            | (rw [HW1.out])
            | (rw [HW2.out])
            | (rw [HW3.out])
            | fail)
          refine Qt.region_tail 7 1 (C := Ql.Cl W3) (by kernel_rfl) rfl (by kernel_rfl) (by kernel_rfl) (by kernel_rfl) ((Below.refl _ _).drew) ?_
          dsimp only [List.take, List.drop, Act.put]
          repeat (first | go_big_quiet_skip | (go_big_quiet_want; go_big_quiet_op; first | go_big_quiet_on | (refine ⟨_, fun _ _ => rfl, ?_⟩; go_big_quiet_on) | (refine ⟨_, fun _ _ => ⟨rfl, rfl⟩, ?_⟩; go_big_quiet_on)) | (refine wpQuiet_step (fun K hK => ?_); first
            | (refine Ql.q_cell (by rfl) 3 _ rfl wr.heap.size 0 rfl _ d0 ld (fun y => Tryd.isAgg3 y) (hK _ ?_); clear hK K; simp only [Act.put, List.setIfInBounds_toArray, List.set_cons_succ, List.set_cons_zero])
            | (refine Ql.q_row (by rfl) 42 _ rfl y1.heap.size rfl _ _ _ _ hx3 Tryd.underlying42 rfl infoMs (hK _ ?_); clear hK K; simp only [Act.put, List.setIfInBounds_toArray, List.set_cons_succ, List.set_cons_zero])
            | (refine Ql.q_row (by rfl) 42 _ rfl (y1.heap.size+1) rfl _ _ _ _ hx4 Tryd.underlying42 rfl infoMs (hK _ ?_); clear hK K; simp only [Act.put, List.setIfInBounds_toArray, List.set_cons_succ, List.set_cons_zero])
            | (go_simp; apply Exists.intro; refine ⟨fun y hy => ?_, hK _ ?_⟩; (first | (go_at_call 5; exact Ql.cl_same hy (PK.out _))); clear hK K)
            | fail))
          refine wpQuiet_nil ?_
          intro y4 hy4
          have hy4' : Below y1.heap.size y1 y4 := keepB HW.out hy4
          clear hx3 hx4 d0 ld r1 r2 r3 r4 hy4
          go_wp2_with fail
          refine (HND.out y4 hy4').mono ?_
          rintro e y5 ⟨rfl, hbk5, hy5⟩
          have H5 : Hid _ := And.intro hbk5 hy5
          clear hbk5 hy5 hy4'
          go_wp2_with fail
          refine ⟨⟨i + 1, by simp, by have := HLT.out; show i + 1 ≤ min N 300; omega, H5.out⟩, ?_⟩
          have := HLT.out
          simp only [intOf]; omega
        · have q5 : 300 < (N : Int) := by omega
          have q6 : min (N : Int) 300 = 300 := by omega
          have q7 : 299 - (i : Int) = (J : Int) := by have := HJ.out; unfold idx at this; simp at this; omega
          have q8 : (J : Int) < (N : Int) := by omega
          have q9 : (0 : Int) ≤ (J : Int) := by omega
          clear hN kk2 bv0
          go_wp2_with (first
            | (refine wpList_store_row rfl tDe _ _ rfl wr.heap.size #[.int .i64 Y.lk, .int .i64 Y.wh, .int .i64 Y.am, .bool Y.cr, .bool Y.ys] (by rfl) (by rfl) _ _ hv0 infoDe (by rfl) (by simp [Value.oneCell']) ?_)
            | (refine wpList_load_row rfl tDe _ rfl wr.heap.size rfl _ _ _ _ hvr Tryd.underlying47 rfl infoDe ?_)
            | (rw [HV0.out])
            | (rw [HVe.out])
            | fail)
          clear hvr hv0 g0 g1 g2 g3 g4 c0 c1 c2 c3 c4 q5 q6 q7 q8 q9
          refine (HDE.out V).mono ?_
          rintro e y1 ⟨v, v2, rfl, hv, hv2, hy1⟩
          obtain ⟨o, l, c, rfl⟩ := row_shape hv
          obtain ⟨o2, l2, c2, rfl⟩ := row_shape hv2
          have hb1 : Below wr.heap.size wr y1 := keepB HV.out.1 hy1
          have HB1 : Hid (Below w.heap.size w y1) := keepB HB.out.2 hb1
          have hbx1 : y1.heap[wr.heap.size]? = some (.cells #[.int .i64 Y.lk, .int .i64 Y.wh, .int .i64 Y.am, .bool Y.cr, .bool Y.ys] tDe (0, 0)) := kept hy1 HV.out.2
          have HND : Hid (∀ y4, Below y1.heap.size y1 y4 → Calls Tryd.prog 11 #[.pointer (some ⟨b, 0, none⟩), .int .i64 (pkl n Y : Int), .agg #[.string MT, .slice o l c], .agg #[.string MT2, .slice o2 l2 c2]] y4 fun e w' => e = .returned (.int .i64 0) ∧ BkT w' w.heap.size b g n (tot n (done z true (i + 1))) ∧ Below w.heap.size w w') := fun y4 hy4 => by
            have h9 := note_deal ((HB.out.1.below hb1).below hy4) (keepB HB1.out hy4).size (by have := HDL.out; have := HLT.out; omega) Y _ _ (rowf_below hv hy4) (rowf_below hv2 hy4)
            rw [HMT.out, HMT2.out] at h9
            refine h9.mono ?_
            rintro e w' ⟨he, hbk, hbl⟩
            exact ⟨he, by rw [HDN.out]; exact hbk, (keepB HB1.out hy4).trans hbl⟩
          obtain ⟨W1, HW1⟩ : ∃ W1, Hid ((y1.alloc (.cells #[.string ⟨#[]⟩, .slice none 0 0] tMs)).alloc (.cells #[.string ⟨#[]⟩, .slice none 0 0] tMs) = W1) := ⟨_, rfl⟩
          have r1 : W1.heap[y1.heap.size]? = some (.cells #[.string ⟨#[]⟩, .slice none 0 0] tMs (0, 0)) := HW1.out ▸ h2_0 _ _ _
          have r2 : W1.heap[y1.heap.size + 1]? = some (.cells #[.string ⟨#[]⟩, .slice none 0 0] tMs (0, 0)) := HW1.out ▸ h2_1 _ _ _
          have bw1 : Below y1.heap.size y1 W1 := HW1.out ▸ below_two _ _ _
          obtain ⟨W2, HW2⟩ : ∃ W2, Hid ((W1.setRow y1.heap.size #[.string MT, .slice o l c]) = W2) := ⟨_, rfl⟩
          have r3 : W2.heap[y1.heap.size]? = some (.cells #[.string MT, .slice o l c] tMs (0, 0)) := HW2.out ▸ setRow_at r1 _
          have r4 : W2.heap[y1.heap.size + 1]? = some (.cells #[.string ⟨#[]⟩, .slice none 0 0] tMs (0, 0)) := HW2.out ▸ (setRow_ne (by omega) _).trans r2
          have bw2 : Below y1.heap.size y1 W2 := HW2.out ▸ below_setRow bw1 (Nat.le_refl _) _
          obtain ⟨W3, HW3⟩ : ∃ W3, Hid ((W2.setRow (y1.heap.size + 1) #[.string MT2, .slice o2 l2 c2]) = W3) := ⟨_, rfl⟩
          have hx3 : W3.heap[y1.heap.size]? = some (.cells #[.string MT, .slice o l c] tMs (0, 0)) := HW3.out ▸ (setRow_ne (by omega) _).trans r3
          have hx4 : W3.heap[y1.heap.size + 1]? = some (.cells #[.string MT2, .slice o2 l2 c2] tMs (0, 0)) := HW3.out ▸ setRow_at r4 _
          have HW : Hid (Below y1.heap.size y1 W3) := HW3.out ▸ below_setRow bw2 (by omega) _
          have hbx3 := kept HW.out hbx1
          have d0 : W3.cell? ⟨wr.heap.size, 0, none⟩ = some (.int .i64 Y.lk) := by simp [World.cell?, hbx3]
          have ld : wr.heap.size < W3.heap.size := (Array.getElem?_eq_some_iff.1 hbx3).1
          clear hv hv2 hy1 hb1 hbx1 bw1 bw2 hbx3
          go_wp2_with (first
            | (refine wpList_store_row rfl tMs _ _ rfl y1.heap.size #[.string MT, .slice o l c] (by rfl) (by rfl) _ _ r1 infoMs (by rfl) (by simp [Value.oneCell']) ?_)
            | (refine wpList_store_row rfl tMs _ _ rfl (y1.heap.size + 1) #[.string MT2, .slice o2 l2 c2] (by rfl) (by rfl) _ _ r4 infoMs (by rfl) (by simp [Value.oneCell']) ?_)
            | (rw [HW1.out])
            | (rw [HW2.out])
            | (rw [HW3.out])
            | fail)
          refine Qt.region_tail 7 1 (C := Ql.Cl W3) (by kernel_rfl) rfl (by kernel_rfl) (by kernel_rfl) (by kernel_rfl) ((Below.refl _ _).drew) ?_
          dsimp only [List.take, List.drop, Act.put]
          repeat (first | go_big_quiet_skip | (go_big_quiet_want; go_big_quiet_op; first | go_big_quiet_on | (refine ⟨_, fun _ _ => rfl, ?_⟩; go_big_quiet_on) | (refine ⟨_, fun _ _ => ⟨rfl, rfl⟩, ?_⟩; go_big_quiet_on)) | (refine wpQuiet_step (fun K hK => ?_); first
            | (refine Ql.q_cell (by rfl) 3 _ rfl wr.heap.size 0 rfl _ d0 ld (fun y => Tryd.isAgg3 y) (hK _ ?_); clear hK K; simp only [Act.put, List.setIfInBounds_toArray, List.set_cons_succ, List.set_cons_zero])
            | (refine Ql.q_row (by rfl) 42 _ rfl y1.heap.size rfl _ _ _ _ hx3 Tryd.underlying42 rfl infoMs (hK _ ?_); clear hK K; simp only [Act.put, List.setIfInBounds_toArray, List.set_cons_succ, List.set_cons_zero])
            | (refine Ql.q_row (by rfl) 42 _ rfl (y1.heap.size+1) rfl _ _ _ _ hx4 Tryd.underlying42 rfl infoMs (hK _ ?_); clear hK K; simp only [Act.put, List.setIfInBounds_toArray, List.set_cons_succ, List.set_cons_zero])
            | (go_simp; apply Exists.intro; refine ⟨fun y hy => ?_, hK _ ?_⟩; (first | (go_at_call 5; exact Ql.cl_same hy (PK.out _))); clear hK K)
            | fail))
          refine wpQuiet_nil ?_
          intro y4 hy4
          have hy4' : Below y1.heap.size y1 y4 := keepB HW.out hy4
          clear hx3 hx4 d0 ld r1 r2 r3 r4 hy4
          go_wp2_with fail
          refine (HND.out y4 hy4').mono ?_
          rintro e y5 ⟨rfl, hbk5, hy5⟩
          have H5 : Hid _ := And.intro hbk5 hy5
          clear hbk5 hy5 hy4'
          go_wp2_with fail
          refine ⟨⟨i + 1, by simp, by have := HLT.out; show i + 1 ≤ min N 300; omega, H5.out⟩, ?_⟩
          have := HLT.out
          simp only [intOf]; omega
    · have hi9 : i = min N 300 := by have := HI.out; omega
      have HE : Hid (tot n (done z bk i) = tot n (z.take 300)) := by
        rw [hi9, ← HT.out]; exact done_end n z bk
      have HFIN : Hid (BkT wr w.heap.size b g n (tot n (z.take 300)) ∧ Below w.heap.size w wr) := by rw [← HE.out]; exact HB.out
      by_cases hN : N ≤ 300
      · have q1 : (N : Int) ≤ (i : Int) := by omega
        clear hi9 hlt hN
        go_wp2_with fail
        go_ret
        exact ⟨b, g, rfl, HFIN.out⟩
      · have q1 : (i : Int) < (N : Int) := by omega
        have q2 : (300 : Int) ≤ (i : Int) := by omega
        clear hi9 hlt hN
        go_wp2_with fail
        go_ret
        exact ⟨b, g, rfl, HFIN.out⟩
end Go.Proofs.YteaanenhefbkjaaDoor.Tu
