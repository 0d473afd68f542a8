/- The reader: a length. -/
import Derived.Test.YtgidjfhlooggkaaGf
import Derived.BigQuiet
namespace Go.Proofs.Ytgidjfhlooggkaa.Gg
set_option linter.unusedVariables false
set_option linter.unusedSimpArgs false
open Go.RowKit Kb Ga Gb Gc Gd Ge Gf
def lenR (s : ByteArray) (k : Nat) (e : Int) : Rs :=
  if (k : Int) < e then
    if byt s k = 129 then
      if ((k + 1 : Nat) : Int) < e then if byt s (k + 1) ≤ 127 then .bad 91 k else .ok (byt s (k + 1)) (k + 2) else .bad 10 e
    else if byt s k = 130 then
      if ((k + 1 : Nat) : Int) < e then
        if ((k + 2 : Nat) : Int) < e then if byt s (k + 1) * 256 + byt s (k + 2) ≤ 9999 ∧ 255 < byt s (k + 1) * 256 + byt s (k + 2) then .ok (byt s (k + 1) * 256 + byt s (k + 2)) (k + 3) else .bad 91 k else .bad 10 e
      else .bad 10 e
    else if byt s k ≤ 127 then .ok (byt s k) (k + 1) else .bad 91 k
  else .bad 10 e
set_option maxRecDepth 100000 in
set_option maxHeartbeats 1600000 in
theorem length_any {w : World} {g k : Nat} {s : ByteArray} {e d b : Int} (h : Rd w g s (k : Int) e d b) (hk : (k : Int) ≤ e) (h3 : e ≤ 1048576) (hs : e ≤ (s.size : Int)) :
    Calls Try.prog 93 #[.pointer (some ⟨g, 0, none⟩)] w (Post w g s e d b (lenR s k e)) := by
  obtain ⟨⟨a0, a1, a2, a3, a4⟩, _⟩ := h.at
  clear a0 a2 a3 a4
  by_cases k0 : (k : Int) < e
  case neg =>
    rw [show lenR s k e = .bad 10 e by unfold lenR; rw [if_neg k0]]
    go_enter Try.func93, Try.ntmps93
    go_wp2_with fail
    refine (next_end h (by omega) (by omega) (by omega) h3).mono ?_
    rintro _ x ⟨rfl, hg⟩
    exact ⟨rfl, rfl, hg⟩
  have cn := next_byt h k0 h3 hs
  have A0 := (byt_bd s k).1
  have A1 := (byt_bd s k).2
  have B0 := (byt_bd s (k + 1)).1
  have B1 := (byt_bd s (k + 1)).2
  have C0 := (byt_bd s (k + 2)).1
  have C1 := (byt_bd s (k + 2)).2
  obtain ⟨A, hA⟩ : ∃ A, byt s k = A := ⟨_, rfl⟩
  obtain ⟨B, hB⟩ : ∃ A, byt s (k + 1) = A := ⟨_, rfl⟩
  obtain ⟨C, hC⟩ : ∃ A, byt s (k + 2) = A := ⟨_, rfl⟩
  have tR : lenR s k e = if A = 129 then if ((k + 1 : Nat) : Int) < e then if B ≤ 127 then .bad 91 k else .ok B (k + 2) else .bad 10 e else if A = 130 then if ((k + 1 : Nat) : Int) < e then if ((k + 2 : Nat) : Int) < e then if B * 256 + C ≤ 9999 ∧ 255 < B * 256 + C then .ok (B * 256 + C) (k + 3) else .bad 91 k else .bad 10 e else .bad 10 e else if A ≤ 127 then .ok A (k + 1) else .bad 91 k := by
    unfold lenR; rw [if_pos k0, hA, hB, hC]
  rw [hA] at cn A0 A1
  rw [hB] at B0 B1
  rw [hC] at C0 C1
  rw [tR]
  clear tR hA
  by_cases z9 : A = 129
  · subst z9
    rw [if_pos rfl]
    by_cases k1 : ((k + 1 : Nat) : Int) < e
    · rw [if_pos k1]
      have n9 : B ≤ 9999 := by omega
      have n9d : decide (B ≤ 9999) = true := decide_eq_true n9
      by_cases b1 : B ≤ 127
      · rw [if_pos b1]
        have ls := lengthSize_any (B)
        rw [show lnS (B) = 1 by unfold lnS; rw [if_pos b1]] at ls
        go_enter Try.func93, Try.ntmps93
        go_wp2_with fail
        refine cn.mono ?_
        rintro _ x ⟨rfl, hl⟩
        clear a1 cn
        go_wp2_with fail
        refine (next_byt hl.1 k1 h3 hs).mono ?_
        rintro _ x2 ⟨rfl, hl2⟩
        have hl3 := hl.then hl2
        rw [hB]
        obtain ⟨⟨c0, c1, c2, c3, c4⟩, fz⟩ := hl3.1.at
        have hgl : g < x2.heap.size := (Array.getElem?_eq_some_iff.1 hl3.1).1
        clear fz c0 c2 c3 c4
        go_wp2_with fail
        refine Ql.region_lastL (C := Ql.Cl x2) (by kernel_rfl) rfl (by kernel_rfl) (by kernel_rfl) (by kernel_rfl) rfl ((Below.refl _ _).drew) ?_
        dsimp only [List.dropLast]
        repeat (first | go_big_quiet_skip | (go_big_quiet_want; go_big_quiet_op; first | go_big_quiet_on | (refine ⟨_, fun _ _ => rfl, ?_⟩; go_big_quiet_on) | (refine ⟨_, fun _ _ => ⟨rfl, rfl⟩, ?_⟩; go_big_quiet_on)) | (refine wpQuiet_step (fun K hK => ?_); first
          | (refine Ql.q_cell (by rfl) 3 _ rfl g 1 rfl _ c1 hgl (fun y => isAgg_int y) (hK _ ?_); clear hK K; simp only [Act.put, List.setIfInBounds_toArray, List.set_cons_succ, List.set_cons_zero])
          | (go_simp; apply Exists.intro; refine ⟨fun y hy => ?_, hK _ ?_⟩; (first | (go_at_call 75; exact Ql.cl_same hy (ls y))); clear hK K)
          | (go_simp; refine hK _ ?_; clear hK K)))
        refine wpQuiet_nil ?_
        intro y1 hy1
        go_simp
        rw [show ((1 : Int) == ((k : Int) + 1 + 1) - (k : Int)) = false by rw [show ((k : Int) + 1 + 1) - (k : Int) = 2 by omega]; rfl]
        refine (must_bad _ _ _).mono ?_
        rintro _ y ⟨rfl, hy⟩
        rw [hy]; clear hy y
        exact ⟨rfl, rfl, gr_trans hl3.2 (gr_below hy1 _)⟩
      · rw [if_neg b1]
        have ls := lengthSize_any (B)
        rw [show lnS (B) = 2 by unfold lnS; rw [if_neg b1, if_pos B1]] at ls
        go_enter Try.func93, Try.ntmps93
        go_wp2_with fail
        refine cn.mono ?_
        rintro _ x ⟨rfl, hl⟩
        clear a1 cn
        go_wp2_with fail
        refine (next_byt hl.1 k1 h3 hs).mono ?_
        rintro _ x2 ⟨rfl, hl2⟩
        have hl3 := hl.then hl2
        rw [hB]
        obtain ⟨⟨c0, c1, c2, c3, c4⟩, fz⟩ := hl3.1.at
        have hgl : g < x2.heap.size := (Array.getElem?_eq_some_iff.1 hl3.1).1
        clear fz c0 c2 c3 c4
        go_wp2_with fail
        refine Ql.region_lastL (C := Ql.Cl x2) (by kernel_rfl) rfl (by kernel_rfl) (by kernel_rfl) (by kernel_rfl) rfl ((Below.refl _ _).drew) ?_
        dsimp only [List.dropLast]
        repeat (first | go_big_quiet_skip | (go_big_quiet_want; go_big_quiet_op; first | go_big_quiet_on | (refine ⟨_, fun _ _ => rfl, ?_⟩; go_big_quiet_on) | (refine ⟨_, fun _ _ => ⟨rfl, rfl⟩, ?_⟩; go_big_quiet_on)) | (refine wpQuiet_step (fun K hK => ?_); first
          | (refine Ql.q_cell (by rfl) 3 _ rfl g 1 rfl _ c1 hgl (fun y => isAgg_int y) (hK _ ?_); clear hK K; simp only [Act.put, List.setIfInBounds_toArray, List.set_cons_succ, List.set_cons_zero])
          | (go_simp; apply Exists.intro; refine ⟨fun y hy => ?_, hK _ ?_⟩; (first | (go_at_call 75; exact Ql.cl_same hy (ls y))); clear hK K)
          | (go_simp; refine hK _ ?_; clear hK K)))
        refine wpQuiet_nil ?_
        intro y1 hy1
        go_simp
        rw [show ((2 : Int) == ((k : Int) + 1 + 1) - (k : Int)) = true by rw [show ((k : Int) + 1 + 1) - (k : Int) = 2 by omega]; rfl]
        refine (must_ok _ _ _).mono ?_
        rintro _ y ⟨rfl, hy⟩
        rw [hy]; clear hy y
        go_wp2_with fail
        go_ret
        exact ⟨rfl, hl3.then ⟨hl3.1.next hy1, gr_below hy1 _⟩⟩
    · rw [if_neg k1]
      go_enter Try.func93, Try.ntmps93
      go_wp2_with fail
      refine cn.mono ?_
      rintro _ x ⟨rfl, hl⟩
      clear a1 cn
      go_wp2_with fail
      refine (next_end hl.1 (by omega) (by omega) (by omega) h3).mono ?_
      rintro _ y ⟨rfl, hg⟩
      exact ⟨rfl, rfl, gr_trans hl.2 hg⟩
  by_cases z0 : A = 130
  · subst z0
    rw [if_neg z9, if_pos rfl]
    by_cases k1 : ((k + 1 : Nat) : Int) < e
    · rw [if_pos k1]
      by_cases k2 : ((k + 2 : Nat) : Int) < e
      · rw [if_pos k2]
        have o1 := or8 B C B0 B1 C0 C1
        by_cases n9 : B * 256 + C ≤ 9999
        · have n9d : decide (B * 256 + C ≤ 9999) = true := decide_eq_true n9
          by_cases n3 : 255 < B * 256 + C
          · rw [if_pos ⟨n9, n3⟩]
            have ls := lengthSize_any (B * 256 + C)
            rw [show lnS (B * 256 + C) = 3 by unfold lnS; rw [if_neg (by omega), if_neg (by omega)]] at ls
            go_enter Try.func93, Try.ntmps93
            go_wp2_with fail
            refine cn.mono ?_
            rintro _ x ⟨rfl, hl⟩
            clear a1 cn
            go_wp2_with fail
            refine (next_byt hl.1 k1 h3 hs).mono ?_
            rintro _ x2 ⟨rfl, hl2⟩
            have hl3 := hl.then hl2
            rw [hB]
            go_wp2_with fail
            refine (next_byt hl3.1 k2 h3 hs).mono ?_
            rintro _ x3 ⟨rfl, hl4⟩
            have hl5 := hl3.then hl4
            rw [hC]
            obtain ⟨⟨c0, c1, c2, c3, c4⟩, fz⟩ := hl5.1.at
            have hgl : g < x3.heap.size := (Array.getElem?_eq_some_iff.1 hl5.1).1
            clear fz c0 c2 c3 c4
            go_wp2_with fail
            refine Ql.region_lastL (C := Ql.Cl x3) (by kernel_rfl) rfl (by kernel_rfl) (by kernel_rfl) (by kernel_rfl) rfl ((Below.refl _ _).drew) ?_
            dsimp only [List.dropLast]
            repeat (first | go_big_quiet_skip | (go_big_quiet_want; go_big_quiet_op; first | go_big_quiet_on | (refine ⟨_, fun _ _ => rfl, ?_⟩; go_big_quiet_on) | (refine ⟨_, fun _ _ => ⟨rfl, rfl⟩, ?_⟩; go_big_quiet_on)) | (refine wpQuiet_step (fun K hK => ?_); first
              | (refine Ql.q_cell (by rfl) 3 _ rfl g 1 rfl _ c1 hgl (fun y => isAgg_int y) (hK _ ?_); clear hK K; simp only [Act.put, List.setIfInBounds_toArray, List.set_cons_succ, List.set_cons_zero])
              | (go_simp; apply Exists.intro; refine ⟨fun y hy => ?_, hK _ ?_⟩; (first | (go_at_call 75; exact Ql.cl_same hy (ls y))); clear hK K)
              | (go_simp; refine hK _ ?_; clear hK K)))
            refine wpQuiet_nil ?_
            intro y1 hy1
            go_simp
            rw [show ((3 : Int) == ((k : Int) + 1 + 1 + 1) - (k : Int)) = true by rw [show ((k : Int) + 1 + 1 + 1) - (k : Int) = 3 by omega]; rfl]
            refine (must_ok _ _ _).mono ?_
            rintro _ y ⟨rfl, hy⟩
            rw [hy]; clear hy y
            go_wp2_with fail
            go_ret
            exact ⟨rfl, hl5.then ⟨hl5.1.next hy1, gr_below hy1 _⟩⟩
          · rw [if_neg (fun h => n3 h.2)]
            by_cases n2 : B * 256 + C ≤ 127
            · have ls := lengthSize_any (B * 256 + C)
              rw [show lnS (B * 256 + C) = 1 by unfold lnS; rw [if_pos n2]] at ls
              go_enter Try.func93, Try.ntmps93
              go_wp2_with fail
              refine cn.mono ?_
              rintro _ x ⟨rfl, hl⟩
              clear a1 cn
              go_wp2_with fail
              refine (next_byt hl.1 k1 h3 hs).mono ?_
              rintro _ x2 ⟨rfl, hl2⟩
              have hl3 := hl.then hl2
              rw [hB]
              go_wp2_with fail
              refine (next_byt hl3.1 k2 h3 hs).mono ?_
              rintro _ x3 ⟨rfl, hl4⟩
              have hl5 := hl3.then hl4
              rw [hC]
              obtain ⟨⟨c0, c1, c2, c3, c4⟩, fz⟩ := hl5.1.at
              have hgl : g < x3.heap.size := (Array.getElem?_eq_some_iff.1 hl5.1).1
              clear fz c0 c2 c3 c4
              go_wp2_with fail
              refine Ql.region_lastL (C := Ql.Cl x3) (by kernel_rfl) rfl (by kernel_rfl) (by kernel_rfl) (by kernel_rfl) rfl ((Below.refl _ _).drew) ?_
              dsimp only [List.dropLast]
              repeat (first | go_big_quiet_skip | (go_big_quiet_want; go_big_quiet_op; first | go_big_quiet_on | (refine ⟨_, fun _ _ => rfl, ?_⟩; go_big_quiet_on) | (refine ⟨_, fun _ _ => ⟨rfl, rfl⟩, ?_⟩; go_big_quiet_on)) | (refine wpQuiet_step (fun K hK => ?_); first
                | (refine Ql.q_cell (by rfl) 3 _ rfl g 1 rfl _ c1 hgl (fun y => isAgg_int y) (hK _ ?_); clear hK K; simp only [Act.put, List.setIfInBounds_toArray, List.set_cons_succ, List.set_cons_zero])
                | (go_simp; apply Exists.intro; refine ⟨fun y hy => ?_, hK _ ?_⟩; (first | (go_at_call 75; exact Ql.cl_same hy (ls y))); clear hK K)
                | (go_simp; refine hK _ ?_; clear hK K)))
              refine wpQuiet_nil ?_
              intro y1 hy1
              go_simp
              rw [show ((1 : Int) == ((k : Int) + 1 + 1 + 1) - (k : Int)) = false by rw [show ((k : Int) + 1 + 1 + 1) - (k : Int) = 3 by omega]; rfl]
              refine (must_bad _ _ _).mono ?_
              rintro _ y ⟨rfl, hy⟩
              rw [hy]; clear hy y
              exact ⟨rfl, rfl, gr_trans hl5.2 (gr_below hy1 _)⟩
            · have ls := lengthSize_any (B * 256 + C)
              rw [show lnS (B * 256 + C) = 2 by unfold lnS; rw [if_neg n2, if_pos (by omega)]] at ls
              go_enter Try.func93, Try.ntmps93
              go_wp2_with fail
              refine cn.mono ?_
              rintro _ x ⟨rfl, hl⟩
              clear a1 cn
              go_wp2_with fail
              refine (next_byt hl.1 k1 h3 hs).mono ?_
              rintro _ x2 ⟨rfl, hl2⟩
              have hl3 := hl.then hl2
              rw [hB]
              go_wp2_with fail
              refine (next_byt hl3.1 k2 h3 hs).mono ?_
              rintro _ x3 ⟨rfl, hl4⟩
              have hl5 := hl3.then hl4
              rw [hC]
              obtain ⟨⟨c0, c1, c2, c3, c4⟩, fz⟩ := hl5.1.at
              have hgl : g < x3.heap.size := (Array.getElem?_eq_some_iff.1 hl5.1).1
              clear fz c0 c2 c3 c4
              go_wp2_with fail
              refine Ql.region_lastL (C := Ql.Cl x3) (by kernel_rfl) rfl (by kernel_rfl) (by kernel_rfl) (by kernel_rfl) rfl ((Below.refl _ _).drew) ?_
              dsimp only [List.dropLast]
              repeat (first | go_big_quiet_skip | (go_big_quiet_want; go_big_quiet_op; first | go_big_quiet_on | (refine ⟨_, fun _ _ => rfl, ?_⟩; go_big_quiet_on) | (refine ⟨_, fun _ _ => ⟨rfl, rfl⟩, ?_⟩; go_big_quiet_on)) | (refine wpQuiet_step (fun K hK => ?_); first
                | (refine Ql.q_cell (by rfl) 3 _ rfl g 1 rfl _ c1 hgl (fun y => isAgg_int y) (hK _ ?_); clear hK K; simp only [Act.put, List.setIfInBounds_toArray, List.set_cons_succ, List.set_cons_zero])
                | (go_simp; apply Exists.intro; refine ⟨fun y hy => ?_, hK _ ?_⟩; (first | (go_at_call 75; exact Ql.cl_same hy (ls y))); clear hK K)
                | (go_simp; refine hK _ ?_; clear hK K)))
              refine wpQuiet_nil ?_
              intro y1 hy1
              go_simp
              rw [show ((2 : Int) == ((k : Int) + 1 + 1 + 1) - (k : Int)) = false by rw [show ((k : Int) + 1 + 1 + 1) - (k : Int) = 3 by omega]; rfl]
              refine (must_bad _ _ _).mono ?_
              rintro _ y ⟨rfl, hy⟩
              rw [hy]; clear hy y
              exact ⟨rfl, rfl, gr_trans hl5.2 (gr_below hy1 _)⟩
        · have n9d : decide (B * 256 + C ≤ 9999) = false := decide_eq_false n9
          rw [if_neg (fun h => n9 h.1)]
          have ls := lengthSize_any (B * 256 + C)
          go_enter Try.func93, Try.ntmps93
          go_wp2_with fail
          refine cn.mono ?_
          rintro _ x ⟨rfl, hl⟩
          clear a1 cn
          go_wp2_with fail
          refine (next_byt hl.1 k1 h3 hs).mono ?_
          rintro _ x2 ⟨rfl, hl2⟩
          have hl3 := hl.then hl2
          rw [hB]
          go_wp2_with fail
          refine (next_byt hl3.1 k2 h3 hs).mono ?_
          rintro _ x3 ⟨rfl, hl4⟩
          have hl5 := hl3.then hl4
          rw [hC]
          obtain ⟨⟨c0, c1, c2, c3, c4⟩, fz⟩ := hl5.1.at
          have hgl : g < x3.heap.size := (Array.getElem?_eq_some_iff.1 hl5.1).1
          clear fz c0 c2 c3 c4
          go_wp2_with fail
          refine Ql.region_lastL (C := Ql.Cl x3) (by kernel_rfl) rfl (by kernel_rfl) (by kernel_rfl) (by kernel_rfl) rfl ((Below.refl _ _).drew) ?_
          dsimp only [List.dropLast]
          repeat (first | go_big_quiet_skip | (go_big_quiet_want; go_big_quiet_op; first | go_big_quiet_on | (refine ⟨_, fun _ _ => rfl, ?_⟩; go_big_quiet_on) | (refine ⟨_, fun _ _ => ⟨rfl, rfl⟩, ?_⟩; go_big_quiet_on)) | (refine wpQuiet_step (fun K hK => ?_); first
            | (refine Ql.q_cell (by rfl) 3 _ rfl g 1 rfl _ c1 hgl (fun y => isAgg_int y) (hK _ ?_); clear hK K; simp only [Act.put, List.setIfInBounds_toArray, List.set_cons_succ, List.set_cons_zero])
            | (go_simp; apply Exists.intro; refine ⟨fun y hy => ?_, hK _ ?_⟩; (first | (go_at_call 75; exact Ql.cl_same hy (ls y))); clear hK K)
            | (go_simp; refine hK _ ?_; clear hK K)))
          refine wpQuiet_nil ?_
          intro y1 hy1
          go_simp
          refine (must_bad _ _ _).mono ?_
          rintro _ y ⟨rfl, hy⟩
          rw [hy]; clear hy y
          exact ⟨rfl, rfl, gr_trans hl5.2 (gr_below hy1 _)⟩
      · rw [if_neg k2]
        go_enter Try.func93, Try.ntmps93
        go_wp2_with fail
        refine cn.mono ?_
        rintro _ x ⟨rfl, hl⟩
        clear a1 cn
        go_wp2_with fail
        refine (next_byt hl.1 k1 h3 hs).mono ?_
        rintro _ x2 ⟨rfl, hl2⟩
        have hl3 := hl.then hl2
        rw [hB]
        go_wp2_with fail
        refine (next_end hl3.1 (by omega) (by omega) (by omega) h3).mono ?_
        rintro _ y ⟨rfl, hg⟩
        exact ⟨rfl, rfl, gr_trans hl3.2 hg⟩
    · rw [if_neg k1]
      go_enter Try.func93, Try.ntmps93
      go_wp2_with fail
      refine cn.mono ?_
      rintro _ x ⟨rfl, hl⟩
      clear a1 cn
      go_wp2_with fail
      refine (next_end hl.1 (by omega) (by omega) (by omega) h3).mono ?_
      rintro _ y ⟨rfl, hg⟩
      exact ⟨rfl, rfl, gr_trans hl.2 hg⟩
  rw [if_neg z9, if_neg z0]
  have y9 : (A == 129) = false := by simp; exact z9
  have y0 : (A == 130) = false := by simp; exact z0
  have n9 : A ≤ 9999 := by omega
  have n9d : decide (A ≤ 9999) = true := decide_eq_true n9
  by_cases l0 : A ≤ 127
  · rw [if_pos l0]
    have ls := lengthSize_any (A)
    rw [show lnS (A) = 1 by unfold lnS; rw [if_pos l0]] at ls
    go_enter Try.func93, Try.ntmps93
    go_wp2_with fail
    refine cn.mono ?_
    rintro _ x ⟨rfl, hl⟩
    clear a1 cn
    obtain ⟨⟨c0, c1, c2, c3, c4⟩, fz⟩ := hl.1.at
    have hgl : g < x.heap.size := (Array.getElem?_eq_some_iff.1 hl.1).1
    clear fz c0 c2 c3 c4
    go_wp2_with fail
    refine Ql.region_lastL (C := Ql.Cl x) (by kernel_rfl) rfl (by kernel_rfl) (by kernel_rfl) (by kernel_rfl) rfl ((Below.refl _ _).drew) ?_
    dsimp only [List.dropLast]
    repeat (first | go_big_quiet_skip | (go_big_quiet_want; go_big_quiet_op; first | go_big_quiet_on | (refine ⟨_, fun _ _ => rfl, ?_⟩; go_big_quiet_on) | (refine ⟨_, fun _ _ => ⟨rfl, rfl⟩, ?_⟩; go_big_quiet_on)) | (refine wpQuiet_step (fun K hK => ?_); first
      | (refine Ql.q_cell (by rfl) 3 _ rfl g 1 rfl _ c1 hgl (fun y => isAgg_int y) (hK _ ?_); clear hK K; simp only [Act.put, List.setIfInBounds_toArray, List.set_cons_succ, List.set_cons_zero])
      | (go_simp; apply Exists.intro; refine ⟨fun y hy => ?_, hK _ ?_⟩; (first | (go_at_call 75; exact Ql.cl_same hy (ls y))); clear hK K)
      | (go_simp; refine hK _ ?_; clear hK K)))
    refine wpQuiet_nil ?_
    intro y1 hy1
    go_simp
    rw [show ((1 : Int) == ((k : Int) + 1) - (k : Int)) = true by rw [show ((k : Int) + 1) - (k : Int) = 1 by omega]; rfl]
    refine (must_ok _ _ _).mono ?_
    rintro _ y ⟨rfl, hy⟩
    rw [hy]; clear hy y
    go_wp2_with fail
    go_ret
    exact ⟨rfl, hl.then ⟨hl.1.next hy1, gr_below hy1 _⟩⟩
  · rw [if_neg l0]
    have ls := lengthSize_any (A)
    rw [show lnS (A) = 2 by unfold lnS; rw [if_neg l0, if_pos A1]] at ls
    go_enter Try.func93, Try.ntmps93
    go_wp2_with fail
    refine cn.mono ?_
    rintro _ x ⟨rfl, hl⟩
    clear a1 cn
    obtain ⟨⟨c0, c1, c2, c3, c4⟩, fz⟩ := hl.1.at
    have hgl : g < x.heap.size := (Array.getElem?_eq_some_iff.1 hl.1).1
    clear fz c0 c2 c3 c4
    go_wp2_with fail
    refine Ql.region_lastL (C := Ql.Cl x) (by kernel_rfl) rfl (by kernel_rfl) (by kernel_rfl) (by kernel_rfl) rfl ((Below.refl _ _).drew) ?_
    dsimp only [List.dropLast]
    repeat (first | go_big_quiet_skip | (go_big_quiet_want; go_big_quiet_op; first | go_big_quiet_on | (refine ⟨_, fun _ _ => rfl, ?_⟩; go_big_quiet_on) | (refine ⟨_, fun _ _ => ⟨rfl, rfl⟩, ?_⟩; go_big_quiet_on)) | (refine wpQuiet_step (fun K hK => ?_); first
      | (refine Ql.q_cell (by rfl) 3 _ rfl g 1 rfl _ c1 hgl (fun y => isAgg_int y) (hK _ ?_); clear hK K; simp only [Act.put, List.setIfInBounds_toArray, List.set_cons_succ, List.set_cons_zero])
      | (go_simp; apply Exists.intro; refine ⟨fun y hy => ?_, hK _ ?_⟩; (first | (go_at_call 75; exact Ql.cl_same hy (ls y))); clear hK K)
      | (go_simp; refine hK _ ?_; clear hK K)))
    refine wpQuiet_nil ?_
    intro y1 hy1
    go_simp
    rw [show ((2 : Int) == ((k : Int) + 1) - (k : Int)) = false by rw [show ((k : Int) + 1) - (k : Int) = 1 by omega]; rfl]
    refine (must_bad _ _ _).mono ?_
    rintro _ y ⟨rfl, hy⟩
    rw [hy]; clear hy y
    exact ⟨rfl, rfl, gr_trans hl.2 (gr_below hy1 _)⟩
end Go.Proofs.Ytgidjfhlooggkaa.Gg
