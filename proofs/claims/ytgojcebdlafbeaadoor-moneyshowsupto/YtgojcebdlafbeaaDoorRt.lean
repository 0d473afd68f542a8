/- Read: the document's. -/
import Derived.Test.YtgojcebdlafbeaaDoorRs
import Derived.Test.YtgojcebdlafbeaaDoorRd
namespace Go.Proofs.YtgojcebdlafbeaaDoor.Rt
set_option linter.unusedVariables false
open Go.RowKit Kb Cp Np Mp Pp Pc Ms Sw Sh Pr Rs Rd
theorem dn_step (t : ByteArray) (k : Nat) (h : k < t.size) : dn (t.data.toList.take (k + 1)) = if dg t[k] then dn (t.data.toList.take k) * 10 + (t[k].toNat - 48) else dn (t.data.toList.take k) := by
  rw [Lib0.take_snoc t k h, dn_snoc]
set_option maxRecDepth 100000 in
set_option maxHeartbeats 800000 in
theorem readr_any (t s : ByteArray) (ht : t.size ≤ 1048576) (w : World) : Calls Tryd.prog 8 #[.string t, .string s] w fun e w' => e = .returned (.tuple #[.int .i64 (rdV t.data.toList s.data.toList), .int .i64 (rdX t.data.toList s.data.toList)]) ∧ Below w.heap.size w w' := by
  have pa := fun w => placesr_any s w
  rcases plE_cases s.data.toList with e0 | ⟨e0, v0⟩
  · have hV : rdV t.data.toList s.data.toList = (rdN t.data.toList (plV s.data.toList).toNat : Int) := by rw [rdV, if_pos e0]
    have hX : rdX t.data.toList s.data.toList = rdE t.data.toList (plV s.data.toList).toNat := by rw [rdX, if_pos e0]
    rw [hV, hX]
    have ps := fun u w => showr_any u s w
    rw [e0] at pa
    obtain ⟨p, hp⟩ : ∃ p : Nat, (plV s.data.toList).toNat = p := ⟨_, rfl⟩
    rw [hp]
    have HS : Hid (∀ u, isA u = true → swT u s.data.toList = ⟨(showL u.toNat p).toArray⟩) := fun u hu => by rw [swT, if_pos ⟨e0, hu⟩, hp]
    obtain ⟨V, hVV⟩ : ∃ V : Int, V = (rdN t.data.toList p : Int) := ⟨_, rfl⟩
    obtain ⟨E, hEE⟩ : ∃ E : Int, E = rdE t.data.toList p := ⟨_, rfl⟩
    have HVE : Hid (V = (rdN t.data.toList p : Int) ∧ E = rdE t.data.toList p) := ⟨hVV, hEE⟩
    rw [← hVV, ← hEE]
    have t1 : (t.size : Int) ≤ 1048576 := by omega
    have HL : Hid (∀ k, dn (t.data.toList.take k) ≤ dn t.data.toList) := fun k => by
      have := dn_le (t.data.toList.take k) (t.data.toList.drop k)
      rwa [List.take_append_drop] at this
    generalize plV s.data.toList = pl at *
    clear hV hX e0 hVV hEE hp
    go_enter Tryd.func8, Tryd.ntmps8
    go_wp2_with fail
    refine (pa _).mono ?_
    rintro e y1 ⟨rfl, b1⟩
    clear pa
    go_wp2_with fail
    go_loop [8, 9] (fun nn ii => ∃ (k : Nat) (N : Int), nn = .int .i64 N ∧ ii = .int .i64 (k : Int) ∧ k ≤ t.size ∧ 0 ≤ N ∧ N ≤ 999999999999 ∧ Hid (N = (dn (t.data.toList.take k) : Int))) (fun _ ii => t.size - (intOf ii).toNat)
    case atStart => exact ⟨0, 0, rfl, rfl, Nat.zero_le _, by decide, by decide, rfl⟩
    case round =>
      obtain ⟨k, N, rfl, rfl, hk, N0, N1, HN⟩ := hrel
      by_cases hlt : k < t.size
      · have q : (k : Int) < (t.size : Int) := by omega
        by_cases h1 : (48 : Int) ≤ (t[k].toNat : Int) <;> by_cases h2 : (t[k].toNat : Int) ≤ 57
        · have HN2 : Hid (10 * N + ((t[k].toNat : Int) - 48) = (dn (t.data.toList.take (k + 1)) : Int)) := by
            show _ = _
            rw [dn_step t k hlt, if_pos ((dg_iff _).2 (by omega))]
            have := HN.out
            omega
          by_cases hb : 10 * N + ((t[k].toNat : Int) - 48) ≤ 999999999999
          · go_wp2
            go_round
            case rel => exact ⟨k + 1, _, rfl, by go_num, by omega, by omega, hb, HN2⟩
            case measure => simp [intOf]; omega
          · have hb2 : 999999999999 < 10 * N + ((t[k].toNat : Int) - 48) := by omega
            have hM : Hid (V = 0 ∧ E = 71) := by
              show _ ∧ _
              have hbig : 999999999999 < dn t.data.toList := by
                have := HL.out (k + 1)
                have := HN2.out
                omega
              obtain ⟨m1, m2⟩ := rd_miss t.data.toList p (fun u hu h => by
                have := dn_show u p
                rw [h] at this; omega)
              rw [HVE.out.1, HVE.out.2, m1, m2]; exact ⟨rfl, rfl⟩
            go_wp2
            go_ret2
            exact ⟨by rw [hM.out.1, hM.out.2]; rfl, b1⟩
        all_goals first
          | (exfalso; omega)
          | (have HN2 : Hid (N = (dn (t.data.toList.take (k + 1)) : Int)) := by
               show _ = _
               rw [dn_step t k hlt, if_neg (by rw [dg_iff]; omega)]
               exact HN.out
             go_wp2
             go_round
             case rel => exact ⟨k + 1, N, rfl, by go_num, by omega, N0, N1, HN2⟩
             case measure => simp [intOf]; omega)
      · have q : ¬ (k : Int) < (t.size : Int) := by omega
        have hN : N = (dn t.data.toList : Int) := by
          have := HN.out
          rwa [Lib0.take_all t k (by omega)] at this
        have hA : isA N = true := (isA_iff N).2 ⟨N0, N1⟩
        have hT := HS.out N hA
        have HNN : Hid (N = (dn t.data.toList : Int)) := hN
        clear hN
        go_wp2_with fail
        refine (ps N _).mono ?_
        rintro e y2 ⟨rfl, hy⟩
        have b2 := keepB b1 hy
        clear hy b1 ps
        generalize swE N s.data.toList = e2 at *
        cases hf : ((swT N s.data.toList).toList == t.toList)
        · have hM : Hid (V = 0 ∧ E = 71) := by
            show _ ∧ _
            rw [beq_eq_false_iff_ne, toL, toL, hT] at hf
            obtain ⟨m1, m2⟩ := rd_miss t.data.toList p (fun u hu h => by
              have := dn_show u p
              rw [h] at this
              have e3 : N.toNat = u := by have := HNN.out; omega
              rw [e3] at hf
              exact hf h)
            rw [HVE.out.1, HVE.out.2, m1, m2]; exact ⟨rfl, rfl⟩
          generalize swT N s.data.toList = R at *
          clear hT hA
          go_wp2_with fail
          go_ret2
          exact ⟨by rw [hM.out.1, hM.out.2]; rfl, b2⟩
        · have hM : Hid (V = N ∧ E = 0) := by
            show _ ∧ _
            rw [beq_iff_eq, toL, toL, hT] at hf
            obtain ⟨m1, m2⟩ := rd_hit t.data.toList p N.toNat (by omega) hf
            rw [HVE.out.1, HVE.out.2, m1, m2]; exact ⟨by omega, rfl⟩
          generalize swT N s.data.toList = R at *
          clear hT hA
          go_wp2_with fail
          go_ret2
          exact ⟨by rw [hM.out.1, hM.out.2]; rfl, b2⟩
  · have hV : rdV t.data.toList s.data.toList = 0 := by rw [rdV, if_neg (by rw [e0]; decide)]
    have hX : rdX t.data.toList s.data.toList = 70 := by rw [rdX, if_neg (by rw [e0]; decide)]
    rw [hV, hX]
    rw [e0] at pa
    generalize plV s.data.toList = p at *
    clear hV hX e0
    go_enter Tryd.func8, Tryd.ntmps8
    go_wp2_with fail
    refine (pa _).mono ?_
    rintro e y1 ⟨rfl, b1⟩
    go_wp2_with fail
    go_ret2
    exact ⟨rfl, b1⟩
end Go.Proofs.YtgojcebdlafbeaaDoor.Rt
