/- The document's reader: lengths. -/
import Derived.Test.YtgidjfhlooggkaaRn
import Derived.Test.YtgidjfhlooggkaaAg
import Derived.Test.YtgidjfhlooggkaaIj
import Derived.Test.YtgidjfhlooggkaaQl
namespace Go.Proofs.Ytgidjfhlooggkaa.Rz
set_option linter.unusedVariables false
set_option linter.unusedSimpArgs false
open Go.RowKit Kb Ga Gb Gc Gd Nt Gf Gg Nb Rr
/-- how a length comes out -/
def Three (R : Rs) (n : Int) (k K : Nat) (s : ByteArray) : Prop :=
  (R = .ok n K ∧ n ≤ 9999 ∧ (⟨(lnB n).toArray⟩ : ByteArray) = s.extract k K) ∨ (R = .bad 91 (k : Int) ∧ 9999 < n) ∨ (R = .bad 91 (k : Int) ∧ n ≤ 9999 ∧ (⟨(lnB n).toArray⟩ : ByteArray) ≠ s.extract k K)
theorem three_ok {s : ByteArray} {k e K : Nat} {n : Int} (h : lenR s k (e : Int) = .ok n K) (he : e ≤ s.size) : Three (lenR s k (e : Int)) n k K s := by
  have h1 := Ag.len_sl h (by omega)
  have h2 := Np.lenR_ok h
  refine .inl ⟨h, h2.2.2.2.2, Ij.ba_ext ?_⟩
  have := Ag.ext_sl s k (K - k) (by omega)
  rw [show k + (K - k) = K by omega] at this
  rw [this]
  exact h1
theorem three_size {s : ByteArray} {k e K : Nat} {n : Int} (h : lenR s k (e : Int) = .bad 91 (k : Int)) (hK : k ≤ K) (hKs : K ≤ s.size) (hl : n ≤ 9999 → (lnB n).length ≠ K - k) : Three (lenR s k (e : Int)) n k K s := by
  by_cases c : n ≤ 9999
  · refine .inr (.inr ⟨h, c, fun e2 => hl c ?_⟩)
    have h3 := congrArg ByteArray.size e2
    rw [ByteArray.size_extract] at h3
    have h4 : (⟨(lnB n).toArray⟩ : ByteArray).size = (lnB n).length := rfl
    omega
  · exact .inr (.inl ⟨h, by omega⟩)
/-- what was read of a length so far -/
def vJ (s : ByteArray) (k j : Nat) : Int := if j = 0 then 0 else if j = 1 then byt s (k + 1) else 256 * byt s (k + 1) + byt s (k + 2)
set_option maxRecDepth 100000 in
set_option maxHeartbeats 6400000 in
theorem size_doc {w : World} {g k e : Nat} {s : ByteArray} {m : Int} (h : Rk w g s (k : Int) m 0 0 w) (hk : k ≤ e) (he : e ≤ s.size) (hs : s.size ≤ 1048576) :
    Calls Try.prog 70 #[.pointer (some ⟨g, 0, none⟩), .int .i64 (e : Int)] w (PostN w g s m (lenR s k (e : Int))) := by
  obtain ⟨R, HR⟩ : ∃ R, Hid (lenR s k (e : Int) = R) := ⟨_, rfl⟩
  rw [HR.out]
  go_enter Try.func70, Try.ntmps70
  by_cases k0 : k < e
  case neg =>
    have HT : Hid (R = .bad 10 (e : Int)) := by show _ = _; rw [← HR.out]; unfold lenR; rw [if_neg (by omega)]
    have k0' : (e : Int) ≤ (k : Int) := by omega
    obtain ⟨⟨c0, c1, c2, c3, c4⟩, fz⟩ := h.1.at
    go_wp2_with fail
    refine (wrong_doc h.again 10 (e : Int)).mono ?_
    rintro _ y ⟨rfl, hy⟩
    clear c0 c1 c2 c3 c4 fz
    go_wp2
    go_ret
    rw [HT.out]
    exact ⟨rfl, _, hy⟩
  have kx : ¬ (e : Int) ≤ (k : Int) := by omega
  obtain ⟨⟨c0, c1, c2, c3, c4⟩, fz⟩ := h.1.at
  have ix : k < s.size := by omega
  have ix' : ((k : Nat) : Int) < (s.size : Int) := by omega
  obtain ⟨a, Ha⟩ : ∃ a : Int, Hid (a = byt s (k)) := ⟨_, rfl⟩
  have bx : ((s[k]'ix).toNat : Int) = a := by rw [Ha.out]; exact (Rr.byt_get s (k) ix).symm
  have ba : 0 ≤ a ∧ a ≤ 255 := by rw [Ha.out]; exact byt_bd s (k)
  by_cases a8 : a = 128
  case pos =>
    have HT : Hid (R = .bad 91 (k : Int)) := by show _ = _; have ha := Ha.out; rw [← HR.out]; unfold lenR; rw [if_pos (by omega), if_neg (by omega), if_neg (by omega), if_neg (by omega)]
    have a8' : (a == 128) = true := by simpa using a8
    clear a8 c2 c3 c4 fz
    go_wp2_with fail
    refine (wrong_doc h.again 91 (k : Int)).mono ?_
    rintro _ y ⟨rfl, hy⟩
    clear c0 c1
    go_wp2
    go_ret
    rw [HT.out]
    exact ⟨rfl, _, hy⟩
  have a8' : (a == 128) = false := by simpa using a8
  by_cases a9 : 130 < a
  case pos =>
    have HT : Hid (R = .bad 91 (k : Int)) := by show _ = _; have ha := Ha.out; rw [← HR.out]; unfold lenR; rw [if_pos (by omega), if_neg (by omega), if_neg (by omega), if_neg (by omega)]
    clear a8 c2 c3 c4 fz
    go_wp2_with fail
    refine (wrong_doc h.again 91 (k : Int)).mono ?_
    rintro _ y ⟨rfl, hy⟩
    clear c0 c1
    go_wp2
    go_ret
    rw [HT.out]
    exact ⟨rfl, _, hy⟩
  have hX := h.set1 ((k : Int) + 1)
  have f1 := fz 1
  clear c2 c3 c4 fz
  by_cases a7 : a < 128
  case pos =>
    have a7' : ¬ 128 < a := by omega
    obtain ⟨K, HKK⟩ : ∃ K : Nat, Hid (K = k + 1 ∧ k + 1 ≤ s.size) := ⟨_, rfl, by omega⟩
    have hE : lenR s k (e : Int) = .ok a K := by rw [HKK.out.1]; have ha := Ha.out; unfold lenR; rw [if_pos (by omega), if_neg (by omega), if_neg (by omega), if_pos (by omega), ← ha]
    have HD : Hid (Three R a k K s) := by have := three_ok hE he; rw [HR.out] at this; exact this
    have n0 : 0 ≤ a := ba.1
    have n6 : a ≤ 65535 := by omega
    clear hE a8
    go_wp2_with fail
    rw [show (k : Int) + 1 = (K : Int) by have := HKK.out.1; omega] at hX ⊢
    clear c0 c1 f1 h kx ix ix' bx
    generalize w.setCell ⟨g, 1, none⟩ (.int .i64 (K : Int)) = Y at *
    obtain ⟨L, HLL⟩ : ∃ L : ByteArray, Hid ((⟨(lnB a).toArray⟩ : ByteArray) = L) := ⟨_, rfl⟩
    have cl := fun y => Rn.length_doc a y n0 n6
    rw [HLL.out] at cl
    obtain ⟨⟨c0, c1, c2, c3, c4⟩, fz⟩ := hX.1.at
    have hgl : g < Y.heap.size := (Array.getElem?_eq_some_iff.1 hX.1).1
    have sk : (k : Int) ≤ (K : Int) := by have := HKK.out; omega
    have sK : (K : Int) ≤ (s.size : Int) := by have := HKK.out; omega
    clear c2 c3 c4 fz
    rcases HD.out with ⟨eR, n9, hq⟩ | ⟨eR, n9⟩ | ⟨eR, n9, hq⟩
    · have HT : Hid (R = .ok a K) := eR
      have n9' : ¬ 9999 < a := by omega
      rw [HLL.out] at hq
      have hq' : (L.toList == (s.extract k K).toList) = true := by rw [hq]; simp
      clear eR hq HD
      refine Ql.region_cl (by kernel_rfl) (by kernel_rfl) ?_
      repeat (first | go_big_quiet_skip | (go_big_quiet_want; go_big_quiet_op; first | go_big_quiet_on | (refine ⟨_, fun _ _ => rfl, ?_⟩; go_big_quiet_on) | (refine ⟨_, fun _ _ => ⟨rfl, rfl⟩, ?_⟩; go_big_quiet_on)) | (refine wpQuiet_step (fun K hK => ?_); first
        | (refine Ql.q_cell (by rfl) 3 _ rfl g 1 rfl _ c1 hgl (fun y => Try.isAgg3 y) (hK _ ?_); clear hK K; simp only [Act.put, List.setIfInBounds_toArray, List.set_cons_succ, List.set_cons_zero])
        | (refine Ql.q_cell (by rfl) 9 _ rfl g 0 rfl _ c0 hgl (fun y => Try.isAgg9 y) (hK _ ?_); clear hK K; simp only [Act.put, List.setIfInBounds_toArray, List.set_cons_succ, List.set_cons_zero])
        | (go_simp; apply Exists.intro; refine ⟨fun y hy => ?_, hK _ ?_⟩; (first | (go_at_call 71; exact Ql.cl_of hy (cl _))); clear hK K)
        | fail))
      refine wpQuiet_nil ?_
      intro y hy
      have hZ := hX.below hy
      clear c0 c1 cl
      go_wp2
      go_ret
      rw [HT.out]
      exact ⟨rfl, hZ⟩
    · have HT : Hid (R = .bad 91 (k : Int)) := eR
      clear eR HD
      refine Ql.region_cl (by kernel_rfl) (by kernel_rfl) ?_
      repeat (first | go_big_quiet_skip | (go_big_quiet_want; go_big_quiet_op; first | go_big_quiet_on | (refine ⟨_, fun _ _ => rfl, ?_⟩; go_big_quiet_on) | (refine ⟨_, fun _ _ => ⟨rfl, rfl⟩, ?_⟩; go_big_quiet_on)) | (refine wpQuiet_step (fun K hK => ?_); first
        | (refine Ql.q_cell (by rfl) 3 _ rfl g 1 rfl _ c1 hgl (fun y => Try.isAgg3 y) (hK _ ?_); clear hK K; simp only [Act.put, List.setIfInBounds_toArray, List.set_cons_succ, List.set_cons_zero])
        | (refine Ql.q_cell (by rfl) 9 _ rfl g 0 rfl _ c0 hgl (fun y => Try.isAgg9 y) (hK _ ?_); clear hK K; simp only [Act.put, List.setIfInBounds_toArray, List.set_cons_succ, List.set_cons_zero])
        | (go_simp; apply Exists.intro; refine ⟨fun y hy => ?_, hK _ ?_⟩; (first | (go_at_call 71; exact Ql.cl_of hy (cl _))); clear hK K)
        | fail))
      refine wpQuiet_nil ?_
      intro y hy
      have hZ := hX.below hy
      clear c0 c1 cl
      go_wp2_with fail
      refine (Rr.wrong_doc hZ.again 91 (k : Int)).mono ?_
      rintro _ y' ⟨rfl, hy'⟩
      go_wp2
      go_ret
      rw [HT.out]
      exact ⟨rfl, _, hZ.then hy'⟩
    · have HT : Hid (R = .bad 91 (k : Int)) := eR
      have n9' : ¬ 9999 < a := by omega
      rw [HLL.out] at hq
      have hq' : (L.toList == (s.extract k K).toList) = false := by
        simp only [beq_eq_false_iff_ne, ne_eq]
        intro h
        exact hq (ByteArray.ext (by rw [ByteArray.toList_eq, ByteArray.toList_eq] at h; exact Array.toList_inj.1 h))
      clear eR hq HD
      refine Ql.region_cl (by kernel_rfl) (by kernel_rfl) ?_
      repeat (first | go_big_quiet_skip | (go_big_quiet_want; go_big_quiet_op; first | go_big_quiet_on | (refine ⟨_, fun _ _ => rfl, ?_⟩; go_big_quiet_on) | (refine ⟨_, fun _ _ => ⟨rfl, rfl⟩, ?_⟩; go_big_quiet_on)) | (refine wpQuiet_step (fun K hK => ?_); first
        | (refine Ql.q_cell (by rfl) 3 _ rfl g 1 rfl _ c1 hgl (fun y => Try.isAgg3 y) (hK _ ?_); clear hK K; simp only [Act.put, List.setIfInBounds_toArray, List.set_cons_succ, List.set_cons_zero])
        | (refine Ql.q_cell (by rfl) 9 _ rfl g 0 rfl _ c0 hgl (fun y => Try.isAgg9 y) (hK _ ?_); clear hK K; simp only [Act.put, List.setIfInBounds_toArray, List.set_cons_succ, List.set_cons_zero])
        | (go_simp; apply Exists.intro; refine ⟨fun y hy => ?_, hK _ ?_⟩; (first | (go_at_call 71; exact Ql.cl_of hy (cl _))); clear hK K)
        | fail))
      refine wpQuiet_nil ?_
      intro y hy
      have hZ := hX.below hy
      clear c0 c1 cl
      go_wp2_with fail
      refine (Rr.wrong_doc hZ.again 91 (k : Int)).mono ?_
      rintro _ y' ⟨rfl, hy'⟩
      go_wp2
      go_ret
      rw [HT.out]
      exact ⟨rfl, _, hZ.then hy'⟩
  have a9' : a = 129 ∨ a = 130 := by omega
  rcases a9' with rfl | rfl
  · have HC : Hid ((129 : Int) = byt s k) := Ha.out
    by_cases k1 : k + 1 < e
    case neg =>
      have HT : Hid (R = .bad 10 (e : Int)) := by
        show _ = _
        have ha := HC.out
        rw [← HR.out]
        unfold lenR
        rw [if_pos (by omega)]
        repeat' split
        all_goals first | rfl | omega
      have k1' : (e : Int) < (k : Int) + 1 + 129 - 128 := by omega
      have k1'' : (e : Int) < (k : Int) + 2 := by omega
      obtain ⟨⟨d0, d1, d2, d3, d4⟩, dz⟩ := hX.1.at
      clear a7 a8 a9
      go_wp2_with fail
      refine (wrong_doc hX.again 10 (e : Int)).mono ?_
      rintro _ y ⟨rfl, hy⟩
      clear c0 c1 f1 d0 d1 d2 d3 d4 dz
      go_wp2
      go_ret
      rw [HT.out]
      exact ⟨rfl, _, hX.then hy⟩
    have k1' : ¬ (e : Int) < (k : Int) + 1 + 129 - 128 := by omega
    have k1'' : ¬ (e : Int) < (k : Int) + 2 := by omega
    obtain ⟨⟨d0, d1, d2, d3, d4⟩, dz⟩ := hX.1.at
    clear a7 a8 a9 d0 d2 d3 d4 dz
    have HVJ : Hid (∀ j : Nat, vJ s k j = if j = 0 then 0 else if j = 1 then byt s (k + 1) else 256 * byt s (k + 1) + byt s (k + 2)) := fun j => rfl
    go_wp2_with fail
    obtain ⟨P0, HP0⟩ : ∃ P0 : Nat, Hid (P0 = k + 1) := ⟨_, rfl⟩
    rw [show (k : Int) + 1 = (P0 : Int) by have := HP0.out; omega] at hX ⊢
    clear c0 c1 f1 d1 h kx ix ix' bx k1' k1'' HVJ ba Ha
    generalize w.setCell ⟨g, 1, none⟩ (.int .i64 (P0 : Int)) = Y0 at *
    go_loopw [7, 8] (fun vn vj wr => ∃ (j P : Nat), j ≤ 1 ∧ vj = .int .i64 (j : Int) ∧ vn = .int .i64 (vJ s k j) ∧ Hid (P = k + 1 + j) ∧ Rk w g s (P : Int) m 0 0 wr) (fun _ vj _ => 1 - (intOf vj).toNat)
    case atStart => exact ⟨0, P0, Nat.zero_le _, rfl, rfl, HP0.out, hX⟩
    case round =>
      obtain ⟨j, P, hj, rfl, rfl, HP, hl⟩ := hrel
      rename World => wr
      obtain ⟨V, HV⟩ : ∃ V : Int, Hid (vJ s k j = V) := ⟨_, rfl⟩
      have B1 := byt_bd s (k + 1)
      have B2 := byt_bd s (k + 2)
      have hV : 0 ≤ V ∧ V ≤ 65535 := by
        rw [← HV.out]; unfold vJ
        repeat' split
        all_goals omega
      rw [HV.out]
      by_cases hlt : j < 1
      · have hlt' : (j : Int) < 1 := by omega
        obtain ⟨⟨c0, c1, c2, c3, c4⟩, fz⟩ := hl.1.at
        have ix : P < s.size := by have := HP.out; omega
        have ix' : (P : Int) < (s.size : Int) := by omega
        obtain ⟨b, Hb⟩ : ∃ b : Int, Hid (b = byt s P) := ⟨_, rfl⟩
        have bx : ((s[P]'ix).toNat : Int) = b := by rw [Hb.out]; exact (byt_get s P ix).symm
        have bb : 0 ≤ b ∧ b ≤ 255 := by rw [Hb.out]; exact byt_bd s P
        have hV2 : V ≤ 255 := by
          rw [← HV.out]; unfold vJ
          repeat' split
          all_goals omega
        have HV2 : Hid (vJ s k (j + 1) = 256 * V + b) := by
          show _ = _
          have hp := HP.out
          have hb := Hb.out
          have hv := HV.out
          subst hp
          unfold vJ at hv ⊢
          rw [if_neg (by omega)]
          by_cases j0 : j = 0
          · subst j0
            rw [if_pos rfl] at hv
            rw [if_pos rfl, hb, ← hv, Nat.add_zero]
            omega
          · obtain rfl : j = 1 := by omega
            rw [if_neg (by omega), if_pos rfl] at hv
            rw [if_neg (by omega), hb, ← hv]
        clear c2 c3 c4 B1 B2
        go_wp2_with fail
        go_quiet (fail)
        have hl2 := hl.below (below_drewN (Below.refl wr.heap.size wr) nq)
        clear c0 c1 fz bx hl
        generalize wr.drewN nq = y2 at *
        obtain ⟨⟨c0, c1, c2, c3, c4⟩, fz⟩ := hl2.1.at
        have f1 := fz 1
        have hl3 := hl2.set1 ((P : Int) + 1)
        clear c0 c2 c3 c4 fz
        go_wp2
        exact ⟨⟨j + 1, P + 1, by omega, by go_num, by rw [HV2.out], by show _ = _; have := HP.out; omega, by rw [show ((P + 1 : Nat) : Int) = (P : Int) + 1 by omega]; exact hl3⟩, by simp [intOf]; omega⟩
      · have hlt' : ¬ (j : Int) < 1 := by omega
        obtain rfl : j = 1 := by omega
        obtain ⟨K, HKK⟩ : ∃ K : Nat, Hid (K = k + 2 ∧ k + 2 ≤ s.size) := ⟨_, rfl, by omega⟩
        rw [show (P : Int) = (K : Int) by have := HP.out; have := HKK.out.1; omega] at hl
        have HD : Hid (Three R V k K s) := by
          show Three _ _ _ _ _
          have ha := HC.out
          have hv := HV.out
          obtain ⟨hk1, hk2⟩ := HKK.out
          subst hk1
          unfold vJ at hv
          rw [if_neg (by omega), if_pos rfl] at hv
          rw [← HR.out]
          by_cases hq : 127 < V
          · refine three_ok ?_ he
            unfold lenR
            rw [if_pos (by omega), if_pos (by omega), if_pos (by omega), if_neg (by omega), ← hv]
          · refine three_size ?_ (by omega) (by omega) ?_
            · unfold lenR
              rw [if_pos (by omega), if_pos (by omega), if_pos (by omega), if_pos (by omega)]
            · intro h9
              unfold lnB
              repeat' split
              all_goals (simp; try omega)
        have n0 : 0 ≤ V := hV.1
        have n6 : V ≤ 65535 := hV.2
        have hX := hl
        rename World => Y
        clear hl B1 B2
        obtain ⟨L, HLL⟩ : ∃ L : ByteArray, Hid ((⟨(lnB V).toArray⟩ : ByteArray) = L) := ⟨_, rfl⟩
        have cl := fun y => Rn.length_doc V y n0 n6
        rw [HLL.out] at cl
        obtain ⟨⟨c0, c1, c2, c3, c4⟩, fz⟩ := hX.1.at
        have hgl : g < Y.heap.size := (Array.getElem?_eq_some_iff.1 hX.1).1
        have sk : (k : Int) ≤ (K : Int) := by have := HKK.out; omega
        have sK : (K : Int) ≤ (s.size : Int) := by have := HKK.out; omega
        clear c2 c3 c4 fz
        rcases HD.out with ⟨eR, n9, hq⟩ | ⟨eR, n9⟩ | ⟨eR, n9, hq⟩
        · have HT : Hid (R = .ok V K) := eR
          have N9 : Hid (decide (9999 < V) = false) := decide_eq_false (by omega)
          clear n9
          rw [HLL.out] at hq
          have hq' : (L.toList == (s.extract k K).toList) = true := by rw [hq]; simp
          clear eR hq HD
          go_wp2_with fail
          have n9' := N9.out
          refine Ql.region_cl (by kernel_rfl) (by kernel_rfl) ?_
          repeat (first | go_big_quiet_skip | (go_big_quiet_want; go_big_quiet_op; first | go_big_quiet_on | (refine ⟨_, fun _ _ => rfl, ?_⟩; go_big_quiet_on) | (refine ⟨_, fun _ _ => ⟨rfl, rfl⟩, ?_⟩; go_big_quiet_on)) | (refine wpQuiet_step (fun K hK => ?_); first
            | (refine Ql.q_cell (by rfl) 3 _ rfl g 1 rfl _ c1 hgl (fun y => Try.isAgg3 y) (hK _ ?_); clear hK K; simp only [Act.put, List.setIfInBounds_toArray, List.set_cons_succ, List.set_cons_zero])
            | (refine Ql.q_cell (by rfl) 9 _ rfl g 0 rfl _ c0 hgl (fun y => Try.isAgg9 y) (hK _ ?_); clear hK K; simp only [Act.put, List.setIfInBounds_toArray, List.set_cons_succ, List.set_cons_zero])
            | (go_simp; apply Exists.intro; refine ⟨fun y hy => ?_, hK _ ?_⟩; (first | (go_at_call 71; exact Ql.cl_of hy (cl _))); clear hK K)
            | fail))
          refine wpQuiet_nil ?_
          intro y hy
          have hZ := hX.below hy
          clear c0 c1 cl
          go_wp2
          go_ret
          rw [HT.out]
          exact ⟨rfl, hZ⟩
        · have HT : Hid (R = .bad 91 (k : Int)) := eR
          clear eR HD
          go_wp2_with fail
          refine Ql.region_cl (by kernel_rfl) (by kernel_rfl) ?_
          repeat (first | go_big_quiet_skip | (go_big_quiet_want; go_big_quiet_op; first | go_big_quiet_on | (refine ⟨_, fun _ _ => rfl, ?_⟩; go_big_quiet_on) | (refine ⟨_, fun _ _ => ⟨rfl, rfl⟩, ?_⟩; go_big_quiet_on)) | (refine wpQuiet_step (fun K hK => ?_); first
            | (refine Ql.q_cell (by rfl) 3 _ rfl g 1 rfl _ c1 hgl (fun y => Try.isAgg3 y) (hK _ ?_); clear hK K; simp only [Act.put, List.setIfInBounds_toArray, List.set_cons_succ, List.set_cons_zero])
            | (refine Ql.q_cell (by rfl) 9 _ rfl g 0 rfl _ c0 hgl (fun y => Try.isAgg9 y) (hK _ ?_); clear hK K; simp only [Act.put, List.setIfInBounds_toArray, List.set_cons_succ, List.set_cons_zero])
            | (go_simp; apply Exists.intro; refine ⟨fun y hy => ?_, hK _ ?_⟩; (first | (go_at_call 71; exact Ql.cl_of hy (cl _))); clear hK K)
            | fail))
          refine wpQuiet_nil ?_
          intro y hy
          have hZ := hX.below hy
          clear c0 c1 cl
          go_wp2_with fail
          refine (Rr.wrong_doc hZ.again 91 (k : Int)).mono ?_
          rintro _ y' ⟨rfl, hy'⟩
          go_wp2
          go_ret
          rw [HT.out]
          exact ⟨rfl, _, hZ.then hy'⟩
        · have HT : Hid (R = .bad 91 (k : Int)) := eR
          have N9 : Hid (decide (9999 < V) = false) := decide_eq_false (by omega)
          clear n9
          rw [HLL.out] at hq
          have hq' : (L.toList == (s.extract k K).toList) = false := by
            simp only [beq_eq_false_iff_ne, ne_eq]
            intro h
            exact hq (ByteArray.ext (by rw [ByteArray.toList_eq, ByteArray.toList_eq] at h; exact Array.toList_inj.1 h))
          clear eR hq HD
          go_wp2_with fail
          have n9' := N9.out
          refine Ql.region_cl (by kernel_rfl) (by kernel_rfl) ?_
          repeat (first | go_big_quiet_skip | (go_big_quiet_want; go_big_quiet_op; first | go_big_quiet_on | (refine ⟨_, fun _ _ => rfl, ?_⟩; go_big_quiet_on) | (refine ⟨_, fun _ _ => ⟨rfl, rfl⟩, ?_⟩; go_big_quiet_on)) | (refine wpQuiet_step (fun K hK => ?_); first
            | (refine Ql.q_cell (by rfl) 3 _ rfl g 1 rfl _ c1 hgl (fun y => Try.isAgg3 y) (hK _ ?_); clear hK K; simp only [Act.put, List.setIfInBounds_toArray, List.set_cons_succ, List.set_cons_zero])
            | (refine Ql.q_cell (by rfl) 9 _ rfl g 0 rfl _ c0 hgl (fun y => Try.isAgg9 y) (hK _ ?_); clear hK K; simp only [Act.put, List.setIfInBounds_toArray, List.set_cons_succ, List.set_cons_zero])
            | (go_simp; apply Exists.intro; refine ⟨fun y hy => ?_, hK _ ?_⟩; (first | (go_at_call 71; exact Ql.cl_of hy (cl _))); clear hK K)
            | fail))
          refine wpQuiet_nil ?_
          intro y hy
          have hZ := hX.below hy
          clear c0 c1 cl
          go_wp2_with fail
          refine (Rr.wrong_doc hZ.again 91 (k : Int)).mono ?_
          rintro _ y' ⟨rfl, hy'⟩
          go_wp2
          go_ret
          rw [HT.out]
          exact ⟨rfl, _, hZ.then hy'⟩
  · have HC : Hid ((130 : Int) = byt s k) := Ha.out
    by_cases k1 : k + 2 < e
    case neg =>
      have HT : Hid (R = .bad 10 (e : Int)) := by
        show _ = _
        have ha := HC.out
        rw [← HR.out]
        unfold lenR
        rw [if_pos (by omega)]
        repeat' split
        all_goals first | rfl | omega
      have k1' : (e : Int) < (k : Int) + 1 + 130 - 128 := by omega
      have k1'' : (e : Int) < (k : Int) + 3 := by omega
      obtain ⟨⟨d0, d1, d2, d3, d4⟩, dz⟩ := hX.1.at
      clear a7 a8 a9
      go_wp2_with fail
      refine (wrong_doc hX.again 10 (e : Int)).mono ?_
      rintro _ y ⟨rfl, hy⟩
      clear c0 c1 f1 d0 d1 d2 d3 d4 dz
      go_wp2
      go_ret
      rw [HT.out]
      exact ⟨rfl, _, hX.then hy⟩
    have k1' : ¬ (e : Int) < (k : Int) + 1 + 130 - 128 := by omega
    have k1'' : ¬ (e : Int) < (k : Int) + 3 := by omega
    obtain ⟨⟨d0, d1, d2, d3, d4⟩, dz⟩ := hX.1.at
    clear a7 a8 a9 d0 d2 d3 d4 dz
    have HVJ : Hid (∀ j : Nat, vJ s k j = if j = 0 then 0 else if j = 1 then byt s (k + 1) else 256 * byt s (k + 1) + byt s (k + 2)) := fun j => rfl
    go_wp2_with fail
    obtain ⟨P0, HP0⟩ : ∃ P0 : Nat, Hid (P0 = k + 1) := ⟨_, rfl⟩
    rw [show (k : Int) + 1 = (P0 : Int) by have := HP0.out; omega] at hX ⊢
    clear c0 c1 f1 d1 h kx ix ix' bx k1' k1'' HVJ ba Ha
    generalize w.setCell ⟨g, 1, none⟩ (.int .i64 (P0 : Int)) = Y0 at *
    go_loopw [7, 8] (fun vn vj wr => ∃ (j P : Nat), j ≤ 2 ∧ vj = .int .i64 (j : Int) ∧ vn = .int .i64 (vJ s k j) ∧ Hid (P = k + 1 + j) ∧ Rk w g s (P : Int) m 0 0 wr) (fun _ vj _ => 2 - (intOf vj).toNat)
    case atStart => exact ⟨0, P0, Nat.zero_le _, rfl, rfl, HP0.out, hX⟩
    case round =>
      obtain ⟨j, P, hj, rfl, rfl, HP, hl⟩ := hrel
      rename World => wr
      obtain ⟨V, HV⟩ : ∃ V : Int, Hid (vJ s k j = V) := ⟨_, rfl⟩
      have B1 := byt_bd s (k + 1)
      have B2 := byt_bd s (k + 2)
      have hV : 0 ≤ V ∧ V ≤ 65535 := by
        rw [← HV.out]; unfold vJ
        repeat' split
        all_goals omega
      rw [HV.out]
      by_cases hlt : j < 2
      · have hlt' : (j : Int) < 2 := by omega
        obtain ⟨⟨c0, c1, c2, c3, c4⟩, fz⟩ := hl.1.at
        have ix : P < s.size := by have := HP.out; omega
        have ix' : (P : Int) < (s.size : Int) := by omega
        obtain ⟨b, Hb⟩ : ∃ b : Int, Hid (b = byt s P) := ⟨_, rfl⟩
        have bx : ((s[P]'ix).toNat : Int) = b := by rw [Hb.out]; exact (byt_get s P ix).symm
        have bb : 0 ≤ b ∧ b ≤ 255 := by rw [Hb.out]; exact byt_bd s P
        have hV2 : V ≤ 255 := by
          rw [← HV.out]; unfold vJ
          repeat' split
          all_goals omega
        have HV2 : Hid (vJ s k (j + 1) = 256 * V + b) := by
          show _ = _
          have hp := HP.out
          have hb := Hb.out
          have hv := HV.out
          subst hp
          unfold vJ at hv ⊢
          rw [if_neg (by omega)]
          by_cases j0 : j = 0
          · subst j0
            rw [if_pos rfl] at hv
            rw [if_pos rfl, hb, ← hv, Nat.add_zero]
            omega
          · obtain rfl : j = 1 := by omega
            rw [if_neg (by omega), if_pos rfl] at hv
            rw [if_neg (by omega), hb, ← hv]
        clear c2 c3 c4 B1 B2
        go_wp2_with fail
        go_quiet (fail)
        have hl2 := hl.below (below_drewN (Below.refl wr.heap.size wr) nq)
        clear c0 c1 fz bx hl
        generalize wr.drewN nq = y2 at *
        obtain ⟨⟨c0, c1, c2, c3, c4⟩, fz⟩ := hl2.1.at
        have f1 := fz 1
        have hl3 := hl2.set1 ((P : Int) + 1)
        clear c0 c2 c3 c4 fz
        go_wp2
        exact ⟨⟨j + 1, P + 1, by omega, by go_num, by rw [HV2.out], by show _ = _; have := HP.out; omega, by rw [show ((P + 1 : Nat) : Int) = (P : Int) + 1 by omega]; exact hl3⟩, by simp [intOf]; omega⟩
      · have hlt' : ¬ (j : Int) < 2 := by omega
        obtain rfl : j = 2 := by omega
        obtain ⟨K, HKK⟩ : ∃ K : Nat, Hid (K = k + 3 ∧ k + 3 ≤ s.size) := ⟨_, rfl, by omega⟩
        rw [show (P : Int) = (K : Int) by have := HP.out; have := HKK.out.1; omega] at hl
        have HD : Hid (Three R V k K s) := by
          show Three _ _ _ _ _
          have ha := HC.out
          have hv := HV.out
          obtain ⟨hk1, hk2⟩ := HKK.out
          subst hk1
          unfold vJ at hv
          rw [if_neg (by omega), if_neg (by omega)] at hv
          rw [← HR.out]
          by_cases hq : 255 < V ∧ V ≤ 9999
          · refine three_ok ?_ he
            unfold lenR
            rw [if_pos (by omega), if_neg (by omega), if_pos (by omega), if_pos (by omega), if_pos (by omega), if_pos (by omega), ← hv, show byt s (k + 1) * 256 + byt s (k + 2) = 256 * byt s (k + 1) + byt s (k + 2) by omega]
          · refine three_size ?_ (by omega) (by omega) ?_
            · unfold lenR
              rw [if_pos (by omega), if_neg (by omega), if_pos (by omega), if_pos (by omega), if_pos (by omega), if_neg (by omega)]
            · intro h9
              unfold lnB
              repeat' split
              all_goals (simp; try omega)
        have n0 : 0 ≤ V := hV.1
        have n6 : V ≤ 65535 := hV.2
        have hX := hl
        rename World => Y
        clear hl B1 B2
        obtain ⟨L, HLL⟩ : ∃ L : ByteArray, Hid ((⟨(lnB V).toArray⟩ : ByteArray) = L) := ⟨_, rfl⟩
        have cl := fun y => Rn.length_doc V y n0 n6
        rw [HLL.out] at cl
        obtain ⟨⟨c0, c1, c2, c3, c4⟩, fz⟩ := hX.1.at
        have hgl : g < Y.heap.size := (Array.getElem?_eq_some_iff.1 hX.1).1
        have sk : (k : Int) ≤ (K : Int) := by have := HKK.out; omega
        have sK : (K : Int) ≤ (s.size : Int) := by have := HKK.out; omega
        clear c2 c3 c4 fz
        rcases HD.out with ⟨eR, n9, hq⟩ | ⟨eR, n9⟩ | ⟨eR, n9, hq⟩
        · have HT : Hid (R = .ok V K) := eR
          have N9 : Hid (decide (9999 < V) = false) := decide_eq_false (by omega)
          clear n9
          rw [HLL.out] at hq
          have hq' : (L.toList == (s.extract k K).toList) = true := by rw [hq]; simp
          clear eR hq HD
          go_wp2_with fail
          have n9' := N9.out
          refine Ql.region_cl (by kernel_rfl) (by kernel_rfl) ?_
          repeat (first | go_big_quiet_skip | (go_big_quiet_want; go_big_quiet_op; first | go_big_quiet_on | (refine ⟨_, fun _ _ => rfl, ?_⟩; go_big_quiet_on) | (refine ⟨_, fun _ _ => ⟨rfl, rfl⟩, ?_⟩; go_big_quiet_on)) | (refine wpQuiet_step (fun K hK => ?_); first
            | (refine Ql.q_cell (by rfl) 3 _ rfl g 1 rfl _ c1 hgl (fun y => Try.isAgg3 y) (hK _ ?_); clear hK K; simp only [Act.put, List.setIfInBounds_toArray, List.set_cons_succ, List.set_cons_zero])
            | (refine Ql.q_cell (by rfl) 9 _ rfl g 0 rfl _ c0 hgl (fun y => Try.isAgg9 y) (hK _ ?_); clear hK K; simp only [Act.put, List.setIfInBounds_toArray, List.set_cons_succ, List.set_cons_zero])
            | (go_simp; apply Exists.intro; refine ⟨fun y hy => ?_, hK _ ?_⟩; (first | (go_at_call 71; exact Ql.cl_of hy (cl _))); clear hK K)
            | fail))
          refine wpQuiet_nil ?_
          intro y hy
          have hZ := hX.below hy
          clear c0 c1 cl
          go_wp2
          go_ret
          rw [HT.out]
          exact ⟨rfl, hZ⟩
        · have HT : Hid (R = .bad 91 (k : Int)) := eR
          clear eR HD
          go_wp2_with fail
          refine Ql.region_cl (by kernel_rfl) (by kernel_rfl) ?_
          repeat (first | go_big_quiet_skip | (go_big_quiet_want; go_big_quiet_op; first | go_big_quiet_on | (refine ⟨_, fun _ _ => rfl, ?_⟩; go_big_quiet_on) | (refine ⟨_, fun _ _ => ⟨rfl, rfl⟩, ?_⟩; go_big_quiet_on)) | (refine wpQuiet_step (fun K hK => ?_); first
            | (refine Ql.q_cell (by rfl) 3 _ rfl g 1 rfl _ c1 hgl (fun y => Try.isAgg3 y) (hK _ ?_); clear hK K; simp only [Act.put, List.setIfInBounds_toArray, List.set_cons_succ, List.set_cons_zero])
            | (refine Ql.q_cell (by rfl) 9 _ rfl g 0 rfl _ c0 hgl (fun y => Try.isAgg9 y) (hK _ ?_); clear hK K; simp only [Act.put, List.setIfInBounds_toArray, List.set_cons_succ, List.set_cons_zero])
            | (go_simp; apply Exists.intro; refine ⟨fun y hy => ?_, hK _ ?_⟩; (first | (go_at_call 71; exact Ql.cl_of hy (cl _))); clear hK K)
            | fail))
          refine wpQuiet_nil ?_
          intro y hy
          have hZ := hX.below hy
          clear c0 c1 cl
          go_wp2_with fail
          refine (Rr.wrong_doc hZ.again 91 (k : Int)).mono ?_
          rintro _ y' ⟨rfl, hy'⟩
          go_wp2
          go_ret
          rw [HT.out]
          exact ⟨rfl, _, hZ.then hy'⟩
        · have HT : Hid (R = .bad 91 (k : Int)) := eR
          have N9 : Hid (decide (9999 < V) = false) := decide_eq_false (by omega)
          clear n9
          rw [HLL.out] at hq
          have hq' : (L.toList == (s.extract k K).toList) = false := by
            simp only [beq_eq_false_iff_ne, ne_eq]
            intro h
            exact hq (ByteArray.ext (by rw [ByteArray.toList_eq, ByteArray.toList_eq] at h; exact Array.toList_inj.1 h))
          clear eR hq HD
          go_wp2_with fail
          have n9' := N9.out
          refine Ql.region_cl (by kernel_rfl) (by kernel_rfl) ?_
          repeat (first | go_big_quiet_skip | (go_big_quiet_want; go_big_quiet_op; first | go_big_quiet_on | (refine ⟨_, fun _ _ => rfl, ?_⟩; go_big_quiet_on) | (refine ⟨_, fun _ _ => ⟨rfl, rfl⟩, ?_⟩; go_big_quiet_on)) | (refine wpQuiet_step (fun K hK => ?_); first
            | (refine Ql.q_cell (by rfl) 3 _ rfl g 1 rfl _ c1 hgl (fun y => Try.isAgg3 y) (hK _ ?_); clear hK K; simp only [Act.put, List.setIfInBounds_toArray, List.set_cons_succ, List.set_cons_zero])
            | (refine Ql.q_cell (by rfl) 9 _ rfl g 0 rfl _ c0 hgl (fun y => Try.isAgg9 y) (hK _ ?_); clear hK K; simp only [Act.put, List.setIfInBounds_toArray, List.set_cons_succ, List.set_cons_zero])
            | (go_simp; apply Exists.intro; refine ⟨fun y hy => ?_, hK _ ?_⟩; (first | (go_at_call 71; exact Ql.cl_of hy (cl _))); clear hK K)
            | fail))
          refine wpQuiet_nil ?_
          intro y hy
          have hZ := hX.below hy
          clear c0 c1 cl
          go_wp2_with fail
          refine (Rr.wrong_doc hZ.again 91 (k : Int)).mono ?_
          rintro _ y' ⟨rfl, hy'⟩
          go_wp2
          go_ret
          rw [HT.out]
          exact ⟨rfl, _, hZ.then hy'⟩
end Go.Proofs.Ytgidjfhlooggkaa.Rz
