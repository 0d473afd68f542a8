/- Tracks: the document's ReadTrack. -/
import Derived.Test.YtbekjlinnbmpgaaKx
import Derived.Test.YtbekjlinnbmpgaaKm4
namespace Go.Proofs.Ytbekjlinnbmpgaa.Kr
set_option linter.unusedVariables false
open Go.RowKit Lib0 Kp Kb Kd Kt Ks Kw Ku Kx Kq Km4
theorem part4_all (s : ByteArray) (k : Nat) (w : World) (hs : s.size ≤ 37) (hk : k ≤ s.size) :
    Calls Try.prog 38 #[.string s, .int .i64 (k : Int), .int .i64 4] w fun e w' => e = .returned (tupV (partR s k 4 (fit4 s k))) ∧ w' = w := by
  cases h : tk eqs s k
  · exact part4_any s k w hs hk h
  · exact part_eq s k 4 _ 4 w hs h
theorem part3_all (s : ByteArray) (k : Nat) (w : World) (hs : s.size ≤ 37) (hk : k ≤ s.size) :
    Calls Try.prog 38 #[.string s, .int .i64 (k : Int), .int .i64 3] w fun e w' => e = .returned (tupV (partR s k 3 (fit3 s k))) ∧ w' = w := by
  cases h : tk eqs s k
  · exact part3_any s k w hs hk h
  · exact part_eq s k 3 _ 3 w hs h
theorem ext_toList (s : ByteArray) (a b : Nat) : (s.extract a b).data.toList = (s.data.toList.drop a).take (b - a) := by
  rw [ByteArray.data_extract, Array.toList_extract, List.extract_eq_take_drop]
theorem um_one {s : ByteArray} {k : Nat} (h : tk eqs s k = true) : um (s.extract k (k + 1)) = ⟨#[]⟩ := by
  have hk := tk_lt h
  rw [tk_in _ _ _ hk, eqs, beq_iff_eq] at h
  have e : s.extract k (k + 1) = ⟨#[61]⟩ := by
    apply ba_eq.1
    rw [ext_toList, show k + 1 - k = 1 by omega, List.drop_eq_getElem_cons (show k < s.data.toList.length from hk)]
    show [s[k]] = [61]
    rw [h]
  rw [um, if_pos e]
theorem um_more {s : ByteArray} {k n : Nat} (hn : 2 ≤ n) (h : k + n ≤ s.size) : um (s.extract k (k + n)) = s.extract k (k + n) := by
  unfold um
  rw [if_neg]
  intro e
  have := congrArg ByteArray.size e
  rw [ByteArray.size_extract] at this
  have e1 : (⟨#[61]⟩ : ByteArray).size = 1 := rfl
  omega
theorem exp_link (s : ByteArray) (p : Nat) :
    (∃ j : Nat, partR s (p + 1) 4 (fit4 s (p + 1)) = (⟨#[]⟩, 0, (j : Int)) ∧ expS s p = .error j) ∨
    (∃ x E, partR s (p + 1) 4 (fit4 s (p + 1)) = (E, ((x : Nat) : Int), -1) ∧ expS s p = svcS s p x ∧ um (s.extract (p + 1) x) = E ∧ p + 1 ≤ x ∧ x ≤ s.size) := by
  unfold partR expS
  cases h0 : tk eqs s (p + 1)
  · have e3 : fit4 s (p + 1) 3 = (tk d0 s (p + 1 + 2) && tk d19 s (p + 1 + 3) || tk d1 s (p + 1 + 2) && tk d02 s (p + 1 + 3)) := rfl
    have e2 : fit4 s (p + 1) 2 = (tk d0 s (p + 1 + 2) || tk d1 s (p + 1 + 2)) := rfl
    have e1 : fit4 s (p + 1) 1 = tk dig s (p + 1 + 1) := rfl
    have e0 : fit4 s (p + 1) 0 = tk dig s (p + 1) := rfl
    have er : List.range 4 = [0, 1, 2, 3] := rfl
    rw [er]
    simp only [List.find?_cons, List.find?_nil, e0, e1, e2, e3]
    rw [show p + 1 + 2 = p + 1 + 1 + 1 by omega, show p + 1 + 3 = p + 1 + 1 + 1 + 1 by omega]
    unfold nineS threeS
    have x01 : tk d0 s (p + 1 + 1 + 1) = true → tk d1 s (p + 1 + 1 + 1) = true → False := by
      intro a b
      unfold tk at a b
      simp only [Bool.and_eq_true, d0, d1, beq_iff_eq] at a b
      rw [a.2] at b
      exact absurd b.2 (by decide)
    cases h1 : tk dig s (p + 1)
    · exact .inl ⟨p + 1, by simp, by simp⟩
    · cases h2 : tk dig s (p + 1 + 1)
      · exact .inl ⟨p + 1 + 1, by simp, by simp⟩
      · cases h3 : tk d0 s (p + 1 + 1 + 1)
        · cases h4 : tk d1 s (p + 1 + 1 + 1)
          · refine .inl ⟨p + 1 + 1 + 1, by simp; omega, by simp⟩
          · cases h5 : tk d02 s (p + 1 + 1 + 1 + 1)
            · refine .inl ⟨p + 1 + 1 + 1 + 1, by simp; omega, by simp⟩
            · have := tk_lt h5
              refine .inr ⟨p + 1 + 4, s.extract (p + 1) (p + 1 + 4), by simp, by simp, um_more (by omega) (by omega), by omega, by omega⟩
        · have h4 : tk d1 s (p + 1 + 1 + 1) = false := by
            cases h4 : tk d1 s (p + 1 + 1 + 1)
            · rfl
            · exact (x01 h3 h4).elim
          cases h5 : tk d19 s (p + 1 + 1 + 1 + 1)
          · refine .inl ⟨p + 1 + 1 + 1 + 1, by simp [h4]; omega, by simp⟩
          · have := tk_lt h5
            refine .inr ⟨p + 1 + 4, s.extract (p + 1) (p + 1 + 4), by simp, by simp, um_more (by omega) (by omega), by omega, by omega⟩
  · have := tk_lt h0
    exact .inr ⟨p + 1 + 1, _, by simp, by simp, um_one h0, by omega, by omega⟩
theorem svc_link (s : ByteArray) (p x : Nat) :
    (∃ j : Nat, partR s x 3 (fit3 s x) = (⟨#[]⟩, 0, (j : Int)) ∧ svcS s p x = .error j) ∨
    (∃ v E, partR s x 3 (fit3 s x) = (E, ((v : Nat) : Int), -1) ∧ svcS s p x = endK s p x v v ∧ um (s.extract x v) = E ∧ x ≤ v ∧ v ≤ s.size) := by
  unfold partR svcS fit3
  have er : List.range 3 = [0, 1, 2] := rfl
  rw [er]
  cases h0 : tk eqs s x
  · simp only [List.find?_cons, List.find?_nil, Nat.add_zero]
    rw [show x + 2 = x + 1 + 1 by omega]
    cases h1 : tk dig s x
    · exact .inl ⟨x, by simp, by simp⟩
    · cases h2 : tk dig s (x + 1)
      · exact .inl ⟨x + 1, by simp, by simp⟩
      · cases h3 : tk dig s (x + 1 + 1)
        · exact .inl ⟨x + 1 + 1, by simp; omega, by simp⟩
        · have := tk_lt h3
          exact .inr ⟨x + 3, s.extract x (x + 3), by simp, by simp, um_more (by omega) (by omega), by omega, by omega⟩
  · have := tk_lt h0
    exact .inr ⟨x + 1, _, by simp, by simp, um_one h0, by omega, by omega⟩
set_option maxRecDepth 100000 in
set_option maxHeartbeats 3200000 in
theorem readr_long (s : ByteArray) (w : World) (hs : (37 : Int) < s.size) :
    Calls Try.prog 32 #[.string s] w fun e w' => e = .returned (rtV s) ∧ Below w.heap.size w w' := by
  have HV : Hid (rtV s = .tuple #[.agg (trkV em em em em), .int .i64 52, .int .i64 37]) := by show _ = _; rw [rtV, rt, if_pos (by omega)]
  rw [HV.out]
  have m0 := h1_0 w (Obj.cells #[.string em, .string em, .string em, .string em] 35)
  go_enter Try.func32, Try.ntmps32
  go_wp2
  exact bodyPost_ret (v := .tuple #[.agg (trkV em em em em), .int .i64 52, .int .i64 37]) (res_row_tmp2 (fn := Try.f32) (p := 2) (u := 3) (u2 := 4) rfl _ _ w.heap.size 35 _ _ _ rfl m0 Try.underlying35 rfl (trk_size _ _ _ _)) rfl ⟨rfl, below_one w _⟩
theorem pan_le (s : ByteArray) : pan s ≤ 19 := by
  have := fuL_le dig (s.data.toList.take 19)
  rw [List.length_take] at this
  unfold pan; omega
theorem pan_le2 (s : ByteArray) : pan s ≤ s.size := by
  have := fuL_le dig (s.data.toList.take 19)
  rw [List.length_take, sz] at this
  unfold pan; omega
theorem drewH {w : World} {g : Nat} {o : Obj} (h : w.heap[g]? = some o) : w.drew.heap[g]? = some o := h
set_option maxRecDepth 100000 in
set_option maxHeartbeats 3200000 in
theorem readr_short (s : ByteArray) (w : World) (hs : s.size ≤ 37) :
    Calls Try.prog 32 #[.string s] w fun e w' => e = .returned (rtV s) ∧ Below w.heap.size w w' := by
  have q1 : ¬ (37 : Int) < s.size := by omega
  have m0 := h1_0 w (Obj.cells #[.string em, .string em, .string em, .string em] 35)
  have b0 := below_one w (Obj.cells #[.string em, .string em, .string em, .string em] 35)
  obtain ⟨r, Hr⟩ : ∃ r, Hid (w.heap.size = r) := ⟨_, rfl⟩
  rw [Hr.out] at m0 b0
  obtain ⟨P, HP, hP19, hPs⟩ : ∃ P, Hid (pan s = P) ∧ P ≤ 19 ∧ P ≤ s.size := ⟨_, rfl, pan_le s, pan_le2 s⟩
  go_enter Try.func32, Try.ntmps32
  go_wp2
  rw [Hr.out]
  change Code.wp _ _ _ _ (w.alloc (Obj.cells #[.string em, .string em, .string em, .string em] 35))
  generalize w.alloc (Obj.cells #[.string em, .string em, .string em, .string em] 35) = W at *
  obtain ⟨⟨c0, c1, c2, c3⟩, ⟨f0, f1, f2, f3⟩⟩ := held4 m0
  rename_i K hK
  have REST : ∀ u16 u17 u18 u19 u20 u21 u22 u23 u24 u25 u26 u27 u28 u29 u30 u31 : Value, K { tmps := #[.string s, undef, .pointer (some ⟨r, 0, none⟩), .int .i64 0, .int .i64 0, .int .i64 (P : Int), undef, undef, undef, undef, undef, undef, .string s, .int .i64 (s.size : Int), .bool false, undef, u16, u17, u18, u19, u20, u21, u22, u23, u24, u25, u26, u27, u28, u29, u30, u31, undef, undef, undef, undef, undef, undef, undef, undef, undef, undef, undef, undef, undef, undef, undef, undef, undef, undef, undef, undef, undef, undef, undef, undef, undef, undef, undef, undef, undef, undef, undef, undef, undef, undef, undef, undef, undef, undef, undef, undef, undef, undef, undef, undef, undef, undef, undef, undef, undef, undef, undef, undef, undef, undef, undef, undef, undef, undef, undef, undef, undef, undef, undef], defers := [] } W := by
    intro u16 u17 u18 u19 u20 u21 u22 u23 u24 u25 u26 u27 u28 u29 u30 u31
    apply hK
    by_cases h0 : P = 0
    · have HT : tr s = .error 0 := by rw [tr, HP.out, if_pos h0]
      subst h0
      have HV : Hid (rtV s = .tuple #[.agg (trkV em em em em), .int .i64 52, .int .i64 (0 : Int)]) := by show _ = _; rw [rtV, rt, if_neg (by omega), HT]; rfl
      go_wp2
      have m2 := set4 m0 (.string em) (.string em) (.string em) (.string em)
      have b2 := below4 b0 (Nat.le_refl r) (.string em) (.string em) (.string em) (.string em)
      exact bodyPost_ret (v := .tuple #[.agg (trkV em em em em), .int .i64 52, .int .i64 (0 : Int)]) (res_row_tmp2 (fn := Try.f32) (p := 2) (u := 3) (u2 := 4) rfl _ _ r 35 _ _ _ rfl m2 Try.underlying35 rfl (trk_size _ _ _ _)) rfl ⟨congrArg Ending.returned HV.out.symm, by rw [Hr.out]; exact b2⟩
    · have q0 : ((P : Int) == 0) = false := by simp; omega
      by_cases hl : P = s.size
      · have HT : tr s = .error P := by rw [tr, HP.out, if_neg h0, tk_end _ _ _ (by omega)]; rfl
        have q2 : (s.size : Int) = (P : Int) := by omega
        have HT' : Hid (rtV s = .tuple #[.agg (trkV em em em em), .int .i64 52, .int .i64 (P : Int)]) := by show _ = _; rw [rtV, rt, if_neg (by omega), HT]; rfl
        clear hl h0 HT
        go_wp2
        have m2 := set4 m0 (.string em) (.string em) (.string em) (.string em)
        have b2 := below4 b0 (Nat.le_refl r) (.string em) (.string em) (.string em) (.string em)
        exact bodyPost_ret (v := .tuple #[.agg (trkV em em em em), .int .i64 52, .int .i64 (P : Int)]) (res_row_tmp2 (fn := Try.f32) (p := 2) (u := 3) (u2 := 4) rfl _ _ r 35 _ _ _ rfl m2 Try.underlying35 rfl (trk_size _ _ _ _)) rfl ⟨congrArg Ending.returned HT'.out.symm, by rw [Hr.out]; exact b2⟩
      · have q2 : ((P : Int) == (s.size : Int)) = false := by simp; omega
        have hlt : P < s.size := by omega
        have hlt' : (P : Int) < s.size := by omega
        cases he : tk eqs s P
        · have HT : tr s = .error P := by rw [tr, HP.out, if_neg h0, he]; rfl
          have q3 : ((s[P].toNat : Int) != 61) = true := by rw [eqs_at hlt] at he; simpa using he
          have HV : Hid (rtV s = .tuple #[.agg (trkV em em em em), .int .i64 52, .int .i64 (P : Int)]) := by show _ = _; rw [rtV, rt, if_neg (by omega), HT]; rfl
          go_wp2
          have m2 := set4 m0 (.string em) (.string em) (.string em) (.string em)
          have b2 := below4 b0 (Nat.le_refl r) (.string em) (.string em) (.string em) (.string em)
          exact bodyPost_ret (v := .tuple #[.agg (trkV em em em em), .int .i64 52, .int .i64 (P : Int)]) (res_row_tmp2 (fn := Try.f32) (p := 2) (u := 3) (u2 := 4) rfl _ _ r 35 _ _ _ rfl m2 Try.underlying35 rfl (trk_size _ _ _ _)) rfl ⟨congrArg Ending.returned HV.out.symm, by rw [Hr.out]; exact b2⟩
        · have HT : Hid (tr s = expS s P) := by show _ = _; rw [tr, HP.out, if_neg h0, if_pos he]
          have q3 : ((s[P].toNat : Int) != 61) = false := by rw [eqs_at hlt] at he; simpa using he
          obtain ⟨P1, HP1, hp1⟩ : ∃ P1 : Nat, Hid (P + 1 = P1) ∧ (P : Int) + 1 = P1 := ⟨P + 1, rfl, by omega⟩
          have pt4 := fun y => part4_all s P1 y hs (by have := HP1.out; omega)
          rcases exp_link s P with ⟨j, hj1, hj2⟩ | ⟨x, E, hx1, hx2, hx3, hx4, hx5⟩
          · rw [HP1.out] at hj1
            rw [hj1] at pt4; simp only [tupV] at pt4
            have HT2 : tr s = .error j := HT.out.trans hj2
            go_wp2_with fail
            refine (pt4 _).mono ?_
            rintro ee y ⟨rfl, rfl⟩
            have qj : (0 : Int) ≤ (j : Int) := by omega
            have HV : Hid (rtV s = .tuple #[.agg (trkV em em em em), .int .i64 52, .int .i64 (j : Int)]) := by show _ = _; rw [rtV, rt, if_neg (by omega), HT2]; rfl
            go_wp2
            have m2 := set4 m0 (.string em) (.string em) (.string em) (.string em)
            have b2 := below4 b0 (Nat.le_refl r) (.string em) (.string em) (.string em) (.string em)
            exact bodyPost_ret (v := .tuple #[.agg (trkV em em em em), .int .i64 52, .int .i64 (j : Int)]) (res_row_tmp2 (fn := Try.f32) (p := 2) (u := 3) (u2 := 4) rfl _ _ r 35 _ _ _ rfl m2 Try.underlying35 rfl (trk_size _ _ _ _)) rfl ⟨congrArg Ending.returned HV.out.symm, by rw [Hr.out]; exact b2⟩
          · rw [HP1.out] at hx1 hx3 hx4
            rw [hx1] at pt4; simp only [tupV] at pt4
            have HT2 : Hid (tr s = svcS s P x) := HT.out.trans hx2
            have HE : Hid (um (s.extract P1 x) = E) := hx3
            clear hx1 hx2 hx3
            have pt3 := fun y => part3_all s x y hs hx5
            go_wp2_with fail
            refine (pt4 _).mono ?_
            rintro ee y ⟨rfl, rfl⟩
            rcases svc_link s P x with ⟨j, hj1, hj2⟩ | ⟨v, S, hv1, hv2, hv3, hv4, hv5⟩
            · rw [hj1] at pt3; simp only [tupV] at pt3
              have HT3 : tr s = .error j := HT2.out.trans hj2
              go_wp2_with fail
              refine (pt3 _).mono ?_
              rintro ee y ⟨rfl, rfl⟩
              have qj : (0 : Int) ≤ (j : Int) := by omega
              have HV : Hid (rtV s = .tuple #[.agg (trkV em em em em), .int .i64 52, .int .i64 (j : Int)]) := by show _ = _; rw [rtV, rt, if_neg (by omega), HT3]; rfl
              go_wp2
              have m2 := set4 m0 (.string em) (.string em) (.string em) (.string em)
              have b2 := below4 b0 (Nat.le_refl r) (.string em) (.string em) (.string em) (.string em)
              exact bodyPost_ret (v := .tuple #[.agg (trkV em em em em), .int .i64 52, .int .i64 (j : Int)]) (res_row_tmp2 (fn := Try.f32) (p := 2) (u := 3) (u2 := 4) rfl _ _ r 35 _ _ _ rfl m2 Try.underlying35 rfl (trk_size _ _ _ _)) rfl ⟨congrArg Ending.returned HV.out.symm, by rw [Hr.out]; exact b2⟩
            · rw [hv1] at pt3; simp only [tupV] at pt3
              have HT3 : Hid (tr s = endK s P x v v) := HT2.out.trans hv2
              have HS : Hid (um (s.extract x v) = S) := hv3
              clear hv1 hv2 hv3
              go_wp2_with fail
              refine (pt3 _).mono ?_
              rintro ee y ⟨rfl, rfl⟩
              go_wp2
              go_loop [10] (fun c => ∃ k : Nat, k ≤ s.size ∧ c = .int .i64 (k : Int) ∧ Hid (tr s = endK s P x v k)) (fun c => 38 - (intOf c).toNat)
              case atStart => exact ⟨v, hv5, rfl, HT3⟩
              case round =>
                obtain ⟨k, hk, rfl, HK⟩ := hrel
                by_cases hks : k < s.size
                · have hks' : (k : Int) < s.size := by omega
                  go_wp2_with fail
                  refine (digit_any s[k] _).mono ?_
                  rintro ee y ⟨rfl, rfl⟩
                  cases hp : dig s[k]
                  · have HT4 : tr s = .error k := by rw [HK.out, endK_stop hk (by rw [tk_dig hks]; exact hp), if_neg (by omega)]
                    have HV : Hid (rtV s = .tuple #[.agg (trkV em em em em), .int .i64 52, .int .i64 (k : Int)]) := by show _ = _; rw [rtV, rt, if_neg (by omega), HT4]; rfl
                    go_wp2
                    have m2 := set4 m0 (.string em) (.string em) (.string em) (.string em)
                    have b2 := below4 b0 (Nat.le_refl r) (.string em) (.string em) (.string em) (.string em)
                    exact bodyPost_ret (v := .tuple #[.agg (trkV em em em em), .int .i64 52, .int .i64 (k : Int)]) (res_row_tmp2 (fn := Try.f32) (p := 2) (u := 3) (u2 := 4) rfl _ _ r 35 _ _ _ rfl m2 Try.underlying35 rfl (trk_size _ _ _ _)) rfl ⟨congrArg Ending.returned HV.out.symm, by rw [Hr.out]; exact b2⟩
                  · have HK2 : Hid (tr s = endK s P x v (k + 1)) := HK.out.trans (endK_step (by rw [tk_dig hks]; exact hp))
                    go_wp2
                    go_round
                    case rel => exact ⟨k + 1, by omega, by go_num, HK2⟩
                    case measure => simp [intOf]; omega
                · have HT4 : tr s = .ok (P, x, v) := by rw [HK.out, endK_stop hk (tk_end _ _ _ (by omega)), if_pos (by omega)]
                  have HV : Hid (rtV s = .tuple #[.agg (trkV (s.extract 0 P) E S (s.extract v s.size)), .int .i64 0, .int .i64 0]) := by show _ = _; rw [rtV, rt, if_neg (by omega), HT4, rtP, HP1.out, HE.out, HS.out]
                  have q4 : (v : Int) ≤ s.size := by omega
                  have q5 : (P : Int) ≤ s.size := by omega
                  have q6 : ¬ (k : Int) < s.size := by omega
                  go_wp2
                  go_region
                  go_wp2
                  have m2 := set4 m0 (.string (s.extract 0 P)) (.string E) (.string S) (.string (s.extract v s.size))
                  have b2 := (below4 b0 (Nat.le_refl r) (.string (s.extract 0 P)) (.string E) (.string S) (.string (s.extract v s.size))).drew
                  exact bodyPost_ret (v := .tuple #[.agg (trkV (s.extract 0 P) E S (s.extract v s.size)), .int .i64 0, .int .i64 0]) (res_row_tmp2 (fn := Try.f32) (p := 2) (u := 3) (u2 := 4) rfl _ _ r 35 _ _ _ rfl (drewH m2) Try.underlying35 rfl (trk_size _ _ _ _)) rfl ⟨congrArg Ending.returned HV.out.symm, by rw [Hr.out]; exact b2⟩
  clear hK
  go_loop [5] (fun c => ∃ k : Nat, k ≤ s.size ∧ k ≤ 19 ∧ c = .int .i64 (k : Int) ∧ Hid ((s.data.toList.take k).all dig = true)) (fun c => 38 - (intOf c).toNat)
  case atStart => exact ⟨0, Nat.zero_le _, Nat.zero_le _, rfl, rfl⟩
  case round =>
    obtain ⟨k, hk, hk19, rfl, Hal⟩ := hrel
    by_cases hks : k < s.size
    · have hks' : (k : Int) < s.size := by omega
      by_cases h19 : (k : Int) < 19
      · go_wp2_with fail
        refine (digit_any s[k] _).mono ?_
        rintro ee y ⟨rfl, rfl⟩
        cases hp : dig s[k]
        · obtain rfl : k = P := by rw [← HP.out]; exact (pan_stop hk hk19 Hal.out (.inr (by rw [tk_dig hks]; exact hp))).symm
          go_wp2
          exact REST _ _ _ _ _ _ _ _ _ _ _ _ _ _ _ _
        · go_wp2
          go_round
          case rel => exact ⟨k + 1, by omega, by omega, by go_num, all_snoc dig s k hks Hal.out hp⟩
          case measure => simp [intOf]; omega
      · obtain rfl : k = P := by rw [← HP.out]; exact (pan_stop hk hk19 Hal.out (.inl (by omega))).symm
        go_wp2
        exact REST _ _ _ _ _ _ _ _ _ _ _ _ _ _ _ _
    · obtain rfl : k = P := by rw [← HP.out]; exact (pan_stop hk hk19 Hal.out (.inr (tk_end _ _ _ (by omega)))).symm
      have hks' : ¬ (k : Int) < s.size := by omega
      go_wp2
      exact REST _ _ _ _ _ _ _ _ _ _ _ _ _ _ _ _
theorem readr_any (s : ByteArray) (w : World) :
    Calls Try.prog 32 #[.string s] w fun e w' => e = .returned (rtV s) ∧ Below w.heap.size w w' := by
  by_cases h : 37 < s.size
  · exact readr_long s w (by omega)
  · exact readr_short s w (by omega)
end Go.Proofs.Ytbekjlinnbmpgaa.Kr
