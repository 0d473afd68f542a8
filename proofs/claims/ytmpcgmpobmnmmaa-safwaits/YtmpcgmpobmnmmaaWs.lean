/- SafWaits: its walk. -/
import Derived.Test.YtmpcgmpobmnmmaaSk
import Derived.Test.YtmpcgmpobmnmmaaPick
namespace Go.Proofs.Ytmpcgmpobmnmmaa.Ws
set_option linter.unusedVariables false
set_option linter.unusedSimpArgs false
open Go.RowKit Go.Maps Lib0 Kb Xp Za Zc Zd Ze Sa Sb Sc Sd Se Sf Sg Sh Si Sj Sk Pick
attribute [local go_sem] Oper.semAt_some
def Wt (r t sent : Int) (way : Bool) (ticks : Int) : St := ⟨1, r, t, [oneA 5], sent, way, ticks, [], 0⟩
def We (r t : Int) : St := ⟨1, r, t, [], 0, false, 0, [5], 1⟩
structure Rt (r t : Int) : Prop where
  r0 : 1 ≤ r
  r1 : r ≤ 60
  t0 : 1 ≤ t
  t1 : t ≤ 20
theorem ok_wt {r t s k : Int} {b : Bool} (h : Rt r t) (h0 : 0 ≤ s) (h1 : s ≤ t) (h2 : 0 ≤ k) (h3 : k ≤ r) : Ok (Wt r t s b k) := by
  obtain ⟨a, b, c, d⟩ := h
  constructor <;> simp [Wt] <;> first | omega | exact fo_oneA 5 (by omega)
theorem ok_we {r t : Int} (h : Rt r t) : Ok (We r t) := by
  obtain ⟨a, b, c, d⟩ := h
  constructor <;> simp [We] <;> omega
def mW (s : Int) : ByteArray := if s = 0 then ⟨#[48, 49, 50, 48]⟩ else ⟨#[48, 49, 50, 49]⟩
theorem nx_send {r t s k : Int} {b : Bool} (h1 : s < t) (h2 : ¬ (b = true ∧ k < r)) : nx (Wt r t s b k) = (Wt r t (s + 1) true 0, some (mW s, [(11, dg 5)])) := by
  unfold nx
  rw [nxF_cons (S := Wt r t s b k) (a := oneA 5) (L := []) rfl, if_neg (show ¬ ((Wt r t s b k).way = true ∧ (Wt r t s b k).ticks < (Wt r t s b k).retry) from h2), if_pos (show (Wt r t s b k).sent < (Wt r t s b k).tries from h1)]
  have e1 : mOf (Wt r t s b k) (oneA 5) = mW s := rfl
  have e2 : lOf (Wt r t s b k) (oneA 5) = [(11, dg 5)] := by
    unfold lOf
    split <;> rfl
  rw [e1, e2]
  rfl
theorem nx_wait {r t s k : Int} (h : k < r) : nx (Wt r t s true k) = (Wt r t s true k, none) := by
  unfold nx
  rw [nxF_cons (S := Wt r t s true k) (a := oneA 5) (L := []) rfl, if_pos ⟨rfl, h⟩]
theorem nx_give {r t : Int} : nx (Wt r t t true r) = (We r t, none) := by
  unfold nx
  rw [nxF_cons (S := Wt r t t true r) (a := oneA 5) (L := []) rfl, if_neg (fun h => Int.lt_irrefl _ h.2), if_neg (show ¬ (Wt r t t true r).sent < (Wt r t t true r).tries from Int.lt_irrefl t)]
  exact nxF_nil rfl
theorem tick_lt {r t s k : Int} {b : Bool} (h : k < r) : tickS (Wt r t s b k) = Wt r t s b (k + 1) := by
  show (⟨1, r, t, [oneA 5], s, b, (if k < r then k + 1 else k), [], 0⟩ : St) = _
  rw [if_pos h]; rfl
theorem tick_ge {r t s : Int} {b : Bool} : tickS (Wt r t s b r) = Wt r t s b r := by
  show (⟨1, r, t, [oneA 5], s, b, (if r < r then r + 1 else r), [], 0⟩ : St) = _
  rw [if_neg (Int.lt_irrefl _)]; rfl
/-- how many ticks have gone by where a round begins -/
def tk (r K : Int) : Int := if 0 < K then r else 0
section
variable {y x : World} {g : Nat} {R T : Int}
theorem next_send (h : Rt R T) {K k : Int} {b : Bool} (H : Lw y x g (Wt R T K b k)) (h0 : 0 ≤ K) (h1 : K < T) (h2 : 0 ≤ k) (h3 : k ≤ R) (h4 : ¬ (b = true ∧ k < R)) : Calls Try.prog 22 #[.pointer (some ⟨g, 0, none⟩), .bool true] x fun e w' => ∃ v, e = .returned (.tuple #[.agg #[.string (mW K), v], .bool true]) ∧ PostS x g g (Wt R T (K + 1) true 0) (mW K) [(11, dg 5)] v w' := by
  have hn := next_yes H.sq (ok_wt h h0 (by omega) h2 h3) (by simp [Wt])
  rw [nx_send h1 h4] at hn
  exact hn
theorem next_wait (h : Rt R T) {K k : Int} (H : Lw y x g (Wt R T K true k)) (h0 : 0 ≤ K) (h1 : K ≤ T) (h2 : 0 ≤ k) (h3 : k < R) : Calls Try.prog 22 #[.pointer (some ⟨g, 0, none⟩), .bool true] x fun e w' => e = .returned (.tuple #[.agg #[.string ⟨#[]⟩, .slice none 0 0], .bool false]) ∧ PQ x g g (Wt R T K true k) w' := by
  have hn := next_yes H.sq (ok_wt h h0 h1 h2 (by omega)) (by simp [Wt])
  rw [nx_wait h3] at hn
  exact hn
theorem next_last (h : Rt R T) (H : Lw y x g (Wt R T T true R)) : Calls Try.prog 22 #[.pointer (some ⟨g, 0, none⟩), .bool true] x fun e w' => e = .returned (.tuple #[.agg #[.string ⟨#[]⟩, .slice none 0 0], .bool false]) ∧ PQ x g g (We R T) w' := by
  have hn := next_yes H.sq (ok_wt h (by have := h.t0; omega) (Int.le_refl _) (by have := h.r0; omega) (Int.le_refl _)) (by simp [Wt])
  rw [nx_give] at hn
  exact hn
end
theorem bnd {a : Int} (h : (Lit.int .i64 a).wf = true) : -9223372036854775808 ≤ a ∧ a ≤ 9223372036854775807 := by
  simp [Lit.wf, IntKind.min, IntKind.max, IntKind.signed, IntKind.bits] at h; omega
set_option maxRecDepth 100000 in
set_option maxHeartbeats 6400000 in
theorem walk (a0 a1 a2 : Int) (w : World) (w0 : (Lit.int .i64 a0).wf = true) (w1 : (Lit.int .i64 a1).wf = true) (w2 : (Lit.int .i64 a2).wf = true) :
    Calls Try.prog 5 #[.int .i64 a0, .int .i64 a1, .int .i64 a2] w fun e w' => e = .returned (.bool true) ∧ Below w.heap.size w w' := by
  have i0 : -9223372036854775808 ≤ a0 ∧ a0 ≤ 9223372036854775807 := bnd w0
  have i1 : -9223372036854775808 ≤ a1 ∧ a1 ≤ 9223372036854775807 := bnd w1
  have i2 : -9223372036854775808 ≤ a2 ∧ a2 ≤ 9223372036854775807 := bnd w2
  have P0 : Hid (∀ x, Calls Try.prog 19 #[.int .i64 a0, .int .i64 60] x fun e w' => e = .returned (.int .i64 (pickOf a0 60)) ∧ w' = x) := fun x => pick_any a0 60 x i0.1 i0.2 (by omega) (by omega)
  have P1 : Hid (∀ x, Calls Try.prog 19 #[.int .i64 a1, .int .i64 20] x fun e w' => e = .returned (.int .i64 (pickOf a1 20)) ∧ w' = x) := fun x => pick_any a1 20 x i1.1 i1.2 (by omega) (by omega)
  have P2 : Hid (∀ x, Calls Try.prog 19 #[.int .i64 a2, .int .i64 5] x fun e w' => e = .returned (.int .i64 (pickOf a2 5)) ∧ w' = x) := fun x => pick_any a2 5 x i2.1 i2.2 (by omega) (by omega)
  have l0 := pick_lo a0 60 (by omega)
  have u0 := pick_hi a0 60 (by omega)
  have l1 := pick_lo a1 20 (by omega)
  have u1 := pick_hi a1 20 (by omega)
  have l2 := pick_lo a2 5 (by omega)
  have u2 := pick_hi a2 5 (by omega)
  generalize pickOf a0 60 = p0 at *
  generalize pickOf a1 20 = p1 at *
  generalize pickOf a2 5 = p2 at *
  clear i0 i1 i2 w0 w1 w2
  go_enter Try.func5, Try.ntmps5
  go_wp2_with fail
  refine (examples_any _).mono ?_
  rintro e y ⟨rfl, hb⟩
  have HB : Hid (Below w.heap.size w y) := hb
  clear hb
  go_wp2_with fail
  refine (P0.out _).mono ?_
  rintro e y2 ⟨rfl, hy2⟩
  rw [hy2]
  clear hy2 y2
  go_wp2_with fail
  refine (P1.out _).mono ?_
  rintro e y2 ⟨rfl, hy2⟩
  rw [hy2]
  clear hy2 y2
  obtain ⟨R, hR⟩ : ∃ R, 1 + p0 = R := ⟨_, rfl⟩
  obtain ⟨T, hT⟩ : ∃ T, 1 + p1 = T := ⟨_, rfl⟩
  have hrt : Rt R T := ⟨by omega, by omega, by omega, by omega⟩
  have HRT : Hid (Rt R T) := hrt
  obtain ⟨q1, q2, q3, q4⟩ := hrt
  clear l0 u0 l1 u1 P0 P1
  go_wp2_with fail
  refine (new_any 1 R T _ (by omega) (by omega) (by omega) (by omega) (by omega) (by omega)).mono ?_
  rintro e y1 ⟨rfl, S0, B0⟩
  obtain ⟨g, hg⟩ : ∃ g, y.heap.size = g := ⟨_, rfl⟩
  rw [hg] at S0 B0 ⊢
  have HG : Hid (y.heap.size = g) := hg
  have T0 : Hid (Lw y y1 g (newS 1 R T)) := ⟨S0, B0⟩
  clear S0 B0 hg hR hT
  go_wp2_with fail
  refine (one_any 5 (by omega) _).mono ?_
  rintro e y2 ⟨v1, v2, rfl, hm, hb⟩
  have T1 : Hid (Lw y y2 g (newS 1 R T)) := T0.out.next hb
  have M1 : Hid (Rm y2 (oneA 5) v1 v2) := hm
  clear hm hb T0
  go_wp2_with fail
  refine (put_ok T1.out.sq (ok_new (by omega) (by omega) (by omega) (by omega) (by omega) (by omega)) (by simp [newS]) (oneA 5) _ _ M1.out rfl).mono ?_
  rintro e y3 ⟨rfl, hp⟩
  have T2 : Hid (Lw y y3 g (Wt R T 0 false 0)) := T1.out.step hp
  clear hp T1 M1
  go_wp2_with fail
  go_loopw [13, 14, 15, 16, 17, 18, 19, 20, 21, 22] (fun kv _ _ _ _ _ _ _ _ _ wr => ∃ K : Int, kv = .int .i64 K ∧ 0 ≤ K ∧ K ≤ T ∧ Hid (Lw y wr g (Wt R T K (decide (0 < K)) (tk R K)))) (fun kv _ _ _ _ _ _ _ _ _ _ => (T + 1 - intOf kv).toNat)
  case atStart => exact ⟨0, rfl, by omega, by omega, T2⟩
  case round =>
    obtain ⟨K, rfl, hK0, hK1, TK⟩ := hrel
    clear T2
    by_cases hlt : K < T
    · have htk : 0 ≤ tk R K ∧ tk R K ≤ R := by unfold tk; split <;> omega
      have hno : ¬ (decide (0 < K) = true ∧ tk R K < R) := fun h => by
        have h1 : 0 < K := of_decide_eq_true h.1
        have h2 := h.2
        unfold tk at h2
        rw [if_pos h1] at h2
        omega
      have HTK : Hid (0 ≤ tk R K ∧ tk R K ≤ R) := htk
      have HNO : Hid (¬ (decide (0 < K) = true ∧ tk R K < R)) := hno
      clear htk hno
      go_wp2_with fail
      refine (next_send HRT.out TK.out hK0 hlt HTK.out.1 HTK.out.2 HNO.out).mono ?_
      rintro e x ⟨v8, rfl, hr8, -, hp⟩
      have T3 : Hid (Lw y x g (Wt R T (K + 1) true 0)) := TK.out.step hp
      obtain ⟨o8, c8, e8, -⟩ := own_form hr8
      clear hp hr8 TK HTK HNO
      subst e8
      rw [show [((11 : Int), dg 5)].length = 1 from rfl]
      obtain ⟨mm, hmm⟩ : ∃ mm, mW K = mm := ⟨_, rfl⟩
      have HMM : Hid (mW K = mm) := hmm
      rw [hmm]
      clear hmm
      obtain ⟨z, hz⟩ : ∃ z, Hid (x.alloc (.cells #[.string mm, .slice o8 1 c8] tG) = z) := ⟨_, rfl⟩
      have U3 : Hid (Lw y z g (Wt R T (K + 1) true 0)) := T3.out.next (hz.out ▸ below_one _ _)
      have hcell : (x.alloc (.cells #[.string mm, .slice o8 1 c8] tG)).cell? ⟨x.heap.size, 0, none⟩ = some (.string mm) := (cell_of_row _ _ _ _ _ _ (h1_0 x _)).trans rfl
      clear T3
      by_cases hk : K = 0
      · obtain rfl : mm = ⟨#[48, 49, 50, 48]⟩ := by rw [← HMM.out]; exact if_pos hk
        have hk2 : (K == 0) = true := by simp [hk]
        clear HMM hk
        go_wp2_with fail
        rw [hz.out]
        have q8 : (0 : Int) ≤ 0 := Int.le_refl _
        go_loopw [17, 18, 19] (fun iv _ _ wr => ∃ i : Int, iv = .int .i64 i ∧ 0 ≤ i ∧ i ≤ R ∧ Hid (Lw y wr g (Wt R T (K + 1) true i))) (fun iv _ _ _ => (R + 1 - intOf iv).toNat)
        case atStart => exact ⟨0, rfl, by omega, by omega, U3⟩
        case round =>
          obtain ⟨i, rfl, hi0, hi1, TI⟩ := hrel
          clear U3 hz
          by_cases hir : i < R
          · go_wp2_with fail
            refine (next_wait HRT.out TI.out (by omega) (by omega) hi0 hir).mono ?_
            rintro e x2 ⟨rfl, hp⟩
            have T4 : Hid (Lw y x2 g (Wt R T (K + 1) true i)) := TI.out.step hp
            obtain ⟨z2, hz2⟩ : ∃ z2, Hid (x2.alloc (.cells #[.string ⟨#[]⟩, .slice none 0 0] tG) = z2) := ⟨_, rfl⟩
            have U4 : Hid (Lw y z2 g (Wt R T (K + 1) true i)) := T4.out.next (hz2.out ▸ below_one _ _)
            have HLEN : Hid (Calls Try.prog 11 #[.pointer (some ⟨g, 0, none⟩)] z2 fun e w' => e = .returned (.int .i64 1) ∧ w' = z2) := len_any U4.out.sq
            rw [← hz2.out] at HLEN
            clear hp T4 TI
            go_wp2_with (go_at_call 11; refine HLEN.out.mono ?_; rintro e x ⟨rfl, rfl⟩)
            rw [hz2.out]
            refine (tick_any U4.out.sq (ok_wt HRT.out (by omega) (by omega) hi0 hi1)).mono ?_
            rintro e x3 ⟨rfl, hp⟩
            rw [tick_lt hir] at hp
            have T5 : Hid (Lw y x3 g (Wt R T (K + 1) true (i + 1))) := U4.out.step hp
            clear hp U4 HLEN hz2
            go_wp2_with fail
            exact ⟨⟨i + 1, rfl, by omega, by omega, T5⟩, by simp only [intOf]; omega⟩
          · obtain rfl : i = R := by omega
            clear hir hi1
            go_wp2_with fail
            go_loopw [20, 21, 22] (fun jv _ _ wr => ∃ j : Int, jv = .int .i64 j ∧ 0 ≤ j ∧ j ≤ 5 ∧ Hid (Lw y wr g (Wt i T (K + 1) true i))) (fun jv _ _ _ => (6 - intOf jv).toNat)
            case atStart => exact ⟨0, rfl, by omega, by omega, TI⟩
            case round =>
              obtain ⟨j, rfl, hj0, hj1, TJ⟩ := hrel
              clear TI
              by_cases hjp : j < p2
              · go_wp2_with fail
                refine (P2.out _).mono ?_
                rintro e x4 ⟨rfl, hx4⟩
                rw [hx4]
                clear hx4 x4
                go_wp2_with fail
                refine (next_no TJ.out.sq).mono ?_
                rintro e x5 ⟨rfl, hp⟩
                have T6 : Hid (Lw y x5 g (Wt i T (K + 1) true i)) := TJ.out.step hp
                obtain ⟨z5, hz5⟩ : ∃ z5, Hid (x5.alloc (.cells #[.string ⟨#[]⟩, .slice none 0 0] tG) = z5) := ⟨_, rfl⟩
                have U5 : Hid (Lw y z5 g (Wt i T (K + 1) true i)) := T6.out.next (hz5.out ▸ below_one _ _)
                clear hp T6 TJ
                go_wp2_with fail
                rw [hz5.out]
                refine (tick_any U5.out.sq (ok_wt HRT.out (by omega) (by omega) (by omega) (by omega))).mono ?_
                rintro e x6 ⟨rfl, hp⟩
                rw [tick_ge] at hp
                have T7 : Hid (Lw y x6 g (Wt i T (K + 1) true i)) := U5.out.step hp
                clear hp U5 hz5
                go_wp2_with fail
                exact ⟨⟨j + 1, rfl, by omega, by omega, T7⟩, by simp only [intOf]; omega⟩
              · go_wp2_with fail
                refine (P2.out _).mono ?_
                rintro e x4 ⟨rfl, hx4⟩
                rw [hx4]
                clear hx4 x4
                go_wp2_with fail
                refine ⟨⟨K + 1, rfl, by omega, by omega, ?_⟩, by simp only [intOf]; omega⟩
                have e1 : decide (0 < K + 1) = true := decide_eq_true (by omega)
                have e2 : tk i (K + 1) = i := if_pos (by omega)
                rw [e1, e2]
                exact TJ
      · obtain rfl : mm = ⟨#[48, 49, 50, 49]⟩ := by rw [← HMM.out]; exact if_neg hk
        have hk2 : (K == 0) = false := by simp [hk]
        clear HMM hk
        go_wp2_with fail
        rw [hz.out]
        have q8 : (0 : Int) ≤ 0 := Int.le_refl _
        go_loopw [17, 18, 19] (fun iv _ _ wr => ∃ i : Int, iv = .int .i64 i ∧ 0 ≤ i ∧ i ≤ R ∧ Hid (Lw y wr g (Wt R T (K + 1) true i))) (fun iv _ _ _ => (R + 1 - intOf iv).toNat)
        case atStart => exact ⟨0, rfl, by omega, by omega, U3⟩
        case round =>
          obtain ⟨i, rfl, hi0, hi1, TI⟩ := hrel
          clear U3 hz
          by_cases hir : i < R
          · go_wp2_with fail
            refine (next_wait HRT.out TI.out (by omega) (by omega) hi0 hir).mono ?_
            rintro e x2 ⟨rfl, hp⟩
            have T4 : Hid (Lw y x2 g (Wt R T (K + 1) true i)) := TI.out.step hp
            obtain ⟨z2, hz2⟩ : ∃ z2, Hid (x2.alloc (.cells #[.string ⟨#[]⟩, .slice none 0 0] tG) = z2) := ⟨_, rfl⟩
            have U4 : Hid (Lw y z2 g (Wt R T (K + 1) true i)) := T4.out.next (hz2.out ▸ below_one _ _)
            have HLEN : Hid (Calls Try.prog 11 #[.pointer (some ⟨g, 0, none⟩)] z2 fun e w' => e = .returned (.int .i64 1) ∧ w' = z2) := len_any U4.out.sq
            rw [← hz2.out] at HLEN
            clear hp T4 TI
            go_wp2_with (go_at_call 11; refine HLEN.out.mono ?_; rintro e x ⟨rfl, rfl⟩)
            rw [hz2.out]
            refine (tick_any U4.out.sq (ok_wt HRT.out (by omega) (by omega) hi0 hi1)).mono ?_
            rintro e x3 ⟨rfl, hp⟩
            rw [tick_lt hir] at hp
            have T5 : Hid (Lw y x3 g (Wt R T (K + 1) true (i + 1))) := U4.out.step hp
            clear hp U4 HLEN hz2
            go_wp2_with fail
            exact ⟨⟨i + 1, rfl, by omega, by omega, T5⟩, by simp only [intOf]; omega⟩
          · obtain rfl : i = R := by omega
            clear hir hi1
            go_wp2_with fail
            go_loopw [20, 21, 22] (fun jv _ _ wr => ∃ j : Int, jv = .int .i64 j ∧ 0 ≤ j ∧ j ≤ 5 ∧ Hid (Lw y wr g (Wt i T (K + 1) true i))) (fun jv _ _ _ => (6 - intOf jv).toNat)
            case atStart => exact ⟨0, rfl, by omega, by omega, TI⟩
            case round =>
              obtain ⟨j, rfl, hj0, hj1, TJ⟩ := hrel
              clear TI
              by_cases hjp : j < p2
              · go_wp2_with fail
                refine (P2.out _).mono ?_
                rintro e x4 ⟨rfl, hx4⟩
                rw [hx4]
                clear hx4 x4
                go_wp2_with fail
                refine (next_no TJ.out.sq).mono ?_
                rintro e x5 ⟨rfl, hp⟩
                have T6 : Hid (Lw y x5 g (Wt i T (K + 1) true i)) := TJ.out.step hp
                obtain ⟨z5, hz5⟩ : ∃ z5, Hid (x5.alloc (.cells #[.string ⟨#[]⟩, .slice none 0 0] tG) = z5) := ⟨_, rfl⟩
                have U5 : Hid (Lw y z5 g (Wt i T (K + 1) true i)) := T6.out.next (hz5.out ▸ below_one _ _)
                clear hp T6 TJ
                go_wp2_with fail
                rw [hz5.out]
                refine (tick_any U5.out.sq (ok_wt HRT.out (by omega) (by omega) (by omega) (by omega))).mono ?_
                rintro e x6 ⟨rfl, hp⟩
                rw [tick_ge] at hp
                have T7 : Hid (Lw y x6 g (Wt i T (K + 1) true i)) := U5.out.step hp
                clear hp U5 hz5
                go_wp2_with fail
                exact ⟨⟨j + 1, rfl, by omega, by omega, T7⟩, by simp only [intOf]; omega⟩
              · go_wp2_with fail
                refine (P2.out _).mono ?_
                rintro e x4 ⟨rfl, hx4⟩
                rw [hx4]
                clear hx4 x4
                go_wp2_with fail
                refine ⟨⟨K + 1, rfl, by omega, by omega, ?_⟩, by simp only [intOf]; omega⟩
                have e1 : decide (0 < K + 1) = true := decide_eq_true (by omega)
                have e2 : tk i (K + 1) = i := if_pos (by omega)
                rw [e1, e2]
                exact TJ
    · obtain rfl : K = T := by omega
      have e1 : decide (0 < K) = true := decide_eq_true (by omega)
      have e2 : tk R K = R := if_pos (by omega)
      rw [e1, e2] at TK
      clear hlt hK1 e1 e2
      go_wp2_with fail
      refine (next_last HRT.out TK.out).mono ?_
      rintro e x ⟨rfl, hp⟩
      have T3 : Hid (Lw y x g (We R K)) := TK.out.step hp
      obtain ⟨z, hz⟩ : ∃ z, Hid (x.alloc (.cells #[.string ⟨#[]⟩, .slice none 0 0] tG) = z) := ⟨_, rfl⟩
      have U3 : Hid (Lw y z g (We R K)) := T3.out.next (hz.out ▸ below_one _ _)
      clear hp T3 TK
      go_wp2_with fail
      rw [hz.out]
      refine (gone_any U3.out.sq).mono ?_
      rintro e x2 ⟨vg, rfl, hr, hp⟩
      have T4 : Hid (Lw y x2 g (goneS (We R K))) := U3.out.step hp
      clear hp U3 hz
      have HR : Hid (x2.ownsRow g tI 1 vg 1 [iv 5]) := hr
      rcases hr.2 with ⟨-, h0⟩ | ⟨rb, cap, cur, rfl, hrest⟩
      · simp [We] at h0
      have hcell : x2.cell? ⟨rb, 0, none⟩ = some (.int .i64 5) := HR.out.cells (g := rb) rfl 0 (iv 5) rfl
      rw [show (We R K).gone.length = 1 from rfl]
      clear hr hrest HR
      have HLEN : Hid (Calls Try.prog 11 #[.pointer (some ⟨g, 0, none⟩)] x2 fun e w' => e = .returned (.int .i64 0) ∧ w' = x2) := len_any T4.out.sq
      have HDEAD : Hid (Calls Try.prog 13 #[.pointer (some ⟨g, 0, none⟩)] x2 fun e w' => e = .returned (.int .i64 1) ∧ w' = x2) := dead_any T4.out.sq
      have HGONE : Hid (Calls Try.prog 23 #[.pointer (some ⟨g, 0, none⟩)] x2 fun e w' => ∃ o c, e = .returned (.slice o 0 c) ∧ Hid (Lw y w' g (goneS (goneS (We R K))))) := (gone_any T4.out.sq).mono fun e x3 h => by
        obtain ⟨vg, rfl, h1, h2⟩ := h
        obtain ⟨o, c, e1, -⟩ := own_form h1
        exact ⟨o, c, by rw [e1]; rfl, T4.out.step h2⟩
      go_wp2_with (first | (go_at_call 11; refine HLEN.out.mono ?_; rintro e x ⟨rfl, rfl⟩) | (go_at_call 13; refine HDEAD.out.mono ?_; rintro e x ⟨rfl, rfl⟩) | (go_at_call 23; refine HGONE.out.mono ?_; rintro e x ⟨o9, c9, rfl, T9⟩))
      go_ret
      refine ⟨rfl, keepB HB.out ?_⟩
      rw [HG.out]
      exact T9.out.bel
end Go.Proofs.Ytmpcgmpobmnmmaa.Ws
