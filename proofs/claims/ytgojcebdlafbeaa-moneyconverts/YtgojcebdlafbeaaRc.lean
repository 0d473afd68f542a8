/- The document's Convert. -/
import Derived.Test.YtgojcebdlafbeaaRr
namespace Go.Proofs.Ytgojcebdlafbeaa.Rc
set_option linter.unusedVariables false
open Go.RowKit Kb Cp Pp Pc Mp Cv Ms Cw Cr Cx Pr Rr
theorem rater_any (s : ByteArray) (w : World) : Calls Try.prog 30 #[.string s] w fun e w' => ∃ u v : Int, e = .returned (.tuple #[.int .i64 u, .int .i64 v, .bool (rtB s.data.toList)]) ∧ (rtB s.data.toList = true → u = rtP s.data.toList ∧ v = rtN s.data.toList) ∧ w' = w := by
  by_cases h8 : s.size = 8
  · exact rater_8 s h8 w
  · refine (rater_len s h8 w).mono ?_
    rintro e x ⟨rfl, hb⟩
    have e := rtB_no8 (l := s.data.toList) (by rw [show s.data.toList.length = s.size by simp]; exact h8)
    exact ⟨0, 0, by rw [e], (fun h => by rw [e] at h; cases h), hb⟩
theorem nr_one (n : Nat) : nr n (p10 0) = n := by
  have : n % 1 = 0 := Nat.mod_one n
  simp [nr, p10, this]
/-- what the document's loops make of n0 and K -/
theorem mv_neg (n : Nat) (m : Nat) : mv n (-(m : Int)) = nr n (p10 m) ∨ (n = mv n (-(m : Int)) ∧ nr n (p10 m) = n) := by
  by_cases h : m = 0
  · subst h; right; rw [nr_one]; simp [mv, p10]
  · left; rw [mv, if_pos (by omega), Int.neg_neg, Int.toNat_natCast]
theorem mv_neg' (n : Nat) (m : Nat) : nr n (p10 m) = mv n (-(m : Int)) := by
  rcases mv_neg n m with h | ⟨h1, h2⟩
  · exact h.symm
  · rw [h2]; exact h1
theorem mv_up (n m : Nat) (h : n ≤ 999999999999) : mv n (m : Int) = n * p10 m := by
  rw [mv, if_neg (by omega), if_neg (by omega), Int.toNat_natCast]
theorem mv_over (n m i : Nat) (hi : i ≤ m) (h : 999999999999 < n * p10 i) : 999999999999 < mv n (m : Int) := by
  rw [mv, if_neg (by omega)]
  split
  · assumption
  · rw [Int.toNat_natCast]
    have : p10 i ≤ p10 m := Nat.pow_le_pow_right (by decide) hi
    have := Nat.mul_le_mul_left n this
    omega
set_option maxRecDepth 100000 in
set_option maxHeartbeats 1600000 in
theorem convertr_ok (u : Int) (a b r : ByteArray) (hA : isA u = true) (hR : rtB r.data.toList = true) (ea : plE a.data.toList = 0) (eb : plE b.data.toList = 0) (w : World) :
    Calls Try.prog 13 #[.int .i64 u, .string a, .string b, .string r] w fun e w' => e = .returned (.tuple #[.int .i64 (cvV u a.data.toList b.data.toList r.data.toList), .int .i64 (cvE u a.data.toList b.data.toList r.data.toList)]) ∧ Below w.heap.size w w' := by
  have pa := fun w => placesr_any a w
  have pb := fun w => placesr_any b w
  have pr := fun w => rater_any r w
  have pi := fun w => amount_any u w
  have rk := rt_ok hR
  have hu := (isA_iff u).1 hA
  have va := plV_bounds a.data.toList
  have vb := plV_bounds b.data.toList
  have hpr : u.toNat * rtN r.data.toList < 10000000000000000000 := by
    have := Nat.mul_le_mul (show u.toNat ≤ 999999999999 by omega) (show rtN r.data.toList ≤ 9999999 by omega)
    omega
  have HE1 : Hid (cvM u a.data.toList b.data.toList r.data.toList ≤ 999999999999 → cvE u a.data.toList b.data.toList r.data.toList = 0 ∧ cvV u a.data.toList b.data.toList r.data.toList = cvM u a.data.toList b.data.toList r.data.toList) := fun h => by simp [cvE, cvV, ea, eb, hA, hR, h]
  have HE2 : Hid (¬ cvM u a.data.toList b.data.toList r.data.toList ≤ 999999999999 → cvE u a.data.toList b.data.toList r.data.toList = 13 ∧ cvV u a.data.toList b.data.toList r.data.toList = 0) := fun h => by simp [cvE, cvV, ea, eb, hA, hR, h]
  have HM : Hid (cvM u a.data.toList b.data.toList r.data.toList = mv (u.toNat * rtN r.data.toList) (plV b.data.toList - plV a.data.toList - (rtP r.data.toList : Int))) := rfl
  generalize cvE u a.data.toList b.data.toList r.data.toList = E at *
  generalize cvV u a.data.toList b.data.toList r.data.toList = V at *
  generalize cvM u a.data.toList b.data.toList r.data.toList = M at *
  rw [ea] at pa
  rw [eb] at pb
  rw [hA] at pi
  rw [hR] at pr
  generalize plV a.data.toList = pA at *
  generalize plV b.data.toList = pB at *
  generalize rtP r.data.toList = rP at *
  generalize hrN : rtN r.data.toList = rN at *
  obtain ⟨n0, hn0⟩ : ∃ n0, n0 = u.toNat * rN := ⟨_, rfl⟩
  rw [← hn0] at HM hpr
  have w1 : IntKind.u64.wrap (u * (rN : Int)) = (n0 : Int) := by
    have e : u * (rN : Int) = (n0 : Int) := by
      rw [hn0, Int.natCast_mul, Int.toNat_of_nonneg hu.1]
    rw [e, wrap_u64 _ (by omega) (by omega)]
  have HN : Hid (n0 < 10000000000000000000) := hpr
  have wr1 : IntKind.u64.wrap (rN : Int) = (rN : Int) := wrap_u64 _ (by omega) (by omega)
  have i1 := va.1
  have i2 := va.2
  have i3 := vb.1
  have i4 := vb.2
  have i5 : u ≤ 999999999999 := hu.2
  have i6 : (rP : Int) ≤ 7 := by omega
  have i0 : 0 ≤ u := hu.1
  clear ea eb hA hR rk hu va vb hpr hn0 hrN
  go_enter Try.func13, Try.ntmps13
  go_wp2_with fail
  refine (pa _).mono ?_
  rintro e y1 ⟨rfl, b1⟩
  go_wp2_with fail
  refine (pb _).mono ?_
  rintro e y2 ⟨rfl, b2⟩
  have B2 := keepB b1 b2
  go_wp2_with fail
  refine (pi _).mono ?_
  rintro e y3 ⟨rfl, b3⟩
  have B3 := keepB B2 (same b3)
  clear b3
  go_wp2_with fail
  refine (pr _).mono ?_
  rintro e y4 ⟨p, v, rfl, hpv, b4⟩
  obtain ⟨rfl, rfl⟩ := hpv (by first | rfl | trivial)
  have B4 := keepB B3 (same b4)
  clear hpv b4 B3 B2 pa pb pr pi
  go_wp2_with fail
  have K1 : -10 ≤ pB - pA - (rP : Int) := by omega
  have K2 : pB - pA - (rP : Int) ≤ 3 := by omega
  generalize pB - pA - (rP : Int) = K at *
  have HX0 : (0 : Int) ≤ (n0 : Int) := Int.natCast_nonneg _
  clear w1 wr1 i1 i2 i3 i4 i5 i6 i0 b1 b2
  go_loop [18, 19] (fun vv uu => ∃ (i : Nat) (X U : Int), vv = .int .u64 X ∧ uu = .int .i64 U ∧ Hid (X = (n0 * p10 i : Nat) ∧ U = K - i ∧ ((i : Int) ≤ K ∨ i = 0) ∧ (i = 0 ∨ n0 ≤ 999999999999) ∧ (i = 0 ∨ X ≤ 9999999999990))) (fun _ uu => (intOf uu).toNat)
  case atStart => exact ⟨0, (n0 : Int), K, rfl, rfl, by simp [p10], by simp, Or.inr rfl, Or.inl rfl, Or.inl rfl⟩
  case round =>
    obtain ⟨i, X, U, rfl, rfl, HR⟩ := hrel
    have X0 : 0 ≤ X := by rw [HR.out.1]; exact Int.natCast_nonneg _
    have X1 : X < 10000000000000000000 := by
      rcases HR.out.2.2.2.2 with h | h
      · have e := HR.out.1
        rw [h] at e
        have := HN.out
        simp [p10] at e; omega
      · omega
    have U1 : U ≤ 3 := by have := HR.out.2.1; omega
    have U0 : -10 ≤ U := by
      have := HR.out
      omega
    by_cases hU : 0 < U
    · by_cases hX : X ≤ 999999999999
      · have HR2 : Hid (10 * X = (n0 * p10 (i + 1) : Nat) ∧ U - 1 = K - ((i + 1 : Nat) : Int) ∧ (((i + 1 : Nat) : Int) ≤ K ∨ i + 1 = 0) ∧ (i + 1 = 0 ∨ n0 ≤ 999999999999) ∧ (i + 1 = 0 ∨ 10 * X ≤ 9999999999990)) := by
          obtain ⟨h1, h2, h3, h4, h5⟩ := HR.out
          refine ⟨?_, by omega, Or.inl (by omega), Or.inr ?_, Or.inr (by omega)⟩
          · rw [h1, p10_succ, ← Nat.mul_assoc]; omega
          · rcases h4 with h | h
            · rw [h] at h1; simp [p10] at h1; omega
            · exact h
        go_wp2
        go_round
        case rel => exact ⟨i + 1, 10 * X, U - 1, by go_num, by go_num, HR2⟩
        case measure => simp [intOf]; omega
      · have hX2 : 999999999999 < X := by omega
        have HF : Hid (E = 13 ∧ V = 0) := by
          refine HE2.out ?_
          obtain ⟨h1, h2, h3, h4, h5⟩ := HR.out
          obtain ⟨m, hm⟩ : ∃ m : Nat, K = (m : Int) := ⟨K.toNat, by omega⟩
          have := mv_over n0 m i (by omega) (by omega)
          rw [HM.out, hm]; omega
        go_wp2
        go_ret2
        exact ⟨by rw [HF.out.1, HF.out.2]; rfl, B4⟩
    · have hU2 : U ≤ 0 := by omega
      obtain ⟨m, hm⟩ : ∃ m : Nat, U = -(m : Int) := ⟨(-U).toNat, by omega⟩
      have HQ : Hid (M = nr X.toNat (p10 m)) := by
        show _ = _
        obtain ⟨h1, h2, h3, h4, h5⟩ := HR.out
        rw [HM.out]
        by_cases hi : i = 0
        · rw [hi] at h1 h2
          have e1 : X.toNat = n0 := by simp [p10] at h1; omega
          rw [e1, mv_neg', show K = -(m : Int) by omega]
        · obtain rfl : m = 0 := by omega
          have e1 : X.toNat = n0 * p10 i := by omega
          rw [e1, nr_one, show K = (i : Int) by omega, mv_up n0 i (by omega)]
      have hm10 : m ≤ 10 := by omega
      have Hm : Hid (m ≤ 10) := hm10
      have HUm : Hid (U = -(m : Int)) := hm
      clear HR hm hm10
      go_wp2_with fail
      go_loop [19, 20] (fun uu dd => ∃ (j : Nat) (U2 D : Int), uu = .int .i64 U2 ∧ dd = .int .u64 D ∧ Hid (D = (p10 j : Int) ∧ U2 = U + j ∧ j ≤ m)) (fun uu _ => (-(intOf uu)).toNat)
      case atStart => exact ⟨0, U, 1, rfl, rfl, by simp [p10], by simp, Nat.zero_le _⟩
      case round =>
        obtain ⟨j, U2, D, rfl, rfl, HR⟩ := hrel
        obtain ⟨D1, D2⟩ : 1 ≤ D ∧ D ≤ 10000000000 := by
          obtain ⟨h1, h2, h3⟩ := HR.out
          have e1 := p10_pos j
          have e2 : (10 : Nat) ^ j ≤ 10 ^ 10 := Nat.pow_le_pow_right (by decide) (by have := Hm.out; omega)
          rw [show (10 : Nat) ^ j = p10 j from rfl] at e2
          omega
        have U21 : U2 ≤ 0 := by have := HR.out; have := HUm.out; omega
        have U22 : -10 ≤ U2 := by have := HR.out; omega
        by_cases hU3 : U2 < 0
        · have HR2 : Hid (10 * D = (p10 (j + 1) : Int) ∧ U2 + 1 = U + ((j + 1 : Nat) : Int) ∧ j + 1 ≤ m) := by
            obtain ⟨h1, h2, h3⟩ := HR.out
            have := HUm.out
            refine ⟨?_, by omega, by omega⟩
            rw [h1, p10_succ]; omega
          go_wp2
          go_round
          case rel => exact ⟨j + 1, U2 + 1, 10 * D, by go_num, by go_num, HR2⟩
          case measure => simp [intOf]; omega
        · obtain rfl : U2 = 0 := by omega
          have HD : Hid (D = (p10 m : Int)) := by
            show _ = _
            obtain ⟨h1, h2, h3⟩ := HR.out
            have := HUm.out
            rw [h1, show j = m by omega]
          have z2 : ¬ D = 0 := by omega
          obtain ⟨q, hq⟩ : ∃ q, X.tdiv D = q := ⟨_, rfl⟩
          obtain ⟨r0, hr⟩ : ∃ r0, X.tmod D = r0 := ⟨_, rfl⟩
          have q0 : 0 ≤ q := by rw [← hq]; exact Int.tdiv_nonneg X0 (by omega)
          have q1 : q < 10000000000000000000 := by
            have := Int.tdiv_le_self D X0
            omega
          have r1 : 0 ≤ r0 := by rw [← hr]; exact Int.tmod_nonneg _ X0
          have r2 : r0 < 10000000000 := by have := Int.tmod_lt_of_pos X (show 0 < D by omega); omega
          have HMM : Hid ((M : Int) = if D < r0 * 2 ∨ r0 * 2 = D ∧ q % 2 = 1 then q + 1 else q) := by
            show _ = _
            rw [HQ.out]
            have e1 : ((X.toNat / p10 m : Nat) : Int) = q := by
              rw [← hq, Int.tdiv_eq_ediv_of_nonneg X0, Int.natCast_ediv, Int.toNat_of_nonneg X0, HD.out]
            have e2 : ((X.toNat % p10 m : Nat) : Int) = r0 := by
              rw [← hr, Int.tmod_eq_emod_of_nonneg X0, Int.natCast_emod, Int.toNat_of_nonneg X0, HD.out]
            have e3 := HD.out
            rw [nr]
            by_cases h : X.toNat % p10 m * 2 > p10 m ∨ X.toNat % p10 m * 2 = p10 m ∧ X.toNat / p10 m % 2 = 1
            · rw [if_pos h, if_pos (by omega)]; omega
            · rw [if_neg h, if_neg (by omega)]; omega
          clear HR HQ HUm Hm hU HN X0 X1 U0 U1 hU2 K1 K2 HX0
          have HP : Hid ((D < 2 * r0 ∨ 2 * r0 = D ∧ q % 2 = 1) → (M : Int) = q + 1) := fun h => by rw [HMM.out, if_pos (by omega)]
          have HP2 : Hid (¬ (D < 2 * r0 ∨ 2 * r0 = D ∧ q % 2 = 1) → (M : Int) = q) := fun h => by rw [HMM.out, if_neg (by omega)]
          clear HMM
          go_wp2
          all_goals go_ret2
          all_goals refine ⟨?_, B4⟩
          all_goals
            first
              | (have hm := HP.out (by first | (left; assumption) | exact Or.inr ⟨by assumption, by simpa using ‹(q % 2 == 1) = true›⟩)
                 first
                   | (have hh := HE1.out (by omega); rw [hh.1, hh.2, hm]; rfl)
                   | (have hh := HE2.out (by omega); rw [hh.1, hh.2]; rfl))
              | (have hm := HP2.out (by first | omega | (have h5 : ¬ q % 2 = 1 := by simpa using ‹(q % 2 == 1) = false›
                                                         omega))
                 first
                   | (have hh := HE1.out (by omega); rw [hh.1, hh.2, hm]; rfl)
                   | (have hh := HE2.out (by omega); rw [hh.1, hh.2]; rfl))
set_option maxRecDepth 100000 in
set_option maxHeartbeats 800000 in
theorem convertr_any (u : Int) (a b r : ByteArray) (w : World) :
    Calls Try.prog 13 #[.int .i64 u, .string a, .string b, .string r] w fun e w' => e = .returned (.tuple #[.int .i64 (cvV u a.data.toList b.data.toList r.data.toList), .int .i64 (cvE u a.data.toList b.data.toList r.data.toList)]) ∧ Below w.heap.size w w' := by
  have pa := fun w => placesr_any a w
  have pb := fun w => placesr_any b w
  have pr := fun w => rater_any r w
  have pi := fun w => amount_any u w
  rcases plE_cases a.data.toList with ea | ⟨ea, va⟩
  rcases plE_cases b.data.toList with eb | ⟨eb, vb⟩
  cases hA : isA u
  · have HE : Hid (cvE u a.data.toList b.data.toList r.data.toList = 71 ∧ cvV u a.data.toList b.data.toList r.data.toList = 0) := by show _ ∧ _; simp [cvE, cvV, ea, eb, hA]
    generalize cvE u a.data.toList b.data.toList r.data.toList = E at *
    generalize cvV u a.data.toList b.data.toList r.data.toList = V at *
    rw [ea] at pa
    rw [eb] at pb
    rw [hA] at pi
    generalize plV a.data.toList = pA at *
    generalize plV b.data.toList = pB at *
    clear ea eb pr hA
    go_enter Try.func13, Try.ntmps13
    go_wp2_with fail
    refine (pa _).mono ?_
    rintro e y1 ⟨rfl, b1⟩
    go_wp2_with fail
    refine (pb _).mono ?_
    rintro e y2 ⟨rfl, b2⟩
    have B2 := keepB b1 b2
    go_wp2_with fail
    refine (pi _).mono ?_
    rintro e y3 ⟨rfl, b3⟩
    have B3 := keepB B2 (same b3)
    clear b3
    go_wp2_with fail
    go_ret2
    exact ⟨by rw [HE.out.1, HE.out.2]; rfl, B3⟩
  cases hR : rtB r.data.toList
  · have HE : Hid (cvE u a.data.toList b.data.toList r.data.toList = 72 ∧ cvV u a.data.toList b.data.toList r.data.toList = 0) := by show _ ∧ _; simp [cvE, cvV, ea, eb, hA, hR]
    generalize cvE u a.data.toList b.data.toList r.data.toList = E at *
    generalize cvV u a.data.toList b.data.toList r.data.toList = V at *
    rw [ea] at pa
    rw [eb] at pb
    rw [hA] at pi
    rw [hR] at pr
    generalize plV a.data.toList = pA at *
    generalize plV b.data.toList = pB at *
    clear ea eb hA
    go_enter Try.func13, Try.ntmps13
    go_wp2_with fail
    refine (pa _).mono ?_
    rintro e y1 ⟨rfl, b1⟩
    go_wp2_with fail
    refine (pb _).mono ?_
    rintro e y2 ⟨rfl, b2⟩
    have B2 := keepB b1 b2
    go_wp2_with fail
    refine (pi _).mono ?_
    rintro e y3 ⟨rfl, b3⟩
    have B3 := keepB B2 (same b3)
    clear b3
    go_wp2_with fail
    refine (pr _).mono ?_
    rintro e y4 ⟨p, v, rfl, _, b4⟩
    have B4 := keepB B3 (same b4)
    clear b4
    go_wp2_with fail
    go_ret2
    exact ⟨by rw [HE.out.1, HE.out.2]; rfl, B4⟩
  · exact convertr_ok u a b r hA hR ea eb w
  · have HE : Hid (cvE u a.data.toList b.data.toList r.data.toList = 70 ∧ cvV u a.data.toList b.data.toList r.data.toList = 0) := by show _ ∧ _; simp [cvE, cvV, ea, eb]
    generalize cvE u a.data.toList b.data.toList r.data.toList = E at *
    generalize cvV u a.data.toList b.data.toList r.data.toList = V at *
    rw [ea] at pa
    rw [eb] at pb
    generalize plV a.data.toList = pA at *
    generalize plV b.data.toList = pB at *
    clear ea eb pi pr vb
    go_enter Try.func13, Try.ntmps13
    go_wp2_with fail
    refine (pa _).mono ?_
    rintro e y1 ⟨rfl, b1⟩
    go_wp2_with fail
    refine (pb _).mono ?_
    rintro e y2 ⟨rfl, b2⟩
    have B2 := keepB b1 b2
    go_wp2_with fail
    go_ret2
    exact ⟨by rw [HE.out.1, HE.out.2]; rfl, B2⟩
  · have HE : Hid (cvE u a.data.toList b.data.toList r.data.toList = 70 ∧ cvV u a.data.toList b.data.toList r.data.toList = 0) := by show _ ∧ _; simp [cvE, cvV, ea]
    generalize cvE u a.data.toList b.data.toList r.data.toList = E at *
    generalize cvV u a.data.toList b.data.toList r.data.toList = V at *
    rw [ea] at pa
    generalize plV a.data.toList = pA at *
    generalize plV b.data.toList = pB at *
    generalize plE b.data.toList = eB at *
    clear ea pi pr va
    go_enter Try.func13, Try.ntmps13
    go_wp2_with fail
    refine (pa _).mono ?_
    rintro e y1 ⟨rfl, b1⟩
    go_wp2_with fail
    refine (pb _).mono ?_
    rintro e y2 ⟨rfl, b2⟩
    have B2 := keepB b1 b2
    go_wp2_with fail
    go_ret2
    exact ⟨by rw [HE.out.1, HE.out.2]; rfl, B2⟩
end Go.Proofs.Ytgojcebdlafbeaa.Rc
