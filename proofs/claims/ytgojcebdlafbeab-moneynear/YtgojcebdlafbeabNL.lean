/- MoneyNear: the law out of the contracts; the frame of the row. -/
import Derived.Test.YtgojcebdlafbeabRows
import Derived.WalkKit
import Derived.ProofKit
import Derived.OpenShut
import Derived.ShutString
import Derived.ChangeOld
import Derived.Below
import Derived.JoinedCond
import Derived.Carry
import Derived.SizedLaws
import Derived.Test.YtgojcebdlafbeabNq
namespace Go.Proofs.Ytgojcebdlafbeab.moneyNear
open Go.ChangeShapes Go.WideShapes Go.ChangeAt Go.RowKit
open Go.ChangeMaps (open_string shut_string)
set_option linter.unusedVariables false

theorem own : ownKnob Try.prog.godebug = none := by kernel_rfl

open Cp Pp Np Cx
/-- the conversion of amounts and rates that there are -/
theorem cv_of (u p n : Nat) (a b : List UInt8) (hu : u ≤ 999999999999) (ha : plE a = 0) (hb : plE b = 0) (hp : p ≤ 7) (hn : n < 10000000) (h0 : 0 < n) :
    cvE u a b (rtL p n) = (if mv (u * n) (plV b - plV a - p) ≤ 999999999999 then 0 else 13) ∧ cvV u a b (rtL p n) = (if mv (u * n) (plV b - plV a - p) ≤ 999999999999 then (mv (u * n) (plV b - plV a - p) : Int) else 0) := by
  obtain ⟨h1, h2, h3⟩ := rtL_ok p n hp hn h0
  have hA : Mp.isA (u : Int) = true := (Mp.isA_iff _).2 (by omega)
  have hM : cvM u a b (rtL p n) = mv (u * n) (plV b - plV a - p) := by rw [cvM, h2, h3, Int.toNat_natCast]
  have hE : cvE u a b (rtL p n) = (if mv (u * n) (plV b - plV a - p) ≤ 999999999999 then 0 else 13) := by
    rw [cvE, if_pos ⟨ha, hb⟩, if_pos hA, if_pos h1, hM]
  refine ⟨hE, ?_⟩
  rw [cvV, hE, hM]
  by_cases h : mv (u * n) (plV b - plV a - p) ≤ 999999999999
  · rw [if_pos h, if_pos rfl, if_pos h]
  · rw [if_neg h, if_neg (by decide), if_neg h]
theorem same {x y : World} (h : y = x) : Below x.heap.size x y := by
  subst h; exact Below.refl _ _
set_option maxRecDepth 100000 in
set_option maxHeartbeats 3200000 in
theorem walk (a0 : Int) (a1 : Int) (a2 : Int) (a3 : Int) (a4 : Int) (w : World) (w0 : (Lit.int .i64 a0).wf = true) (w1 : (Lit.int .i64 a1).wf = true) (w2 : (Lit.int .i64 a2).wf = true) (w3 : (Lit.int .i64 a3).wf = true) (w4 : (Lit.int .i64 a4).wf = true) :
    Calls Try.prog 3 #[.int .i64 a0, .int .i64 a1, .int .i64 a2, .int .i64 a3, .int .i64 a4] w fun e w' => e = .returned (.bool true) ∧ Below w.heap.size w w' := by
  have b01 := (bounds_i64 w0).1
  have b02 := (bounds_i64 w0).2
  have b11 := (bounds_i64 w1).1
  have b12 := (bounds_i64 w1).2
  have b21 := (bounds_i64 w2).1
  have b22 := (bounds_i64 w2).2
  have b31 := (bounds_i64 w3).1
  have b32 := (bounds_i64 w3).2
  have b41 := (bounds_i64 w4).1
  have b42 := (bounds_i64 w4).2
  have pu := fun x => Pick.pick_any a0 1000000 x b01 b02 (by decide) (by decide)
  have pk := fun x => Pick.pick_any a1 7 x b11 b12 (by decide) (by decide)
  have pm := fun x => Pick.pick_any a2 999999 x b21 b22 (by decide) (by decide)
  have u1 := Pick.pick_lo a0 1000000 (by decide)
  have u2 := Pick.pick_hi a0 1000000 (by decide)
  have k1 := Pick.pick_lo a1 7 (by decide)
  have k2 := Pick.pick_hi a1 7 (by decide)
  have m1 := Pick.pick_lo a2 999999 (by decide)
  have m2 := Pick.pick_hi a2 999999 (by decide)
  obtain ⟨u, hu⟩ : ∃ u : Nat, Pick.pickOf a0 1000000 = (u : Int) := ⟨(Pick.pickOf a0 1000000).toNat, by omega⟩
  obtain ⟨k, hk⟩ : ∃ k : Nat, Pick.pickOf a1 7 = (k : Int) := ⟨(Pick.pickOf a1 7).toNat, by omega⟩
  obtain ⟨m', hm⟩ : ∃ m' : Nat, Pick.pickOf a2 999999 = (m' : Int) := ⟨(Pick.pickOf a2 999999).toNat, by omega⟩
  obtain ⟨m, hmm⟩ : ∃ m : Nat, m = 1 + m' := ⟨_, rfl⟩
  rw [hu] at pu u2
  rw [hk] at pk k2
  rw [hm] at pm m2
  have px := fun x => Nm.currency_any a3 b31 b32 x
  have py := fun x => Nm.currency_any a4 b41 b42 x
  have ex := Nm.cu_known a3
  have ey := Nm.cu_known a4
  have sx := Nm.cu_size a3
  have sy := Nm.cu_size a4
  generalize Nm.cu a3 = X at *
  generalize Nm.cu a4 = Y at *
  clear hu hk hm u1 k1 m1 b01 b02 b11 b12 b21 b22 b31 b32 b41 b42 w0 w1 w2 w3 w4
  have vx := plV_bounds X.data.toList
  have vy := plV_bounds Y.data.toList
  obtain ⟨f, hf⟩ : ∃ f : Nat, plV X.data.toList = (f : Int) := ⟨(plV X.data.toList).toNat, by omega⟩
  obtain ⟨t, ht⟩ : ∃ t : Nat, plV Y.data.toList = (t : Int) := ⟨(plV Y.data.toList).toNat, by omega⟩
  have lx := fun x => Nq.places_law X sx ex x
  have ly := fun x => Nq.places_law Y sy ey x
  rw [hf, Int.toNat_natCast] at lx
  rw [ht, Int.toNat_natCast] at ly
  rw [hf] at vx
  rw [ht] at vy
  have hn : u * m ≤ 999999999999 := by
    have := Nat.mul_le_mul (show u ≤ 999999 by omega) (show m ≤ 999999 by omega)
    omega
  have hn2 : (u + 1) * m ≤ 999999999999 := by
    have := Nat.mul_le_mul (show u + 1 ≤ 1000000 by omega) (show m ≤ 999999 by omega)
    omega
  have c1 := cv_of u k m X.data.toList Y.data.toList (by omega) ex ey (by omega) (by omega) (by omega)
  have c2 := cv_of u (k + 1) (10 * m) X.data.toList Y.data.toList (by omega) ex ey (by omega) (by omega) (by omega)
  have c3 := cv_of (u + 1) k m X.data.toList Y.data.toList (by omega) ex ey (by omega) (by omega) (by omega)
  have c4 := cv_of u 0 1 X.data.toList X.data.toList (by omega) ex ex (by omega) (by omega) (by omega)
  have q1 := fun x => convert_any (u : Int) X Y ⟨(rtL k m).toArray⟩ (by omega) (by omega) sx sy (by show (rtL k m).toArray.size ≤ maxLen; rw [List.size_toArray, rtL, List.length_cons, dz_length]; decide) x
  have q2 := fun x => convert_any (u : Int) X Y ⟨(rtL (k + 1) (10 * m)).toArray⟩ (by omega) (by omega) sx sy (by show (rtL (k + 1) (10 * m)).toArray.size ≤ maxLen; rw [List.size_toArray, rtL, List.length_cons, dz_length]; decide) x
  have q3 := fun x => convert_any ((u + 1 : Nat) : Int) X Y ⟨(rtL k m).toArray⟩ (by omega) (by omega) sx sy (by show (rtL k m).toArray.size ≤ maxLen; rw [List.size_toArray, rtL, List.length_cons, dz_length]; decide) x
  have q4 := fun x => convert_any (u : Int) X X ⟨#[48, 48, 48, 48, 48, 48, 48, 49]⟩ (by omega) (by omega) sx sx (by decide) x
  rw [show (⟨(rtL k m).toArray⟩ : ByteArray).data.toList = rtL k m from rfl, c1.1, c1.2] at q1
  rw [show (⟨(rtL (k + 1) (10 * m)).toArray⟩ : ByteArray).data.toList = rtL (k + 1) (10 * m) from rfl, c2.1, c2.2] at q2
  rw [show (⟨(rtL k m).toArray⟩ : ByteArray).data.toList = rtL k m from rfl, c3.1, c3.2] at q3
  rw [show (⟨#[48, 48, 48, 48, 48, 48, 48, 49]⟩ : ByteArray).data.toList = rtL 0 1 from by decide, c4.1, c4.2] at q4
  clear c1 c2 c3 c4
  rw [hf, ht] at q1 q2 q3
  rw [hf] at q4
  have e4 : mv (u * 1) ((f : Int) - f - (0 : Nat)) = u := by rw [show (f : Int) - f - (0 : Nat) = 0 by omega]; exact mv_one u (by omega)
  rw [e4, if_pos (show u ≤ 999999999999 by omega), if_pos (show u ≤ 999999999999 by omega)] at q4
  have hT := mv_ten (u * m) ((t : Int) - f - k) hn
  rw [show 10 * (u * m) = u * (10 * m) by rw [← Nat.mul_assoc, Nat.mul_comm 10, Nat.mul_assoc], show (t : Int) - f - k - 1 = (t : Int) - f - ((k + 1 : Nat) : Int) by omega] at hT
  have hG := mv_mono (u * m) ((u + 1) * m) ((t : Int) - f - k) (Nat.mul_le_mul_right _ (by omega)) hn2
  have hN := mv_near (u * m) f k t hn
  have hd1 : 1 ≤ p10 f * p10 k := Nat.mul_le_mul (p10_pos f) (p10_pos k)
  have hL := fun h => le_div (mv (u * m) ((t : Int) - f - k)) (p10 f * p10 k) (u * m * p10 t) hd1 h
  generalize mv (u * m) ((t : Int) - f - k) = A at *
  generalize mv (u * (10 * m)) ((t : Int) - f - ((k + 1 : Nat) : Int)) = A2 at *
  generalize mv ((u + 1) * m) ((t : Int) - f - k) = G at *
  have rr1 := fun x => Nq.rate_any (k : Int) (m : Int) (by omega) (by omega) (by omega) (by omega) x
  have rr2 := fun x => Nq.rate_any ((k : Int) + 1) (10 * (m : Int)) (by omega) (by omega) (by omega) (by omega) x
  rw [Int.toNat_natCast, Int.toNat_natCast] at rr1
  rw [show ((k : Int) + 1).toNat = k + 1 by omega, show (10 * (m : Int)).toNat = 10 * m by omega] at rr2
  generalize (⟨(rtL k m).toArray⟩ : ByteArray) = R1 at *
  generalize (⟨(rtL (k + 1) (10 * m)).toArray⟩ : ByteArray) = R2 at *
  rw [show ((u + 1 : Nat) : Int) = (u : Int) + 1 by omega] at q3
  have pow1 : p10 f ≤ 1000 := by have : (10 : Nat) ^ f ≤ 10 ^ 3 := Nat.pow_le_pow_right (by decide) (by omega); rw [p10]; omega
  have pow2 : p10 t ≤ 1000 := by have : (10 : Nat) ^ t ≤ 10 ^ 3 := Nat.pow_le_pow_right (by decide) (by omega); rw [p10]; omega
  have pow3 : p10 k ≤ 1000000 := by have : (10 : Nat) ^ k ≤ 10 ^ 6 := Nat.pow_le_pow_right (by decide) (by omega); rw [p10]; omega
  have posT := p10_pos t
  have posF := p10_pos f
  have dle : p10 f * p10 k ≤ 1000000000 := by have := Nat.mul_le_mul pow1 pow3; omega
  have wle : u * m * p10 t ≤ 999999999999000 := by have := Nat.mul_le_mul hn pow2; omega
  have hkk : Hid (∀ i, i ≤ k → p10 f * p10 i ≤ 1000000000) := fun i hi => by
    have h1 : p10 i ≤ p10 k := Nat.pow_le_pow_right (by decide) hi
    have := Nat.mul_le_mul_left (p10 f) h1
    omega
  obtain ⟨U, hU⟩ : ∃ U : Int, (u : Int) = U := ⟨_, rfl⟩
  obtain ⟨KK, hKK⟩ : ∃ KK : Int, (k : Int) = KK := ⟨_, rfl⟩
  obtain ⟨MM, hMM⟩ : ∃ MM : Int, (m : Int) = MM := ⟨_, rfl⟩
  rw [hU] at pu q1 q2 q3 q4
  rw [hKK] at pk rr1 rr2
  rw [hMM] at rr1 rr2
  have U0 : 0 ≤ U := by omega
  have U1 : U ≤ 999999 := by omega
  have K0 : 0 ≤ KK := by omega
  have K1 : KK ≤ 6 := by omega
  have M0 : 1 ≤ MM := by omega
  have M1 : MM ≤ 999999 := by omega
  obtain ⟨M2, hM2⟩ : ∃ M2 : Int, (m' : Int) = M2 := ⟨_, rfl⟩
  rw [hM2] at pm
  have hadd : 1 + M2 = MM := by omega
  have M20 : 0 ≤ M2 := by omega
  have M21 : M2 ≤ 999998 := by omega
  have z1 : (10 * MM).tmod 10000000 = 10 * MM := by rw [Int.tmod_eq_emod_of_nonneg (by omega)]; omega
  have z2 : 10 * MM % 10000000 = 10 * MM := by omega
  have HKK : Hid ((k : Int) = KK) := hKK
  have HUM : Hid (((u * m : Nat) : Int) = U * MM) := by show _ = _; rw [Int.natCast_mul, hU, hMM]
  by_cases hA : A ≤ 999999999999
  · rw [if_pos hA, if_pos hA] at q1
    rw [hT.2 hA, if_pos hA, if_pos hA] at q2
    have near := hN
    have hL2 := hL near.1
    obtain ⟨AA, hAA⟩ : ∃ AA : Int, (A : Int) = AA := ⟨_, rfl⟩
    rw [hAA] at q1 q2
    have HNN : Hid (2 * (AA * ((p10 f * p10 k : Nat) : Int)) - 2 * ((u * m * p10 t : Nat) : Int) ≤ ((p10 f * p10 k : Nat) : Int) ∧ 2 * ((u * m * p10 t : Nat) : Int) - 2 * (AA * ((p10 f * p10 k : Nat) : Int)) ≤ ((p10 f * p10 k : Nat) : Int) ∧ ((2 * (AA * ((p10 f * p10 k : Nat) : Int)) - 2 * ((u * m * p10 t : Nat) : Int) = ((p10 f * p10 k : Nat) : Int) ∨ 2 * ((u * m * p10 t : Nat) : Int) - 2 * (AA * ((p10 f * p10 k : Nat) : Int)) = ((p10 f * p10 k : Nat) : Int)) → AA % 2 = 0) ∧ AA ≤ ((u * m * p10 t : Nat) : Int) / ((p10 f * p10 k : Nat) : Int) + 1) := by
      obtain ⟨n1, n2, n3⟩ := near
      rw [Int.natCast_mul A, hAA] at n1 n2 n3
      refine ⟨n1, n2, fun h => ?_, ?_⟩
      · have := n3 h; omega
      · rw [← hAA, ← Int.natCast_ediv]; omega
    have A0 : 0 ≤ AA := by omega
    have A1 : AA ≤ 999999999999 := by omega
    have q3' : ∃ g h : Int, (h = 0 ∧ AA ≤ g ∨ h = 13) ∧ ∀ x, Calls Try.prog 8 #[.int .i64 (U + 1), .string X, .string Y, .string R1] x fun e w' => e = .returned (.tuple #[.int .i64 g, .int .i64 h]) ∧ Below x.heap.size x w' := by
      by_cases hGG : G ≤ 999999999999
      · rw [if_pos hGG, if_pos hGG] at q3
        exact ⟨_, _, Or.inl ⟨rfl, by omega⟩, q3⟩
      · rw [if_neg hGG, if_neg hGG] at q3
        exact ⟨_, _, Or.inr rfl, q3⟩
    clear q3
    obtain ⟨g, h, hgh, q3⟩ := q3'
    clear hT hG hN hL near hL2 hAA hA hU hMM hM2 hKK vx vy hf ht e4 hmm u2 k2 m2 ex ey sx sy
    rcases hgh with ⟨rfl, hg⟩ | rfl
    all_goals
      go_enter Try.func3, Try.ntmps3
      go_wp2_with fail
      refine (pu _).mono ?_
      rintro e y ⟨rfl, hy⟩
      have B1 := same hy
      clear hy
      go_wp2_with fail
      refine (pk _).mono ?_
      rintro e y2 ⟨rfl, hy⟩
      have B2 := Kb.keepB B1 (same hy)
      clear hy B1
      go_wp2_with fail
      refine (pm _).mono ?_
      rintro e y3 ⟨rfl, hy⟩
      have B3 := Kb.keepB B2 (same hy)
      clear hy B2
      go_wp2_with fail
      refine (px _).mono ?_
      rintro e y4 ⟨rfl, hy⟩
      have B4 := Kb.keepB B3 hy
      clear hy B3
      go_wp2_with fail
      refine (py _).mono ?_
      rintro e y5 ⟨rfl, hy⟩
      have B5 := Kb.keepB B4 hy
      clear hy B4
      go_wp2_with fail
      refine (rr1 _).mono ?_
      rintro e y6 ⟨rfl, hy⟩
      have B6 := Kb.keepB B5 (same hy)
      clear hy B5
      go_wp2_with fail
      refine (q1 _).mono ?_
      rintro e y7 ⟨rfl, hy⟩
      have B7 := Kb.keepB B6 hy
      clear hy B6
      go_wp2_with fail
      refine (rr2 _).mono ?_
      rintro e y8 ⟨rfl, hy⟩
      have B8 := Kb.keepB B7 (same hy)
      clear hy B7
      go_wp2_with fail
      refine (q2 _).mono ?_
      rintro e y9 ⟨rfl, hy⟩
      have B9 := Kb.keepB B8 hy
      clear hy B8
      go_wp2_with fail
      refine (rr1 _).mono ?_
      rintro e y10 ⟨rfl, hy⟩
      have B10 := Kb.keepB B9 (same hy)
      clear hy B9
      go_wp2_with fail
      refine (q3 _).mono ?_
      rintro e y11 ⟨rfl, hy⟩
      have B11 := Kb.keepB B10 hy
      clear hy B10
      go_wp2_with fail
      refine (q4 _).mono ?_
      rintro e y12 ⟨rfl, hy⟩
      have B12 := Kb.keepB B11 hy
      clear hy B11 pu pk pm px py rr1 rr2 q1 q2 q3 q4
      go_wp2_with fail
      refine (lx _).mono ?_
      rintro e y13 ⟨rfl, hy⟩
      have B13 := Kb.keepB B12 hy
      clear hy B12 lx
      go_wp2_with fail
      have DF0 : 1 ≤ ((p10 f : Nat) : Int) := by omega
      go_loop [24, 25] (fun dd ll => ∃ (i : Nat) (D : Int), dd = .int .i64 D ∧ ll = .int .i64 (i : Int) ∧ (i : Int) ≤ KK ∧ Hid (D = ((p10 f * p10 i : Nat) : Int))) (fun _ ll => KK.toNat - (intOf ll).toNat)
      case atStart => exact ⟨0, _, rfl, rfl, K0, by show _ = _; simp [p10]⟩
      case round =>
        obtain ⟨i, D, rfl, rfl, hi, HD⟩ := hrel
        obtain ⟨D0, D1⟩ : 1 ≤ D ∧ D ≤ 1000000000 := by
          have e1 : 1 ≤ p10 f * p10 i := Nat.mul_le_mul (p10_pos f) (p10_pos i)
          have e2 := hkk.out i (by have := HKK.out; omega)
          have := HD.out
          omega
        by_cases hlt : (i : Int) < KK
        · have HD2 : Hid (10 * D = ((p10 f * p10 (i + 1) : Nat) : Int)) := by
            show _ = _
            rw [HD.out, p10_succ, ← Nat.mul_assoc]; omega
          go_wp2
          exact ⟨⟨i + 1, _, rfl, by go_num, by omega, HD2⟩, by simp [intOf]; omega⟩
        · have HDD : D = ((p10 f * p10 k : Nat) : Int) := by rw [HD.out, show i = k by have := HKK.out; omega]
          obtain ⟨T, hTT⟩ : ∃ T : Int, ((p10 t : Nat) : Int) = T := ⟨_, rfl⟩
          have T0 : 1 ≤ T := by omega
          have T1 : T ≤ 1000 := by omega
          obtain ⟨W, hW⟩ : ∃ W : Int, U * MM * T = W := ⟨_, rfl⟩
          have hWn : ((u * m * p10 t : Nat) : Int) = W := by rw [Int.natCast_mul, HUM.out, hTT, hW]
          obtain ⟨UM, hUM⟩ : ∃ UM : Int, U * MM = UM := ⟨_, rfl⟩
          rw [hUM] at hW
          obtain ⟨AD, hAD⟩ : ∃ AD : Int, AA * D = AD := ⟨_, rfl⟩
          obtain ⟨Q, hQ⟩ : ∃ Q : Int, W.tdiv D = Q := ⟨_, rfl⟩
          have UM0 : 0 ≤ UM := by rw [← hUM]; exact Int.mul_nonneg U0 (by omega)
          have UM1 : UM ≤ 999999999999 := by have := HUM.out; omega
          have W0 : 0 ≤ W := by rw [← hWn]; exact Int.natCast_nonneg _
          have W1 : W ≤ 999999999999000 := by omega
          obtain ⟨n1, n2, n3, n4⟩ := HNN.out
          rw [hWn, ← HDD, hAD] at n1 n2 n3
          rw [hWn, ← HDD] at n4
          have AD0 : 0 ≤ AD := by rw [← hAD]; exact Int.mul_nonneg A0 (by omega)
          have AD1 : AD ≤ 1000001000000000 := by omega
          have hQ2 : Q = W / D := by rw [← hQ, Int.tdiv_eq_ediv_of_nonneg W0]
          have Q0 : 0 ≤ Q := by rw [hQ2]; exact Int.ediv_nonneg W0 (by omega)
          have Q1 : Q ≤ W := by rw [← hQ]; exact Int.tdiv_le_self D W0
          have n5 : AA ≤ Q + 1 := by rw [hQ2]; exact n4
          have zD : ¬ D = 0 := by omega
          have HN3 : Hid ((2 * AD - 2 * W = D ∨ 2 * W - 2 * AD = D) → AA % 2 = 0) := n3
          rw [hTT] at ly
          clear HD HNN n4 hQ2 HDD hWn hTT hkk HKK HUM pow1 pow2 pow3 posT posF dle wle hd1 DF0 hn hn2 z1 z2 hadd M20 M21 U0 U1 K0 K1 M0 M1 T0
          have o1 : 2 * (AD - W) ≤ D := by omega
          have o2 : -(2 * (AD - W)) ≤ D := by omega
          go_wp2_with fail
          refine (ly _).mono ?_
          rintro e y14 ⟨rfl, hy⟩
          have B14 := Kb.keepB B13 hy
          clear hy B13 ly
          go_wp2_with fail
          all_goals go_ret
          all_goals first
            | exact ⟨rfl, B14⟩
            | (have h2 := HN3.out (by omega)
               exact ⟨Cv.ret_bool (by rw [h2]; rfl), B14⟩)
  · rw [if_neg hA, if_neg hA] at q1
    rw [if_neg (fun h => hA (hT.1.1 h)), if_neg (fun h => hA (hT.1.1 h))] at q2
    rw [if_neg (fun h => hA (Nat.le_trans hG h)), if_neg (fun h => hA (Nat.le_trans hG h))] at q3
    clear hT hG hN hL hA hU hMM hM2 hKK vx vy hf ht e4 hmm u2 k2 m2 ex ey sx sy lx ly
    go_enter Try.func3, Try.ntmps3
    go_wp2_with fail
    refine (pu _).mono ?_
    rintro e y ⟨rfl, hy⟩
    have B1 := same hy
    clear hy
    go_wp2_with fail
    refine (pk _).mono ?_
    rintro e y2 ⟨rfl, hy⟩
    have B2 := Kb.keepB B1 (same hy)
    clear hy B1
    go_wp2_with fail
    refine (pm _).mono ?_
    rintro e y3 ⟨rfl, hy⟩
    have B3 := Kb.keepB B2 (same hy)
    clear hy B2
    go_wp2_with fail
    refine (px _).mono ?_
    rintro e y4 ⟨rfl, hy⟩
    have B4 := Kb.keepB B3 hy
    clear hy B3
    go_wp2_with fail
    refine (py _).mono ?_
    rintro e y5 ⟨rfl, hy⟩
    have B5 := Kb.keepB B4 hy
    clear hy B4
    go_wp2_with fail
    refine (rr1 _).mono ?_
    rintro e y6 ⟨rfl, hy⟩
    have B6 := Kb.keepB B5 (same hy)
    clear hy B5
    go_wp2_with fail
    refine (q1 _).mono ?_
    rintro e y7 ⟨rfl, hy⟩
    have B7 := Kb.keepB B6 hy
    clear hy B6
    go_wp2_with fail
    refine (rr2 _).mono ?_
    rintro e y8 ⟨rfl, hy⟩
    have B8 := Kb.keepB B7 (same hy)
    clear hy B7
    go_wp2_with fail
    refine (q2 _).mono ?_
    rintro e y9 ⟨rfl, hy⟩
    have B9 := Kb.keepB B8 hy
    clear hy B8
    go_wp2_with fail
    refine (rr1 _).mono ?_
    rintro e y10 ⟨rfl, hy⟩
    have B10 := Kb.keepB B9 (same hy)
    clear hy B9
    go_wp2_with fail
    refine (q3 _).mono ?_
    rintro e y11 ⟨rfl, hy⟩
    have B11 := Kb.keepB B10 hy
    clear hy B10
    go_wp2_with fail
    refine (q4 _).mono ?_
    rintro e y12 ⟨rfl, hy⟩
    have B12 := Kb.keepB B11 hy
    clear hy B11 pu pk pm px py rr1 rr2 q1 q2 q3 q4
    go_wp2_with fail
    go_ret
    exact ⟨rfl, B12⟩

set_option maxRecDepth 100000 in
theorem contract (H : Type) (enc : TypeId × Value → H) (W : World) (base : Nat) (args : Array Value) (ds gs : List (DataW H)) (before : List MemPlace)
    (hval : ∀ (j : Nat) t v, Try.f3.params[j]? = some t → args[j]? = some v → Value.okWide Try.prog W .any base t v)
    (hW : DataW.Whole enc Try.prog Try.f3.params.toList Rows.moneyNearSpec.vars false W args.toList ds gs before) :
    Calls Try.prog 3 args W fun e W' => ∃ v, e = .returned v ∧ Rows.moneyNearSpec.post enc Try.prog Try.f3 false true false false W args v W' := by
  have hW' := hW
  obtain ⟨p, q, hA0, hV, rfl, hfz, hnd⟩ := hW
  have hA : DataW.TrodAll enc Try.prog W 0 (fun _ => true) true Try.f3.params.toList args.toList ds p := hA0
  rw [Try.params3] at hA hval
  obtain ⟨v0, vs0, d0, ds0, p0, q0, hargs, rfl, rfl, h0, r0⟩ := trodAll_cons hA
  obtain ⟨v1, vs1, d1, ds1, p1, q1, rfl, rfl, rfl, h1, r1⟩ := trodAll_cons r0
  obtain ⟨v2, vs2, d2, ds2, p2, q2, rfl, rfl, rfl, h2, r2⟩ := trodAll_cons r1
  obtain ⟨v3, vs3, d3, ds3, p3, q3, rfl, rfl, rfl, h3, r3⟩ := trodAll_cons r2
  obtain ⟨v4, vs4, d4, ds4, p4, q4, rfl, rfl, rfl, h4, r4⟩ := trodAll_cons r3
  obtain ⟨rfl, rfl, rfl⟩ := trodAll_nil r4
  obtain rfl : args = #[v0, v1, v2, v3, v4] := by cases args; simp_all
  obtain ⟨rfl, rfl⟩ := trodVars_none hV
  obtain ⟨a0, rfl, rfl, rfl, w0⟩ := open_int Try.underlying3 (hval 0 3 v0 rfl rfl) h0
  obtain ⟨a1, rfl, rfl, rfl, w1⟩ := open_int Try.underlying3 (hval 1 3 v1 rfl rfl) h1
  obtain ⟨a2, rfl, rfl, rfl, w2⟩ := open_int Try.underlying3 (hval 2 3 v2 rfl rfl) h2
  obtain ⟨a3, rfl, rfl, rfl, w3⟩ := open_int Try.underlying3 (hval 3 3 v3 rfl rfl) h3
  obtain ⟨a4, rfl, rfl, rfl, w4⟩ := open_int Try.underlying3 (hval 4 3 v4 rfl rfl) h4
  clear hA0
  refine (walk a0 a1 a2 a3 a4 W w0 w1 w2 w3 w4).mono fun e W' ⟨he, bel⟩ => ?_
  subst he
  exact ⟨_, rfl, _, _, _, [], _, [], hW', trodAll_mk1 (shut_bool Try.underlying4 _), (trodAll_cons_mk (shut_int Try.underlying3 w0) (trodAll_cons_mk (shut_int Try.underlying3 w1) (trodAll_cons_mk (shut_int Try.underlying3 w2) (trodAll_cons_mk (shut_int Try.underlying3 w3) (trodAll_cons_mk (shut_int Try.underlying3 w4) trodAll_mk0))))), rfl, bel.frame _, fun h => by cases h⟩

set_option maxRecDepth 100000 in
theorem lifted (os : Os) (started : os.Started) (H : Type) (enc : TypeId × Value → H) :
    ReturnsInHanded {} Try.checked os 3 .any (Rows.moneyNearSpec.pre6 enc Try.prog Try.f3 Rows.moneyNearRow.domain false) (Rows.moneyNearSpec.post enc Try.prog Try.f3 false true false false) := by
  refine returnsInHanded_of_change (C := Try.checked) own started (by kernel_rfl) Try.func3
    (ChangeSpec.witness6 (enc := enc) (C := Try.checked) false ⟨#[], #[.int .i64 0, .int .i64 0, .int .i64 0, .int .i64 0, .int .i64 0], []⟩ 8 (by kernel_rfl) (by kernel_rfl) (by kernel_rfl) (by kernel_rfl)) ?_
  intro W base args ds gs before hval hW _ _
  exact contract H enc W base args ds gs before hval hW

theorem proved : Rows.MoneyNearSaid :=
  OpenClaim.holds_of_wide 3 Try.f3 rfl rfl rfl rfl rfl rfl rfl ⟨rfl, rfl, rfl, rfl, rfl⟩ rfl rfl rfl rfl rfl (by kernel_rfl) Try.func3 (by kernel_rfl)
    (of_decide_eq_true (by kernel_rfl)) (by unfold Func.isWrapper; first | (rw [if_pos (by decide +kernel)]; kernel_rfl) | (rw [if_neg (by decide +kernel)]; exact ⟨rfl, rfl⟩))
    (fun os started H enc _ => lifted os started H enc)
#print axioms proved
end Go.Proofs.Ytgojcebdlafbeab.moneyNear
