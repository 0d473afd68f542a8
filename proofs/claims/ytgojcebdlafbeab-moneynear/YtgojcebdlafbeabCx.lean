/- Convert: the program's. -/
import Derived.Test.YtgojcebdlafbeabCr
namespace Go.Proofs.Ytgojcebdlafbeab.Cx
set_option linter.unusedVariables false
open Go.RowKit Kb Cp Pp Pc Mp Cv Ms Cw Cr
/-- Convert: the number, the error -/
def cvM (u : Int) (a b r : List UInt8) : Nat := mv (u.toNat * rtN r) (plV b - plV a - (rtP r : Int))
def cvE (u : Int) (a b r : List UInt8) : Int := if plE a = 0 ∧ plE b = 0 then (if isA u then (if rtB r then (if cvM u a b r ≤ 999999999999 then 0 else 13) else 72) else 71) else 70
def cvV (u : Int) (a b r : List UInt8) : Int := if cvE u a b r = 0 then (cvM u a b r : Int) else 0
theorem same {x y : World} (h : y = x) : Below x.heap.size x y := by
  subst h; exact Below.refl _ _
theorem below_tr {a x y : World} (h : Below a.heap.size a x) (k : Below x.heap.size x y) : Below a.heap.size a y := keepB h k
set_option maxRecDepth 100000 in
set_option maxHeartbeats 800000 in
theorem convert_any (u : Int) (a b r : ByteArray) (u1 : -9223372036854775808 ≤ u) (u2 : u ≤ 9223372036854775807) (ha : a.size ≤ maxLen) (hb : b.size ≤ maxLen) (hr : r.size ≤ maxLen) (w : World) :
    Calls Try.prog 8 #[.int .i64 u, .string a, .string b, .string r] w fun e w' => e = .returned (.tuple #[.int .i64 (cvV u a.data.toList b.data.toList r.data.toList), .int .i64 (cvE u a.data.toList b.data.toList r.data.toList)]) ∧ Below w.heap.size w w' := by
  have pa := fun w => places_any a ha w
  have pb := fun w => places_any b hb w
  have pr := fun w => readRate_any r hr w
  have pi := fun w => isAmount_any u w
  rcases plE_cases a.data.toList with ea | ⟨ea, va⟩
  rcases plE_cases b.data.toList with eb | ⟨eb, vb⟩
  cases hA : isA u
  · have HE : Hid (cvE u a.data.toList b.data.toList r.data.toList = 71 ∧ cvV u a.data.toList b.data.toList r.data.toList = 0) := by show _ ∧ _; simp [cvE, cvV, ea, eb, hA]
    generalize cvE u a.data.toList b.data.toList r.data.toList = E at *
    generalize cvV u a.data.toList b.data.toList r.data.toList = V at *
    rw [ea] at pa
    rw [eb] at pb
    rw [hA] at pi
    generalize plV a.data.toList = pA at *
    generalize plV b.data.toList = pB at *
    clear ea eb pr hA
    go_enter Try.func8, Try.ntmps8
    go_wp2_with fail
    refine (pa _).mono ?_
    rintro e y1 ⟨rfl, b1⟩
    go_wp2_with fail
    refine (pb _).mono ?_
    rintro e y2 ⟨rfl, b2⟩
    have B2 := keepB b1 b2
    go_wp2_with fail
    refine (pi _).mono ?_
    rintro e y3 ⟨rfl, b3⟩
    have B3 := keepB B2 (same b3)
    clear b3
    go_wp2_with fail
    go_ret2
    exact ⟨by rw [HE.out.1, HE.out.2]; rfl, B3⟩
  cases hR : rtB r.data.toList
  · have HE : Hid (cvE u a.data.toList b.data.toList r.data.toList = 72 ∧ cvV u a.data.toList b.data.toList r.data.toList = 0) := by show _ ∧ _; simp [cvE, cvV, ea, eb, hA, hR]
    generalize cvE u a.data.toList b.data.toList r.data.toList = E at *
    generalize cvV u a.data.toList b.data.toList r.data.toList = V at *
    rw [ea] at pa
    rw [eb] at pb
    rw [hA] at pi
    rw [hR] at pr
    generalize plV a.data.toList = pA at *
    generalize plV b.data.toList = pB at *
    clear ea eb hA
    go_enter Try.func8, Try.ntmps8
    go_wp2_with fail
    refine (pa _).mono ?_
    rintro e y1 ⟨rfl, b1⟩
    go_wp2_with fail
    refine (pb _).mono ?_
    rintro e y2 ⟨rfl, b2⟩
    have B2 := keepB b1 b2
    go_wp2_with fail
    refine (pi _).mono ?_
    rintro e y3 ⟨rfl, b3⟩
    have B3 := keepB B2 (same b3)
    clear b3
    go_wp2_with fail
    refine (pr _).mono ?_
    rintro e y4 ⟨p, v, rfl, _, b4⟩
    have B4 := keepB B3 b4
    go_wp2_with fail
    go_ret2
    exact ⟨by rw [HE.out.1, HE.out.2]; rfl, below_tr B4 (below_one _ _)⟩
  · have rk := rt_ok hR
    have hu := (isA_iff u).1 hA
    obtain ⟨U, rfl⟩ : ∃ U : Nat, u = (U : Int) := ⟨u.toNat, by omega⟩
    have va := plV_bounds a.data.toList
    have vb := plV_bounds b.data.toList
    have hpr : U * rtN r.data.toList < 10000000000000000000 := by
      have := Nat.mul_le_mul (show U ≤ 999999999999 by omega) (show rtN r.data.toList ≤ 9999999 by omega)
      omega
    have pm := fun w => moved_any (U * rtN r.data.toList) (plV b.data.toList - plV a.data.toList - (rtP r.data.toList : Int)) hpr (by omega) (by omega) w
    have mb := mv_lt (U * rtN r.data.toList) (plV b.data.toList - plV a.data.toList - (rtP r.data.toList : Int)) hpr (by omega)
    have hM : cvM U a.data.toList b.data.toList r.data.toList = mv (U * rtN r.data.toList) (plV b.data.toList - plV a.data.toList - (rtP r.data.toList : Int)) := by rw [cvM, Int.toNat_natCast]
    rw [← hM] at pm mb
    have HE1 : Hid (cvM U a.data.toList b.data.toList r.data.toList ≤ 999999999999 → cvE U a.data.toList b.data.toList r.data.toList = 0 ∧ cvV U a.data.toList b.data.toList r.data.toList = cvM U a.data.toList b.data.toList r.data.toList) := fun h => by simp [cvE, cvV, ea, eb, hA, hR, h]
    have HE2 : Hid (¬ cvM U a.data.toList b.data.toList r.data.toList ≤ 999999999999 → cvE U a.data.toList b.data.toList r.data.toList = 13 ∧ cvV U a.data.toList b.data.toList r.data.toList = 0) := fun h => by simp [cvE, cvV, ea, eb, hA, hR, h]
    generalize cvE U a.data.toList b.data.toList r.data.toList = E at *
    generalize cvV U a.data.toList b.data.toList r.data.toList = V at *
    generalize cvM U a.data.toList b.data.toList r.data.toList = M at *
    rw [ea] at pa
    rw [eb] at pb
    rw [hA] at pi
    have HR : Hid (rtB r.data.toList = true) := hR
    rw [hR] at pr
    generalize plV a.data.toList = pA at *
    generalize plV b.data.toList = pB at *
    generalize rtP r.data.toList = rP at *
    generalize rtN r.data.toList = rN at *
    have i1 := va.1
    have i2 := va.2
    have i3 := vb.1
    have i4 := vb.2
    have i5 : (U : Int) ≤ 999999999999 := hu.2
    have i6 : (rP : Int) ≤ 7 := by omega
    have i7 : (rN : Int) < 10000000 := by omega
    have w1 : IntKind.u64.wrap ((U : Int) * (rN : Int)) = ((U * rN : Nat) : Int) := by rw [wrap_u64 _ (by rw [← Int.natCast_mul]; omega) (by rw [← Int.natCast_mul]; omega)]; simp
    have m1 : (M : Int) ≤ 10000000000000000000 := by omega
    rw [Int.natCast_mul] at pm
    clear ea eb hA hR hM rk hu va vb mb hpr
    by_cases hm : (M : Int) ≤ 999999999999
    · have HE := HE1.out (by omega)
      have HE' : Hid (E = 0 ∧ V = (M : Int)) := HE
      clear HE1 HE2 HE
      go_enter Try.func8, Try.ntmps8
      go_wp2_with fail
      refine (pa _).mono ?_
      rintro e y1 ⟨rfl, b1⟩
      go_wp2_with fail
      refine (pb _).mono ?_
      rintro e y2 ⟨rfl, b2⟩
      have B2 := keepB b1 b2
      go_wp2_with fail
      refine (pi _).mono ?_
      rintro e y3 ⟨rfl, b3⟩
      have B3 := keepB B2 (same b3)
      clear b3
      go_wp2_with fail
      refine (pr _).mono ?_
      rintro e y4 ⟨p, v, rfl, hpv, b4⟩
      obtain ⟨rfl, rfl⟩ := hpv (by first | rfl | trivial)
      have B4 := keepB B3 b4
      clear hpv
      go_wp2_with fail
      refine (pm _).mono ?_
      rintro e y5 ⟨rfl, b5⟩
      have B5 := keepB (keepB B4 (below_one y4 _)) b5
      clear pm w1 i1 i2 i3 i4 i5 i6 i7 pr pa pb pi
      go_wp2_with fail
      go_ret2
      exact ⟨by rw [HE'.out.1, HE'.out.2]; rfl, B5⟩
    · have m2 : (999999999999 : Int) < (M : Int) := by omega
      have HE := HE2.out (by omega)
      have HE' : Hid (E = 13 ∧ V = 0) := HE
      clear HE1 HE2 HE
      go_enter Try.func8, Try.ntmps8
      go_wp2_with fail
      refine (pa _).mono ?_
      rintro e y1 ⟨rfl, b1⟩
      go_wp2_with fail
      refine (pb _).mono ?_
      rintro e y2 ⟨rfl, b2⟩
      have B2 := keepB b1 b2
      go_wp2_with fail
      refine (pi _).mono ?_
      rintro e y3 ⟨rfl, b3⟩
      have B3 := keepB B2 (same b3)
      clear b3
      go_wp2_with fail
      refine (pr _).mono ?_
      rintro e y4 ⟨p, v, rfl, hpv, b4⟩
      obtain ⟨rfl, rfl⟩ := hpv (by first | rfl | trivial)
      have B4 := keepB B3 b4
      clear hpv
      go_wp2_with fail
      refine (pm _).mono ?_
      rintro e y5 ⟨rfl, b5⟩
      have B5 := keepB (keepB B4 (below_one y4 _)) b5
      clear pm w1 i1 i2 i3 i4 i5 i6 i7 pr pa pb pi
      go_wp2_with fail
      go_ret2
      exact ⟨by rw [HE'.out.1, HE'.out.2]; rfl, B5⟩
  · have HE : Hid (cvE u a.data.toList b.data.toList r.data.toList = 70 ∧ cvV u a.data.toList b.data.toList r.data.toList = 0) := by show _ ∧ _; simp [cvE, cvV, ea, eb]
    generalize cvE u a.data.toList b.data.toList r.data.toList = E at *
    generalize cvV u a.data.toList b.data.toList r.data.toList = V at *
    rw [ea] at pa
    rw [eb] at pb
    generalize plV a.data.toList = pA at *
    generalize plV b.data.toList = pB at *
    clear ea eb pi pr vb
    go_enter Try.func8, Try.ntmps8
    go_wp2_with fail
    refine (pa _).mono ?_
    rintro e y1 ⟨rfl, b1⟩
    go_wp2_with fail
    refine (pb _).mono ?_
    rintro e y2 ⟨rfl, b2⟩
    have B2 := keepB b1 b2
    go_wp2_with fail
    go_ret2
    exact ⟨by rw [HE.out.1, HE.out.2]; rfl, B2⟩
  · have HE : Hid (cvE u a.data.toList b.data.toList r.data.toList = 70 ∧ cvV u a.data.toList b.data.toList r.data.toList = 0) := by show _ ∧ _; simp [cvE, cvV, ea]
    generalize cvE u a.data.toList b.data.toList r.data.toList = E at *
    generalize cvV u a.data.toList b.data.toList r.data.toList = V at *
    rw [ea] at pa
    generalize plV a.data.toList = pA at *
    clear ea pi pr pb va
    go_enter Try.func8, Try.ntmps8
    go_wp2_with fail
    refine (pa _).mono ?_
    rintro e y1 ⟨rfl, b1⟩
    go_wp2_with fail
    go_ret2
    exact ⟨by rw [HE.out.1, HE.out.2]; rfl, b1⟩
end Go.Proofs.Ytgojcebdlafbeab.Cx
