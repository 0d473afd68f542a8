/- TlvCut: the law out of the contracts; the frame of the row. -/
import Derived.Test.YtgidjfhlooggkabRows
import Derived.WalkKit
import Derived.ProofKit
import Derived.OpenShut
import Derived.ShutString
import Derived.ChangeOld
import Derived.Below
import Derived.JoinedCond
import Derived.Carry
import Derived.SizedLaws
import Derived.Test.YtgidjfhlooggkabKn
import Derived.Test.YtgidjfhlooggkabMd
import Derived.Test.YtgidjfhlooggkabSa
import Derived.Test.YtgidjfhlooggkabMo
import Derived.Test.YtgidjfhlooggkabSl
import Derived.Test.YtgidjfhlooggkabCt
import Derived.Test.YtgidjfhlooggkabSu
namespace Go.Proofs.Ytgidjfhlooggkab.tlvCut
open Go.ChangeShapes Go.WideShapes Go.ChangeAt Go.RowKit
open Go.ChangeMaps (open_string shut_string)
set_option linter.unusedVariables false

theorem own : ownKnob Try.prog.godebug = none := by kernel_rfl

theorem form_of {w : World} {v : Value} {z : List Int} (h : Sl.Lies w v z) : ∃ o n cap, v = .slice o n cap := by
  rcases h with ⟨rfl, -⟩ | ⟨a, cap, rfl, -⟩
  · exact ⟨_, _, _, rfl⟩
  · exact ⟨_, _, _, rfl⟩
theorem raw_of {w : World} {o : Option Addr} {n cap : Nat} {z : List Int} (h : Sl.Lies w (.slice o n cap) z) : Mk.Raw w w.heap.size o n := by
  rcases h with ⟨e, -⟩ | ⟨a, cap', e, h1, h2, h3, h4⟩
  · obtain ⟨rfl, rfl, rfl⟩ : o = none ∧ n = 0 ∧ cap = 0 := by simpa using e
    exact ⟨by omega, fun i hi => absurd hi (by omega)⟩
  · obtain ⟨rfl, rfl, rfl⟩ : o = some a ∧ n = z.length ∧ cap = cap' := by simpa using e
    refine ⟨by unfold maxLen at h2; omega, fun i hi => ⟨a, z[i], rfl, ?_, h3 i hi, ?_⟩⟩
    · have := World.block_lt_of_cell? w _ (h3 i hi); omega
    · have := h4 z[i] (List.getElem_mem hi)
      simp [Lit.wf] at this
      have e1 : IntKind.i64.min = -9223372036854775808 := by decide
      have e2 : IntKind.i64.max = 9223372036854775807 := by decide
      omega
/-- what is told of a beginning -/
def Say (y : World) (K n : Nat) (e : Ending) (w' : World) : Prop := ∃ o L c f a, e = .returned (.tuple #[.slice o L c, .int .i64 f, .int .i64 a]) ∧ Hid ((f = 0 ∧ a = 0) ∨ (f = 10 ∧ a = (K : Int) ∧ L = 0 ∧ K < n)) ∧ Below y.heap.size y w'
theorem say_of {R : Np.NR} {ts : List Nt.Tr} {K n b : Nat} {y w' : World} {e : Ending} (h : Ct.Cut R ts K b K n) (hK : K ≤ n) (p : Gn.PostR y R e w') : Say y K n e w' := by
  have ok : ∀ ts k b, Gn.PostR y (.ok ts k b) e w' → Say y K n e w' := by
    rintro ts k b ⟨v, ats, rfl, -, ho, hb⟩
    obtain ⟨o, c, rfl⟩ := ho.form
    exact ⟨o, _, c, 0, 0, rfl, .inl ⟨rfl, rfl⟩, hb⟩
  unfold Ct.Cut at h
  split at h
  · subst h; exact ok _ _ _ p
  · rcases h with ⟨ts', k', b', rfl⟩ | rfl
    · exact ok _ _ _ p
    · obtain ⟨rfl, hb⟩ := p
      exact ⟨_, _, _, _, _, rfl, .inr ⟨rfl, rfl, rfl, by omega⟩, hb⟩
theorem pre_of (L : List UInt8) (K : Nat) : ((⟨L.toArray⟩ : ByteArray).extract 0 K).data.toList <+: L := by
  rw [ByteArray.data_extract]
  simp only [Array.toList_extract, List.extract_eq_take_drop, List.drop_zero, Nat.sub_zero]
  exact List.take_prefix _ _
theorem size_of (L : List UInt8) (K : Nat) (h : K ≤ L.length) : ((⟨L.toArray⟩ : ByteArray).extract 0 K).size = K := by
  rw [ByteArray.size_extract]
  show min K L.length - 0 = K
  omega
theorem parse_say {ts : List Nt.Tr} (hg : Ag.good 1 ts) (hc : Ag.cnt ts ≤ 60) (hl : (Ag.enT ts).length ≤ 9999) (K : Nat) (hK : K ≤ (Ag.enT ts).length) (y : World) :
    Calls Try.prog 8 #[.string ((⟨(Ag.enT ts).toArray⟩ : ByteArray).extract 0 K)] y (Say y K (Ag.enT ts).length) := by
  have sz := size_of (Ag.enT ts) K hK
  have c := Ct.parse_cut hg (by omega) hl (pre_of (Ag.enT ts) K)
  rw [sz] at c
  exact (Go_.parse_any _ y (by omega)).mono fun e w' p => say_of c hK p
theorem subs_say {ts : List Nt.Tr} (hg : Ag.fineL ts) (hc : ts.length ≤ 60) (hl : (Ag.esT ts).length ≤ 9999) (K : Nat) (hK : K ≤ (Ag.esT ts).length) (y : World) :
    Calls Try.prog 9 #[.string ((⟨(Ag.esT ts).toArray⟩ : ByteArray).extract 0 K)] y (Say y K (Ag.esT ts).length) := by
  have sz := size_of (Ag.esT ts) K hK
  have c := Ct.parseS_cut hg (by omega) hl (pre_of (Ag.esT ts) K)
  rw [sz] at c
  exact (Go_.parseSub_any _ y (by omega)).mono fun e w' p => say_of c hK p
theorem pick_nat (c : Int) (n : Nat) (hc : -9223372036854775808 ≤ c) (hc2 : c ≤ 9223372036854775807) (hn2 : n ≤ 9999) : ∃ K : Nat, K ≤ n ∧ ∀ y, Calls Try.prog 13 #[.int .i64 c, .int .i64 ((n : Int) + 1)] y fun e w' => e = .returned (.int .i64 (K : Int)) ∧ w' = y := by
  have b := Mk.pk_bd c ((n : Int) + 1) (by omega)
  refine ⟨(Mk.pk c ((n : Int) + 1)).toNat, by omega, fun y => ?_⟩
  rw [Int.toNat_of_nonneg b.1]
  exact Mk.pick_any c _ y hc hc2 (by omega) (by omega)
set_option maxRecDepth 100000 in
set_option maxHeartbeats 3200000 in
theorem walk (v0 : Value) (z0 : List Int) (a1 : Int) (w : World) (w0 : Sl.Lies w v0 z0) (w1 : (Lit.int .i64 a1).wf = true) :
    Calls Try.prog 4 #[v0, .int .i64 a1] w fun e w' => e = .returned (.bool true) ∧ Below w.heap.size w w' := by
  obtain ⟨oa, na, ca, rfl⟩ := form_of w0
  have HW1 : Hid (-9223372036854775808 ≤ a1 ∧ a1 ≤ 9223372036854775807) := by
    have := w1
    simp [Lit.wf] at this
    have e1 : IntKind.i64.min = -9223372036854775808 := by decide
    have e2 : IntKind.i64.max = 9223372036854775807 := by decide
    exact ⟨by omega, by omega⟩
  clear w1
  go_enter Try.func4, Try.ntmps4
  go_wp2_with fail
  refine (Kn.known_any _).mono ?_
  rintro e y0 ⟨rfl, h0⟩
  go_wp2_with fail
  refine (Md.made_any y0 oa na ca (raw_of (Sl.lies_below w0 h0))).mono ?_
  rintro _ y1 ⟨v1, xs, rfl, p1⟩
  have b1 := Kb.keepB h0 p1.below
  obtain ⟨o1, c1, rfl⟩ := p1.own.form
  have HR1 : Nt.Rdn y1 (.slice o1 xs.length c1) xs := p1.own.reads
  obtain ⟨m0, m1, m2, m3⟩ := Mo.made_ok p1.gd p1.sml p1.few
  have k1 := Bu.build_any xs _ y1 HR1 m2
  rw [m0, m1] at k1
  obtain ⟨N1, HN1⟩ : ∃ N1 : Nat, Hid ((Ag.enT (Nt.er xs)).length = N1) := ⟨_, rfl⟩
  obtain ⟨A1, HA1⟩ : ∃ A1 : ByteArray, Hid ((⟨(Ag.enT (Nt.er xs)).toArray⟩ : ByteArray) = A1) := ⟨_, rfl⟩
  have hN1 : N1 ≤ 9999 := by rw [← HN1.out]; exact m3
  have hS1 : A1.size = N1 := by rw [← HA1.out, ← HN1.out]; rfl
  have k2 : ∀ K, K ≤ N1 → ∀ y, Calls Try.prog 8 #[.string (A1.extract 0 K)] y (Say y K N1) := fun K hK y => by
    rw [← HA1.out, ← HN1.out]
    exact parse_say p1.gd p1.few m3 K (by rw [HN1.out]; exact hK) y
  rw [HA1.out] at k1
  clear p1 HR1 m0 m1 m2 m3 HN1 HA1
  generalize xs.length = LN at *
  go_wp2_with fail
  refine k1.mono ?_
  rintro e z1 ⟨rfl, h2⟩
  have b2 := Kb.keepB b1 h2
  clear k1
  obtain ⟨K, hK, kp⟩ := pick_nat a1 N1 HW1.out.1 HW1.out.2 hN1
  have HS1 : Hid (A1.size = N1) := hS1
  have hS1' : (A1.size : Int) = (N1 : Int) := by omega
  clear hS1
  go_wp2_with fail
  refine (kp _).mono ?_
  rintro e z2 ⟨rfl, rfl⟩
  clear kp
  have hK' : (K : Int) ≤ (N1 : Int) := by omega
  have k3 := fun y => k2 K hK y
  clear k2
  go_wp2_with fail
  refine (k3 _).mono ?_
  rintro e z3 ⟨q1, L1, q2, f1, t1, rfl, HD1, h3⟩
  have b3 := Kb.keepB b2 h3
  clear k3 b1 h2 h3
  go_wp2_with fail
  refine (Su.subs_any z3 oa na ca (raw_of (Sl.lies_below w0 b3))).mono ?_
  rintro _ y2 ⟨v2, ys, rfl, p2⟩
  have b4 := Kb.keepB b3 p2.below
  obtain ⟨o2, c2, rfl⟩ := p2.own.form
  have HR2 : Nt.Rdn y2 (.slice o2 ys.length c2) ys := p2.own.reads
  obtain ⟨n0, n1, n3⟩ := Ct.subs_ok p2.fine (by have := p2.few; omega)
  have k4 := Sb.buildSub_any ys _ y2 HR2
  rw [n0, n1] at k4
  obtain ⟨N2, HN2⟩ : ∃ N2 : Nat, Hid ((Ag.esT (Nt.er ys)).length = N2) := ⟨_, rfl⟩
  obtain ⟨A2, HA2⟩ : ∃ A2 : ByteArray, Hid ((⟨(Ag.esT (Nt.er ys)).toArray⟩ : ByteArray) = A2) := ⟨_, rfl⟩
  have hN2 : N2 ≤ 9999 := by rw [← HN2.out]; exact n3
  have hS2 : A2.size = N2 := by rw [← HA2.out, ← HN2.out]; rfl
  have k5 : ∀ K, K ≤ N2 → ∀ y, Calls Try.prog 9 #[.string (A2.extract 0 K)] y (Say y K N2) := fun K hK y => by
    rw [← HA2.out, ← HN2.out]
    exact subs_say p2.fine (by rw [Nt.er_len]; have := p2.few; omega) n3 K (by rw [HN2.out]; exact hK) y
  rw [HA2.out] at k4
  clear p2 HR2 n0 n1 n3 HN2 HA2
  generalize ys.length = LN2 at *
  go_wp2_with fail
  refine k4.mono ?_
  rintro e z4 ⟨rfl, h5⟩
  have b5 := Kb.keepB b4 h5
  clear k4 b4 h5 b3
  obtain ⟨J, hJ, kp⟩ := pick_nat a1 N2 HW1.out.1 HW1.out.2 hN2
  have HS2 : Hid (A2.size = N2) := hS2
  have hS2' : (A2.size : Int) = (N2 : Int) := by omega
  clear hS2
  go_wp2_with fail
  refine (kp _).mono ?_
  rintro e z5 ⟨rfl, rfl⟩
  clear kp
  have hJ' : (J : Int) ≤ (N2 : Int) := by omega
  have k6 := fun y => k5 J hJ y
  clear k5
  go_wp2_with fail
  refine (k6 _).mono ?_
  rintro e z6 ⟨q3, L2, q4, f2, t2, rfl, HD2, h6⟩
  have b6 := Kb.keepB b5 h6
  clear k6 h6 b5 w0 b2
  have D1 : (f1 = 0 ∧ t1 = 0 ∧ K < N1) ∨ (f1 = 0 ∧ t1 = 0 ∧ ¬ K < N1) ∨ (f1 = 10 ∧ t1 = (K : Int) ∧ L1 = 0 ∧ K < N1) := by
    rcases HD1.out with h | h
    · by_cases q : K < N1
      · exact .inl ⟨h.1, h.2, q⟩
      · exact .inr (.inl ⟨h.1, h.2, q⟩)
    · exact .inr (.inr h)
  have D2 : (f2 = 0 ∧ t2 = 0 ∧ J < N2) ∨ (f2 = 0 ∧ t2 = 0 ∧ ¬ J < N2) ∨ (f2 = 10 ∧ t2 = (J : Int) ∧ L2 = 0 ∧ J < N2) := by
    rcases HD2.out with h | h
    · by_cases q : J < N2
      · exact .inl ⟨h.1, h.2, q⟩
      · exact .inr (.inl ⟨h.1, h.2, q⟩)
    · exact .inr (.inr h)
  clear HD1 HD2 hK hJ
  rcases D1 with ⟨rfl, rfl, d1⟩ | ⟨rfl, rfl, d1⟩ | ⟨rfl, rfl, rfl, d1⟩ <;> rcases D2 with ⟨rfl, rfl, d2⟩ | ⟨rfl, rfl, d2⟩ | ⟨rfl, rfl, rfl, d2⟩
  all_goals
    first
      | have e1 : (K : Int) < (N1 : Int) := by omega
      | have e1 : ¬ (K : Int) < (N1 : Int) := by omega
    first
      | have e2 : (J : Int) < (N2 : Int) := by omega
      | have e2 : ¬ (J : Int) < (N2 : Int) := by omega
    clear d1 d2
    go_wp2
    go_ret
    exact ⟨by simp, b6⟩

set_option maxRecDepth 100000 in
theorem contract (H : Type) (enc : TypeId × Value → H) (W : World) (base : Nat) (args : Array Value) (ds gs : List (DataW H)) (before : List MemPlace)
    (hval : ∀ (j : Nat) t v, Try.f4.params[j]? = some t → args[j]? = some v → Value.okWide Try.prog W .any base t v)
    (hW : DataW.Whole enc Try.prog Try.f4.params.toList Rows.tlvCutSpec.vars false W args.toList ds gs before) :
    Calls Try.prog 4 args W fun e W' => ∃ v, e = .returned v ∧ Rows.tlvCutSpec.post enc Try.prog Try.f4 false true false false W args v W' := by
  have hW' := hW
  obtain ⟨p, q, hA0, hV, rfl, hfz, hnd⟩ := hW
  have hA : DataW.TrodAll enc Try.prog W 0 (fun _ => true) true Try.f4.params.toList args.toList ds p := hA0
  rw [Try.params4] at hA hval
  obtain ⟨v0, vs0, d0, ds0, p0, q0, hargs, rfl, rfl, h0, r0⟩ := trodAll_cons hA
  obtain ⟨v1, vs1, d1, ds1, p1, q1, rfl, rfl, rfl, h1, r1⟩ := trodAll_cons r0
  obtain ⟨rfl, rfl, rfl⟩ := trodAll_nil r1
  obtain rfl : args = #[v0, v1] := by cases args; simp_all
  obtain ⟨rfl, rfl⟩ := trodVars_none hV
  obtain ⟨z0, w0, lt0, bulk0⟩ := Sl.open_sl (hval 0 30 v0 rfl rfl) h0
  obtain ⟨a1, rfl, rfl, rfl, w1⟩ := open_int Try.underlying3 (hval 1 3 v1 rfl rfl) h1
  clear hA0
  refine (walk v0 z0 a1 W w0 w1).mono fun e W' ⟨he, bel⟩ => ?_
  subst he
  exact ⟨_, rfl, _, _, _, [], _, [], hW', trodAll_mk1 (shut_bool Try.underlying4 _), (trodAll_cons_mk (Below.trod (by kernel_rfl) (by kernel_rfl) (of_decide_eq_true (by kernel_rfl)) h0 bel lt0) (trodAll_cons_mk (shut_int Try.underlying3 w1) trodAll_mk0)), rfl, bel.frame _, fun h => by cases h⟩

set_option maxRecDepth 100000 in
theorem lifted (os : Os) (started : os.Started) (H : Type) (enc : TypeId × Value → H) :
    ReturnsInHanded {} Try.checked os 4 .any (Rows.tlvCutSpec.pre6 enc Try.prog Try.f4 Rows.tlvCutRow.domain false) (Rows.tlvCutSpec.post enc Try.prog Try.f4 false true false false) := by
  refine returnsInHanded_of_change (C := Try.checked) own started (by kernel_rfl) Try.func4
    (ChangeSpec.witness6 (enc := enc) (C := Try.checked) false ⟨#[], #[.slice none 0 0, .int .i64 0], []⟩ 8 (by kernel_rfl) (by kernel_rfl) (by kernel_rfl) (by kernel_rfl)) ?_
  intro W base args ds gs before hval hW _ _
  exact contract H enc W base args ds gs before hval hW

theorem proved : Rows.TlvCutSaid :=
  OpenClaim.holds_of_wide 4 Try.f4 rfl rfl rfl rfl rfl rfl rfl ⟨rfl, rfl, rfl, rfl, rfl⟩ rfl rfl rfl rfl rfl (by kernel_rfl) Try.func4 (by kernel_rfl)
    (of_decide_eq_true (by kernel_rfl)) (by unfold Func.isWrapper; first | (rw [if_pos (by decide +kernel)]; kernel_rfl) | (rw [if_neg (by decide +kernel)]; exact ⟨rfl, rfl⟩))
    (fun os started H enc _ => lifted os started H enc)
#print axioms proved
end Go.Proofs.Ytgidjfhlooggkab.tlvCut
