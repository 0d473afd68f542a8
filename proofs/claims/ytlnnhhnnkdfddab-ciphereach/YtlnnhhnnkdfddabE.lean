/- CipherEach: the law out of the contracts; the frame of the row. -/
import Derived.Test.YtlnnhhnnkdfddabRows
import Derived.WalkKit
import Derived.ProofKit
import Derived.OpenShut
import Derived.ShutString
import Derived.ChangeOld
import Derived.Below
import Derived.JoinedCond
import Derived.Carry
import Derived.Test.YtlnnhhnnkdfddabEa
namespace Go.Proofs.Ytlnnhhnnkdfddab.cipherEach
open Go.ChangeShapes Go.WideShapes Go.ChangeAt Go.RowKit
open Go.ChangeMaps (open_string shut_string)
set_option linter.unusedVariables false

theorem own : ownKnob Try.prog.godebug = none := by kernel_rfl

set_option maxRecDepth 100000 in
set_option maxHeartbeats 3200000 in
theorem walk (a0 : ByteArray) (a1 : Int) (a2 : ByteArray) (a3 : ByteArray) (w : World) (w0 : a0.size ≤ maxLen) (w1 : (Lit.int .i64 a1).wf = true) (w2 : a2.size ≤ maxLen) (w3 : a3.size ≤ maxLen) :
    Calls Try.prog 6 #[.string a0, .int .i64 a1, .string a2, .string a3] w fun e w' => e = .returned (.bool true) ∧ Below w.heap.size w w' := by
  obtain ⟨p, hp, hp3⟩ : ∃ p : Nat, Pick.pickOf a1 3 = (p : Int) ∧ p < 3 := ⟨(Pick.pickOf a1 3).toNat, by have := Pick.pick_lo a1 3 (by decide); omega, by have := Pick.pick_hi a1 3 (by decide); omega⟩
  have b1 : -9223372036854775808 ≤ a1 ∧ a1 ≤ 9223372036854775807 := by
    have := w1
    simp [Lit.wf, IntKind.min, IntKind.max, IntKind.signed, IntKind.bits] at this
    omega
  have PI := fun u => Pick.pick_any a1 3 u b1.1 b1.2 (by decide) (by decide)
  rw [hp] at PI
  have F1 : ∀ u, Calls Try.prog 8 #[.string a0, .int .i64 (8 + 8 * (p : Int))] u fun e w' => ∃ r : ByteArray, e = .returned (.string r) ∧ r.size = 8 + 8 * p ∧ Below u.heap.size u w' := fun u => Fi.fit_any a0 (8 + 8 * p) (by omega) u
  have F2 := fun u => Fi.fit_any a2 8 (by decide) u
  have WH := fun u => Fi.whole_any a3 20 (by decide) u (by have := w3; unfold maxLen at this; omega)
  have hp2 : (p : Int) < 3 := by omega
  have hp0 : (0 : Int) ≤ (p : Int) := by omega
  have hp4 : Hid (p < 3) := hp3
  clear hp hp3 b1 w1
  go_enter Try.func6, Try.ntmps6
  go_wp2_with (first
    | (go_at_call 7; refine (Ck.known_any _).mono ?_; rintro e y1 ⟨rfl, h1⟩)
    | (go_at_call 9; refine (PI _).mono ?_; rintro e u ⟨rfl, rfl⟩)
    | (go_at_call_of 8 (Value.string a0); refine (F1 _).mono ?_; rintro e y2 ⟨r, rfl, hr, h2⟩; have hK : Wd.kindN r.size = p + 1 := Bl.kind_p r p hr hp4.out; have hrH : Hid (r.size = 8 + 8 * p) := hr; clear hr)
    | (go_at_call 16; refine (Nw.new_good r (p + 1) hK (by omega) (by have := hp4.out; omega) _).mono ?_; rintro e y3 ⟨g, rfl, hg, hk3, h3⟩; have k3 := Bl.keyOf hk3)
    | (go_at_call 10; refine (WH _).mono ?_; rintro e u ⟨t, N, rfl, hN, hN2, hu⟩; rw [hu])
    | (go_at_call_of 8 (Value.string a2); refine (F2 _).mono ?_; rintro e y4 ⟨f, rfl, hf, h4⟩; have k4 := Bk.key_kept h4 k3))
  have hKl : Wd.kindN r.data.toList.length = p + 1 ∧ 1 ≤ p + 1 := ⟨by rw [Bl.len_size]; exact hK, by omega⟩
  have HX := fun j hj u => Ea.xor_piece r.data.toList t f N hf hN j hj u
  have HE := fun j hj g u hk => Ea.enc_piece r.data.toList (p + 1) t N hKl hN j hj g u hk
  have HM := fun j hj g u hk => Ea.enc_mix r.data.toList (p + 1) t f N hKl hf hN j hj g u hk
  have HW := fun g u hk => Ea.enc_whole r.data.toList (p + 1) t N hKl hN (by omega) g u hk
  have HC := fun g u hk => Ea.chain_whole r.data.toList (p + 1) t f N hKl hf hN (by omega) g u hk
  have e0 : (ByteArray.mk #[]) = Ea.allB r.data.toList t 0 := rfl
  have B4 : Below w.heap.size w y4 := Cb.keepB (Cb.keepB (Cb.keepB h1 h2) h3) h4
  have hNi : Hid (t.size = 8 * N) := hN
  have hfi : Hid (f.size = 8) := hf
  have hN3 : Hid (N ≤ 20) := hN2
  clear hN hN2 hf hu hK hKl e0 h1 h2 h3 h4 k3 hk3 PI F1 F2 WH w0 w2 w3
  go_loopw [14, 15, 16, 17] (fun va vr vl c wr => ∃ j : Nat, j ≤ N ∧ va = .string (Ea.allB r.data.toList t j) ∧ vr = .string (Ea.rowB r.data.toList f t j) ∧ vl = .string (Ea.lastB r.data.toList f t j) ∧ c = .int .i64 (8 * (j : Int)) ∧ Bk.Key wr g (p + 1) r.data.toList ∧ Below w.heap.size w wr) (fun _ _ _ c _ => 8 * N + 8 - (intOf c).toNat)
  case atStart => exact ⟨0, Nat.zero_le _, rfl, rfl, rfl, rfl, k4, B4⟩
  case round =>
    obtain ⟨j, hj, rfl, rfl, rfl, rfl, hk, hb⟩ := hrel
    have eN := hNi.out
    have eN3 := hN3.out
    by_cases hlt : j < N
    · have q0 : (0 : Int) ≤ 8 * (j : Int) := by omega
      have q1 : 8 * (j : Int) < (t.size : Int) := by omega
      have q2 : 8 * (j : Int) + 8 ≤ (t.size : Int) := by omega
      have q3 : (t.size : Int) ≤ 160 := by omega
      have X1 := HX j hlt
      have E1 := HE j hlt
      have M1 := HM j hlt
      have HN1 : Hid (Ea.allB r.data.toList t j ++ Ea.oneB r.data.toList t j = Ea.allB r.data.toList t (j + 1)) := Ea.all_succ _ _ _
      have HN2 : Hid (Ea.rowB r.data.toList f t j ++ Ea.lastB r.data.toList f t (j + 1) = Ea.rowB r.data.toList f t (j + 1)) := Ea.row_succ _ _ _ _
      have c1 : ¬ 9223372036854775807 < (Ea.allB r.data.toList t j).size + (Ea.oneB r.data.toList t j).size := by rw [Ea.all_size, Ea.one_size]; omega
      have c2 : ¬ 9223372036854775807 < (Ea.rowB r.data.toList f t j).size + (Ea.lastB r.data.toList f t (j + 1)).size := by rw [Ea.row_size, Ea.last_size _ _ _ hfi.out]; omega
      have hH : Hid (8 * (j + 1) ≤ 8 * N) := (by omega : 8 * (j + 1) ≤ 8 * N)
      clear HX HE HM HW HC eN eN3 k4 B4
      generalize Ea.allB r.data.toList t j = AJ at *
      generalize Ea.rowB r.data.toList f t j = RJ at *
      generalize Ea.lastB r.data.toList f t j = LJ at *
      generalize hLB : Ea.lastB r.data.toList f t (j + 1) = LB at *
      have HLB : Hid (Ea.lastB r.data.toList f t (j + 1) = LB) := hLB
      clear hLB
      generalize Ea.oneB r.data.toList t j = O at *
      generalize Ea.mixB r.data.toList f t j = M at *
      go_wp2_with (first
        | (go_at_call 18; refine (X1 _).mono ?_; rintro e x2 ⟨rfl, b2⟩; have k2 := Bk.key_kept b2 k1)
        | (go_at_call_of 17 (Value.string M); refine (M1 g _ k2).mono ?_; rintro e x3 ⟨rfl, b3⟩; have k3 := Bk.key_kept b3 k2)
        | (go_at_call 17; refine (E1 g _ hk).mono ?_; rintro e x1 ⟨rfl, b1⟩; have k1 := Bk.key_kept b1 hk))
      refine ⟨⟨j + 1, hlt, by rw [HN1.out], by rw [HN2.out], by rw [HLB.out], by congr 1, k3, Cb.keepB (Cb.keepB (Cb.keepB hb b1) b2) b3⟩, by have := hH.out; simp only [intOf]; omega⟩
    · obtain rfl : j = N := by omega
      have q1 : ¬ 8 * (j : Int) < (t.size : Int) := by omega
      clear HX HE HM eN eN3 k4 B4
      generalize Ea.allB r.data.toList t j = AJ at *
      generalize Ea.rowB r.data.toList f t j = RJ at *
      generalize Ea.lastB r.data.toList f t j = LJ at *
      go_wp2_with (first
        | (go_at_call 17; refine (HW g _ hk).mono ?_; rintro e x1 ⟨rfl, b1⟩; have k1 := Bk.key_kept b1 hk)
        | (go_at_call 19; refine (HC g _ k1).mono ?_; rintro e x2 ⟨rfl, b2⟩))
      go_ret
      exact ⟨by simp, Cb.keepB (Cb.keepB hb b1) b2⟩

theorem contract (H : Type) (enc : TypeId × Value → H) (W : World) (base : Nat) (args : Array Value) (ds gs : List (DataW H)) (before : List MemPlace)
    (hval : ∀ (j : Nat) t v, Try.f6.params[j]? = some t → args[j]? = some v → Value.okWide Try.prog W .any base t v)
    (hW : DataW.Whole enc Try.prog Try.f6.params.toList Rows.cipherEachSpec.vars false W args.toList ds gs before) :
    Calls Try.prog 6 args W fun e W' => ∃ v, e = .returned v ∧ Rows.cipherEachSpec.post enc Try.prog Try.f6 false true false false W args v W' := by
  have hW' := hW
  obtain ⟨p, q, hA0, hV, rfl, hfz, hnd⟩ := hW
  have hA : DataW.TrodAll enc Try.prog W 0 (fun _ => true) true Try.f6.params.toList args.toList ds p := hA0
  rw [Try.params6] at hA hval
  obtain ⟨v0, vs0, d0, ds0, p0, q0, hargs, rfl, rfl, h0, r0⟩ := trodAll_cons hA
  obtain ⟨v1, vs1, d1, ds1, p1, q1, rfl, rfl, rfl, h1, r1⟩ := trodAll_cons r0
  obtain ⟨v2, vs2, d2, ds2, p2, q2, rfl, rfl, rfl, h2, r2⟩ := trodAll_cons r1
  obtain ⟨v3, vs3, d3, ds3, p3, q3, rfl, rfl, rfl, h3, r3⟩ := trodAll_cons r2
  obtain ⟨rfl, rfl, rfl⟩ := trodAll_nil r3
  obtain rfl : args = #[v0, v1, v2, v3] := by cases args; simp_all
  obtain ⟨rfl, rfl⟩ := trodVars_none hV
  obtain ⟨a0, rfl, rfl, rfl, w0⟩ := open_string Try.underlying9 (hval 0 9 v0 rfl rfl) h0
  obtain ⟨a1, rfl, rfl, rfl, w1⟩ := open_int Try.underlying3 (hval 1 3 v1 rfl rfl) h1
  obtain ⟨a2, rfl, rfl, rfl, w2⟩ := open_string Try.underlying9 (hval 2 9 v2 rfl rfl) h2
  obtain ⟨a3, rfl, rfl, rfl, w3⟩ := open_string Try.underlying9 (hval 3 9 v3 rfl rfl) h3
  clear hA0
  refine (walk a0 a1 a2 a3 W w0 w1 w2 w3).mono fun e W' ⟨he, bel⟩ => ?_
  subst he
  exact ⟨_, rfl, _, _, _, [], _, [], hW', trodAll_mk1 (shut_bool Try.underlying4 _), (trodAll_cons_mk (shut_string Try.underlying9 w0) (trodAll_cons_mk (shut_int Try.underlying3 w1) (trodAll_cons_mk (shut_string Try.underlying9 w2) (trodAll_cons_mk (shut_string Try.underlying9 w3) trodAll_mk0)))), rfl, bel.frame _, fun h => by cases h⟩

set_option maxRecDepth 100000 in
theorem lifted (os : Os) (started : os.Started) (H : Type) (enc : TypeId × Value → H) :
    ReturnsInHanded {} Try.checked os 6 .any (Rows.cipherEachSpec.pre6 enc Try.prog Try.f6 Rows.cipherEachRow.domain false) (Rows.cipherEachSpec.post enc Try.prog Try.f6 false true false false) := by
  refine returnsInHanded_of_change (C := Try.checked) own started (by kernel_rfl) Try.func6
    (ChangeSpec.witness6 (enc := enc) (C := Try.checked) false ⟨#[], #[.string .empty, .int .i64 0, .string .empty, .string .empty], []⟩ 8 (by kernel_rfl) (by kernel_rfl) (by kernel_rfl) (by kernel_rfl)) ?_
  intro W base args ds gs before hval hW _ _
  exact contract H enc W base args ds gs before hval hW

theorem proved : Rows.CipherEachSaid :=
  OpenClaim.holds_of_wide 6 Try.f6 rfl rfl rfl rfl rfl rfl rfl ⟨rfl, rfl, rfl, rfl, rfl⟩ rfl rfl rfl rfl rfl (by kernel_rfl) Try.func6 (by kernel_rfl)
    (of_decide_eq_true (by kernel_rfl)) (by unfold Func.isWrapper; first | (rw [if_pos (by decide +kernel)]; kernel_rfl) | (rw [if_neg (by decide +kernel)]; exact ⟨rfl, rfl⟩))
    (fun os started H enc _ => lifted os started H enc)
#print axioms proved
end Go.Proofs.Ytlnnhhnnkdfddab.cipherEach
