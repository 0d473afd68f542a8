/- CipherApart: the law out of the contracts; the frame of the row. -/
import Derived.Test.YtlnnhhnnkdfddaaRows
import Derived.WalkKit
import Derived.ProofKit
import Derived.OpenShut
import Derived.ShutString
import Derived.ChangeOld
import Derived.Below
import Derived.JoinedCond
import Derived.Carry
import Derived.Test.YtlnnhhnnkdfddaaCn
namespace Go.Proofs.Ytlnnhhnnkdfddaa.cipherApart
open Go.ChangeShapes Go.WideShapes Go.ChangeAt Go.RowKit
open Go.ChangeMaps (open_string shut_string)
set_option linter.unusedVariables false

theorem own : ownKnob Try.prog.godebug = none := by kernel_rfl

set_option maxRecDepth 100000 in
set_option maxHeartbeats 3200000 in
theorem walk (a0 : ByteArray) (a1 : ByteArray) (a2 : ByteArray) (a3 : ByteArray) (w : World) (w0 : a0.size ≤ maxLen) (w1 : a1.size ≤ maxLen) (w2 : a2.size ≤ maxLen) (w3 : a3.size ≤ maxLen) :
    Calls Try.prog 7 #[.string a0, .string a1, .string a2, .string a3] w fun e w' => e = .returned (.bool true) ∧ Below w.heap.size w w' := by
  have S1 := fun y => Xo.some_any a3 160 (by decide) y
  have zt := Xo.someB_size a3 160
  generalize Xo.someB a3 160 = t at *
  have LE0 := fun u => Rl.length_ref a0 u
  have LE1 := fun u => Rl.length_ref a1 u
  by_cases z0 : Wd.kindN a0.size = 0 <;> by_cases z1 : Wd.kindN a1.size = 0
  · have el0 : Rl.lenB a0.size = false := by rw [Rl.len_kind, z0]; rfl
    rw [el0] at LE0
    have NB0 := Nw.new_bad a0 z0
    clear el0
    have el1 : Rl.lenB a1.size = false := by rw [Rl.len_kind, z1]; rfl
    rw [el1] at LE1
    have NB1 := Nw.new_bad a1 z1
    clear el1
    clear z0 z1
    go_enter Try.func7, Try.ntmps7
    go_wp2_with (first
      | (go_at_call 9; refine (Ck.known_any _).mono ?_; rintro e x1 ⟨rfl, h1⟩)
      | (go_at_call_of 10 (Value.string a0); refine (NB0 _).mono ?_; rintro e x2 ⟨rfl, rfl⟩)
      | (go_at_call_of 10 (Value.string a1); refine (NB1 _).mono ?_; rintro e x3 ⟨rfl, hx3⟩; rw [hx3]; have mB : True := trivial)
      | (go_at_call_of 11 (Value.string a0); refine (LE0 _).mono ?_; rintro e x5 ⟨rfl, hx5⟩; rw [hx5])
      | (go_at_call_of 11 (Value.string a1); refine (LE1 _).mono ?_; rintro e x6 ⟨rfl, hx6⟩; rw [hx6]))
    go_ret
    exact ⟨by simp, h1⟩
  · have el0 : Rl.lenB a0.size = false := by rw [Rl.len_kind, z0]; rfl
    rw [el0] at LE0
    have NB0 := Nw.new_bad a0 z0
    clear el0
    have el1 : Rl.lenB a1.size = true := by rw [Rl.len_kind]; simp [z1]
    rw [el1] at LE1
    obtain ⟨K1, hK1⟩ : ∃ K, Wd.kindN a1.size = K := ⟨_, rfl⟩
    have p1 : 1 ≤ K1 := by omega
    have m1 : K1 ≤ 3 := hK1 ▸ Cn.kind_le _
    have NG1 := Nw.new_good a1 K1 hK1 p1 m1
    have TU1 := fun g u back hk => Tu.turned_any g K1 a1 t back hK1 p1 (by omega) u hk
    have CH1 := fun g u back hk => Cn.chained_any g K1 a1 a2 t back hK1 p1 (by omega) u hk
    clear el1 hK1
    clear z0 z1
    go_enter Try.func7, Try.ntmps7
    go_wp2_with (first
      | (go_at_call 9; refine (Ck.known_any _).mono ?_; rintro e x1 ⟨rfl, h1⟩)
      | (go_at_call_of 10 (Value.string a0); refine (NB0 _).mono ?_; rintro e x2 ⟨rfl, rfl⟩)
      | (go_at_call_of 10 (Value.string a1); refine (NG1 _).mono ?_; rintro e x3 ⟨gb, rfl, hgb, hxb, h3⟩; have kb := Bl.keyOf hxb; have mB : True := trivial)
      | (go_at_call_of 11 (Value.string a0); refine (LE0 _).mono ?_; rintro e x5 ⟨rfl, hx5⟩; rw [hx5])
      | (go_at_call_of 11 (Value.string a1); refine (LE1 _).mono ?_; rintro e x6 ⟨rfl, hx6⟩; rw [hx6]))
    go_ret
    exact ⟨by simp, Cb.keepB (h1) h3⟩
  · have el0 : Rl.lenB a0.size = true := by rw [Rl.len_kind]; simp [z0]
    rw [el0] at LE0
    obtain ⟨K0, hK0⟩ : ∃ K, Wd.kindN a0.size = K := ⟨_, rfl⟩
    have p0 : 1 ≤ K0 := by omega
    have m0 : K0 ≤ 3 := hK0 ▸ Cn.kind_le _
    have NG0 := Nw.new_good a0 K0 hK0 p0 m0
    have TU0 := fun g u back hk => Tu.turned_any g K0 a0 t back hK0 p0 (by omega) u hk
    have CH0 := fun g u back hk => Cn.chained_any g K0 a0 a2 t back hK0 p0 (by omega) u hk
    clear el0 hK0
    have el1 : Rl.lenB a1.size = false := by rw [Rl.len_kind, z1]; rfl
    rw [el1] at LE1
    have NB1 := Nw.new_bad a1 z1
    clear el1
    clear z0 z1
    go_enter Try.func7, Try.ntmps7
    go_wp2_with (first
      | (go_at_call 9; refine (Ck.known_any _).mono ?_; rintro e x1 ⟨rfl, h1⟩)
      | (go_at_call_of 10 (Value.string a0); have mark := mB; refine (NG0 _).mono ?_; rintro e x4 ⟨gc, rfl, hgc, hxc, h4⟩; have kc := Bl.keyOf hxc; clear mark)
      | (go_at_call_of 10 (Value.string a0); refine (NG0 _).mono ?_; rintro e x2 ⟨ga, rfl, hga, hxa, h2⟩; have ka := Bl.keyOf hxa)
      | (go_at_call_of 10 (Value.string a1); refine (NB1 _).mono ?_; rintro e x3 ⟨rfl, hx3⟩; rw [hx3]; have mB : True := trivial)
      | (go_at_call_of 11 (Value.string a0); refine (LE0 _).mono ?_; rintro e x5 ⟨rfl, hx5⟩; rw [hx5])
      | (go_at_call_of 11 (Value.string a1); refine (LE1 _).mono ?_; rintro e x6 ⟨rfl, hx6⟩; rw [hx6]))
    go_ret
    exact ⟨by simp, Cb.keepB (Cb.keepB (h1) h2) h4⟩
  · have el0 : Rl.lenB a0.size = true := by rw [Rl.len_kind]; simp [z0]
    rw [el0] at LE0
    obtain ⟨K0, hK0⟩ : ∃ K, Wd.kindN a0.size = K := ⟨_, rfl⟩
    have p0 : 1 ≤ K0 := by omega
    have m0 : K0 ≤ 3 := hK0 ▸ Cn.kind_le _
    have NG0 := Nw.new_good a0 K0 hK0 p0 m0
    have TU0 := fun g u back hk => Tu.turned_any g K0 a0 t back hK0 p0 (by omega) u hk
    have CH0 := fun g u back hk => Cn.chained_any g K0 a0 a2 t back hK0 p0 (by omega) u hk
    clear el0 hK0
    have el1 : Rl.lenB a1.size = true := by rw [Rl.len_kind]; simp [z1]
    rw [el1] at LE1
    obtain ⟨K1, hK1⟩ : ∃ K, Wd.kindN a1.size = K := ⟨_, rfl⟩
    have p1 : 1 ≤ K1 := by omega
    have m1 : K1 ≤ 3 := hK1 ▸ Cn.kind_le _
    have NG1 := Nw.new_good a1 K1 hK1 p1 m1
    have TU1 := fun g u back hk => Tu.turned_any g K1 a1 t back hK1 p1 (by omega) u hk
    have CH1 := fun g u back hk => Cn.chained_any g K1 a1 a2 t back hK1 p1 (by omega) u hk
    clear el1 hK1
    clear z0 z1
    go_enter Try.func7, Try.ntmps7
    go_wp2_with (first
      | (go_at_call 9; refine (Ck.known_any _).mono ?_; rintro e x1 ⟨rfl, h1⟩)
      | (go_at_call_of 10 (Value.string a0); have mark := mB; refine (NG0 _).mono ?_; rintro e x4 ⟨gc, rfl, hgc, hxc, h4⟩; have kc := Bl.keyOf hxc; clear mark)
      | (go_at_call_of 10 (Value.string a0); refine (NG0 _).mono ?_; rintro e x2 ⟨ga, rfl, hga, hxa, h2⟩; have ka := Bl.keyOf hxa)
      | (go_at_call_of 10 (Value.string a1); refine (NG1 _).mono ?_; rintro e x3 ⟨gb, rfl, hgb, hxb, h3⟩; have kb := Bl.keyOf hxb; have mB : True := trivial)
      | (go_at_call 12; refine (S1 _).mono ?_; rintro e x7 ⟨rfl, hx7⟩; rw [hx7]))
    have B4 : Below w.heap.size w x4 := Cb.keepB (Cb.keepB (Cb.keepB (h1) h2) h3) h4
    have ka4 := Bk.key_kept (Cb.keepB h3 h4) ka
    have kb4 := Bk.key_kept h4 kb
    clear NG0 NG1 LE0 LE1 ka kb hxa hxb hxc h1 h2 h3 h4
    go_loopw [19] (fun c wr => ∃ m : Nat, m ≤ 2 ∧ c = .int .i64 (m : Int) ∧ Bk.Key wr ga K0 a0.data.toList ∧ Bk.Key wr gb K1 a1.data.toList ∧ Bk.Key wr gc K0 a0.data.toList ∧ Below w.heap.size w wr) (fun c _ => 3 - (intOf c).toNat)
    case atStart => exact ⟨0, by omega, rfl, ka4, kb4, kc, B4⟩
    case round =>
      obtain ⟨m, hm, rfl, k1, k2, k3, hb⟩ := hrel
      by_cases hlt : m < 2
      · have q : (m : Int) < 2 := by omega
        have q0 : (0 : Int) ≤ (m : Int) := by omega
        go_wp2_with (first
          | (go_at_call_of 13 (Value.string a0); refine (TU0 ga _ false k1).mono ?_; rintro e u1 ⟨rfl, b1⟩; have k11 := Bk.key_kept b1 k1; have k21 := Bk.key_kept b1 k2; have k31 := Bk.key_kept b1 k3)
          | (go_at_call_of 13 (Value.bool true); refine (TU1 gb _ true k21).mono ?_; rintro e u2 ⟨rfl, b2⟩; have k12 := Bk.key_kept b2 k11; have k22 := Bk.key_kept b2 k21; have k32 := Bk.key_kept b2 k31)
          | (go_at_call_of 14 (Value.bool false); refine (CH0 ga _ false k12).mono ?_; rintro e u3 ⟨rfl, b3⟩; have k13 := Bk.key_kept b3 k12; have k23 := Bk.key_kept b3 k22; have k33 := Bk.key_kept b3 k32)
          | (go_at_call_of 13 (Value.bool false); refine (TU1 gb _ false k23).mono ?_; rintro e u4 ⟨rfl, b4⟩; have k14 := Bk.key_kept b4 k13; have k24 := Bk.key_kept b4 k23; have k34 := Bk.key_kept b4 k33)
          | (go_at_call_of 14 (Value.bool true); refine (CH0 gc _ true k34).mono ?_; rintro e u5 ⟨rfl, b5⟩; have k15 := Bk.key_kept b5 k14; have k25 := Bk.key_kept b5 k24; have k35 := Bk.key_kept b5 k34))
        exact ⟨⟨m + 1, by omega, by simp, k15, k25, k35, Cb.keepB (Cb.keepB (Cb.keepB (Cb.keepB (Cb.keepB hb b1) b2) b3) b4) b5⟩, by simp only [intOf]; omega⟩
      · obtain rfl : m = 2 := by omega
        go_wp2
        go_ret
        exact ⟨rfl, hb⟩

theorem contract (H : Type) (enc : TypeId × Value → H) (W : World) (base : Nat) (args : Array Value) (ds gs : List (DataW H)) (before : List MemPlace)
    (hval : ∀ (j : Nat) t v, Try.f7.params[j]? = some t → args[j]? = some v → Value.okWide Try.prog W .any base t v)
    (hW : DataW.Whole enc Try.prog Try.f7.params.toList Rows.cipherApartSpec.vars false W args.toList ds gs before) :
    Calls Try.prog 7 args W fun e W' => ∃ v, e = .returned v ∧ Rows.cipherApartSpec.post enc Try.prog Try.f7 false true false false W args v W' := by
  have hW' := hW
  obtain ⟨p, q, hA0, hV, rfl, hfz, hnd⟩ := hW
  have hA : DataW.TrodAll enc Try.prog W 0 (fun _ => true) true Try.f7.params.toList args.toList ds p := hA0
  rw [Try.params7] at hA hval
  obtain ⟨v0, vs0, d0, ds0, p0, q0, hargs, rfl, rfl, h0, r0⟩ := trodAll_cons hA
  obtain ⟨v1, vs1, d1, ds1, p1, q1, rfl, rfl, rfl, h1, r1⟩ := trodAll_cons r0
  obtain ⟨v2, vs2, d2, ds2, p2, q2, rfl, rfl, rfl, h2, r2⟩ := trodAll_cons r1
  obtain ⟨v3, vs3, d3, ds3, p3, q3, rfl, rfl, rfl, h3, r3⟩ := trodAll_cons r2
  obtain ⟨rfl, rfl, rfl⟩ := trodAll_nil r3
  obtain rfl : args = #[v0, v1, v2, v3] := by cases args; simp_all
  obtain ⟨rfl, rfl⟩ := trodVars_none hV
  obtain ⟨a0, rfl, rfl, rfl, w0⟩ := open_string Try.underlying9 (hval 0 9 v0 rfl rfl) h0
  obtain ⟨a1, rfl, rfl, rfl, w1⟩ := open_string Try.underlying9 (hval 1 9 v1 rfl rfl) h1
  obtain ⟨a2, rfl, rfl, rfl, w2⟩ := open_string Try.underlying9 (hval 2 9 v2 rfl rfl) h2
  obtain ⟨a3, rfl, rfl, rfl, w3⟩ := open_string Try.underlying9 (hval 3 9 v3 rfl rfl) h3
  clear hA0
  refine (walk a0 a1 a2 a3 W w0 w1 w2 w3).mono fun e W' ⟨he, bel⟩ => ?_
  subst he
  exact ⟨_, rfl, _, _, _, [], _, [], hW', trodAll_mk1 (shut_bool Try.underlying4 _), (trodAll_cons_mk (shut_string Try.underlying9 w0) (trodAll_cons_mk (shut_string Try.underlying9 w1) (trodAll_cons_mk (shut_string Try.underlying9 w2) (trodAll_cons_mk (shut_string Try.underlying9 w3) trodAll_mk0)))), rfl, bel.frame _, fun h => by cases h⟩

set_option maxRecDepth 100000 in
theorem lifted (os : Os) (started : os.Started) (H : Type) (enc : TypeId × Value → H) :
    ReturnsInHanded {} Try.checked os 7 .any (Rows.cipherApartSpec.pre6 enc Try.prog Try.f7 Rows.cipherApartRow.domain false) (Rows.cipherApartSpec.post enc Try.prog Try.f7 false true false false) := by
  refine returnsInHanded_of_change (C := Try.checked) own started (by kernel_rfl) Try.func7
    (ChangeSpec.witness6 (enc := enc) (C := Try.checked) false ⟨#[], #[.string .empty, .string .empty, .string .empty, .string .empty], []⟩ 8 (by kernel_rfl) (by kernel_rfl) (by kernel_rfl) (by kernel_rfl)) ?_
  intro W base args ds gs before hval hW _ _
  exact contract H enc W base args ds gs before hval hW

theorem proved : Rows.CipherApartSaid :=
  OpenClaim.holds_of_wide 7 Try.f7 rfl rfl rfl rfl rfl rfl rfl ⟨rfl, rfl, rfl, rfl, rfl⟩ rfl rfl rfl rfl rfl (by kernel_rfl) Try.func7 (by kernel_rfl)
    (of_decide_eq_true (by kernel_rfl)) (by unfold Func.isWrapper; first | (rw [if_pos (by decide +kernel)]; kernel_rfl) | (rw [if_neg (by decide +kernel)]; exact ⟨rfl, rfl⟩))
    (fun os started H enc _ => lifted os started H enc)
#print axioms proved
end Go.Proofs.Ytlnnhhnnkdfddaa.cipherApart
