/- SealKeys: the law out of the contracts; the frame of the row. -/
import Derived.Test.YtpifebapodfeaaaRows
import Derived.WalkKit
import Derived.ProofKit
import Derived.OpenShut
import Derived.ShutString
import Derived.ChangeOld
import Derived.Below
import Derived.JoinedCond
import Derived.Carry
import Derived.SizedLaws
import Derived.Test.YtpifebapodfeaaaKs
namespace Go.Proofs.Ytpifebapodfeaaa.sealKeys
open Go.ChangeShapes Go.WideShapes Go.ChangeAt Go.RowKit
open Go.ChangeMaps (open_string shut_string)
set_option linter.unusedVariables false

theorem own : ownKnob Try.prog.godebug = none := by kernel_rfl

set_option maxRecDepth 100000 in
set_option maxHeartbeats 1600000 in
theorem walk (a0 : ByteArray) (a1 : ByteArray) (a2 : Int) (a3 : ByteArray) (w : World) (w0 : a0.size ≤ maxLen) (w1 : a1.size ≤ maxLen) (w2 : (Lit.int .i64 a2).wf = true) (w3 : a3.size ≤ maxLen) (k0 : a0.size ≤ 1048576) (k1 : a1.size ≤ 1048576) (k3 : a3.size ≤ 1048576) :
    Calls Try.prog 7 #[.string a0, .string a1, .int .i64 a2, .string a3] w fun e w' => e = .returned (.bool true) ∧ Below w.heap.size w w' := by
  obtain ⟨p1, m, l2, l3, hm, hM, PM⟩ := Ft.pick_met a2 w2
  have FK := fun (Z : Nat) (hZ : Z ≤ 1000) y => Ft.fitted_any a0 Z hZ (by omega) y
  have FT := fun (Z : Nat) (hZ : Z ≤ 1000) y => Ft.fitted_any a1 Z hZ (by omega) y
  have g3 : (1 : Int) ≤ (m : Int) ∧ (m : Int) ≤ 2 := by omega
  obtain ⟨g3, g4⟩ := g3
  have HTG : Hid (∀ alg : Nat, (alg = 1 ∨ alg = 3) → ∀ r : ByteArray, r.size = 4 + 4 * alg → ∀ y, Calls Try.prog 11 #[.int .i64 (alg : Int), .int .i64 (m : Int), .string r, .string a3] y fun e w' => e = .returned (.tuple #[.string (Sp.tagB alg m r a3), .int .i64 0]) ∧ Below y.heap.size y w') := fun alg ha r hr y => Tg.Tag_good alg m ha hm r hr a3 (by omega) y
  obtain ⟨Me, hMe⟩ : ∃ Me : Int, Me = (m : Int) := ⟨_, rfl⟩
  rw [← hMe] at hM g3 g4 HTG
  clear hm hMe w0 w1 w2 w3 k0 k1 k3
  go_enter Try.func7, Try.ntmps7
  go_wp2_with (go_at_call 13; refine (PM _).mono ?_; rintro e x1 ⟨rfl, h1⟩; rw [h1])
  go_loopw [10] (fun c wr => ∃ j : Nat, j ≤ 2 ∧ c = .int .i64 (1 + 2 * (j : Int)) ∧ Below w.heap.size w wr) (fun c _ => 6 - (intOf c).toNat)
  case atStart => exact ⟨0, by omega, rfl, Below.refl _ _⟩
  case round =>
    obtain ⟨j, hj, rfl, hb⟩ := hrel
    by_cases hlt : j < 2
    · have q1 : 1 + 2 * (j : Int) ≤ 3 := by omega
      have q2 : 1 ≤ 1 + 2 * (j : Int) := by omega
      have F1 := fun y => FK (4 + 4 * (1 + 2 * j)) (by omega) y
      have F2 := fun y => FT (4 + 4 * (1 + 2 * j)) (by omega) y
      have TG := HTG.out (1 + 2 * j) (by omega)
      have eA : 1 + 2 * (j : Int) = ((1 + 2 * j : Nat) : Int) := by omega
      have eZ : 4 + 4 * ((1 + 2 * j : Nat) : Int) = ((4 + 4 * (1 + 2 * j) : Nat) : Int) := by omega
      have Hj : Hid (j < 2) := hlt
      have HA : Hid ((1 + 2 * j : Nat) = 1 + 2 * j) := rfl
      rw [eA] at q1 q2 ⊢
      obtain ⟨alg, halg⟩ : ∃ alg, alg = 1 + 2 * j := ⟨_, rfl⟩
      obtain ⟨Z, hZ⟩ : ∃ Z, Z = 4 + 4 * alg := ⟨_, rfl⟩
      rw [← halg, ← hZ] at F1 F2 eZ
      rw [← halg] at TG q1 q2 ⊢
      have HZ : Hid (Z = 4 + 4 * alg ∧ alg = 1 + 2 * j) := ⟨hZ, halg⟩
      have z16 : Z ≤ 16 := by omega
      clear eA halg hZ hlt hj FK FT HA
      go_wp2_with (go_at_call 14; refine (F1 _).mono ?_; rintro e y1 ⟨r, rfl, hr, b1⟩)
      have cv := run_bytes_of_string (P := Try.prog) y1 9 34 5 r Try.underlying9 Try.underlying34 Try.underlying5
      have rz := Ks.rw_zero r (grownCap y1 r.size 0 5)
      generalize bytesRow r (grownCap y1 r.size 0 5) = A0 at *
      generalize grownCap y1 r.size 0 5 = C at *
      have hn : ∃ n0, n0 = A0.size := ⟨_, rfl⟩
      obtain ⟨n0, hn⟩ := hn
      rw [← hn] at cv
      have g0 : (y1.drew.alloc (.cells A0 5 (n0, n0 + 1))).heap[y1.heap.size]? = some (.cells A0 5 (n0, n0 + 1)) := Cb.h1_0 y1.drew _
      have b0 : Below y1.heap.size y1 (y1.drew.alloc (.cells A0 5 (n0, n0 + 1))) := ((Below.refl _ y1).drew).alloc (Nat.le_refl _) _
      generalize y1.drew.alloc (.cells A0 5 (n0, n0 + 1)) = W0 at *
      have B0 : Below w.heap.size w W0 := Cb.keepB (Cb.keepB hb b1) b0
      have hG : w.heap.size ≤ y1.heap.size := (Cb.keepB hb b1).size
      rw [cv]
      clear cv b0 hb b1
      generalize y1.heap.size = G at *
      rw [hr]
      go_wp2_with (go_at_call 14; refine (F2 _).mono ?_; rintro e y2 ⟨t, rfl, ht, b2⟩; have g2 := Cb.kept b2 g0; have B2 := Cb.keepB B0 b2)
      clear g0 b2 B0 F1 F2
      clear wr
      go_loopw [14] (fun c wr => ∃ (i : Nat) (l : List UInt8) (A : Array Value), i ≤ Z ∧ c = .int .i64 (i : Int) ∧ Ks.Rw r l A ∧ A.size = n0 ∧ wr.heap[G]? = some (.cells A 5 (n0, n0 + 1)) ∧ Below w.heap.size w wr) (fun c _ => Z + 1 - (intOf c).toNat)
      case atStart => exact ⟨0, _, A0, Nat.zero_le _, rfl, rz, hn.symm, g2, B2⟩
      case round =>
        obtain ⟨i, l, A, hi, rfl, hA, hAs, hg, hb⟩ := hrel
        have hl : l.length = Z := hA.1.trans hr
        by_cases hiz : i < Z
        · have q3 : (0 : Int) ≤ (i : Int) := by omega
          have q4 : (i : Int) < (Z : Int) := by omega
          have hil : i < l.length := by omega
          have hit : i < t.size := by omega
          have q5 : (i : Int) < (t.size : Int) := by omega
          have c0 : wr.cell? ⟨G, i, none⟩ = some (.int .u8 (l[i].toNat : Int)) := by rw [cell_of_row wr _ i _ _ _ hg, hA.2.2.2 i hil]
          have f0 : wr.frozen? ⟨G, i, none⟩ = false := by
            have h1 := hA.2.1
            have h2 : i < n0 := by omega
            simp [World.frozen?, hg]; omega
          obtain ⟨v, hv⟩ : ∃ v : UInt8, v = l[i] ^^^ (t[i] &&& 1) := ⟨_, rfl⟩
          have hvh : v.toNat / 2 = l[i].toNat / 2 := by rw [hv]; exact Ks.low_half _ _
          have u1 : bits .xor .u8 (l[i].toNat : Int) (bits .and .u8 (t[i].toNat : Int) 1) = (v.toNat : Int) := by rw [hv]; exact Ks.xor_and _ _
          have HR : Hid (Ks.Rw r (l.set i v) (A.setIfInBounds i (.int .u8 (v.toNat : Int)))) := Ks.rw_set r l A i hA hil v hvh
          have HG := Sm.setCell_heap hg i (.int .u8 (v.toNat : Int))
          have HB := Sm.below_setCell hb hG i (.int .u8 (v.toNat : Int))
          have hsz : (A.setIfInBounds i (.int .u8 (v.toNat : Int))).size = n0 := by simpa using hAs
          clear hv hvh
          go_wp2_with fail
          go_region
          go_wp2
          exact ⟨⟨i + 1, _, _, hiz, by simp, HR.out, hsz, HG, HB.drew⟩, by simp only [intOf]; omega⟩
        · obtain rfl : i = Z := by omega
          have q4 : ¬ (i : Int) < (i : Int) := by omega
          have RS := fun (yy : World) (hgy : yy.heap[G]? = some (.cells A 5 (n0, n0 + 1))) => Ks.rw_str (P := Try.prog) (src := 34) (dst := 9) (e := 5) (C := C) hA Try.underlying34 Try.underlying5 Try.underlying9 hgy
          rw [hl] at RS
          have kz : (⟨l.toArray⟩ : ByteArray).size = i := by show l.toArray.size = i; simpa using hl
          have ka : Lo.Alk (⟨l.toArray⟩ : ByteArray).data.toList r.data.toList := by simpa using hA.2.2.1
          generalize (⟨l.toArray⟩ : ByteArray) = kb at *
          obtain ⟨hz1, hz2⟩ := HZ.out
          have T1 := TG r (by omega)
          have T2 := TG kb (by omega)
          rw [Ks.tag_low alg m kb r a3 ka (by omega) (by omega)] at T2
          have sT : ((Sp.tagB alg m r a3).size : Int) = 8 := by rw [Sp.tagB_size]; rfl
          have sT2 : (((Sp.tagB alg m r a3).size : Int) != 8) = false := by rw [sT]; rfl
          generalize Sp.tagB alg m r a3 = TT at *
          have HE : Hid ((alg : Int) + 2 = 1 + 2 * (((j + 1 : Nat)) : Int)) := (by omega : (alg : Int) + 2 = 1 + 2 * (((j + 1 : Nat)) : Int))
          have HJ := Hj.out
          have cs := RS _ hg
          clear TG ka hA hl kz rz hz1 hz2 g2 B2 hn sT HTG
          go_wp2_with (first
            | (go_at_call_of 11 (Value.string r); refine (T1 _).mono ?_; rintro e z1 ⟨rfl, d1⟩; have hg := Cb.kept d1 hg; have cs := RS _ hg)
            | (go_at_call 11; refine (T2 _).mono ?_; rintro e z2 ⟨rfl, d2⟩))
          have ho := HZ.out.2
          refine ⟨⟨j + 1, by omega, by rw [HE.out], Cb.keepB (Cb.keepB hb d1) d2⟩, by simp only [intOf]; omega⟩
    · obtain rfl : j = 2 := by omega
      have F1 := fun y => FK 8 (by omega) y
      have T1 := HTG.out 1 (.inl rfl)
      have T3 := HTG.out 3 (.inr rfl)
      clear FK FT HTG
      go_wp2_with (go_at_call 14; refine (F1 _).mono ?_; rintro e y1 ⟨r, rfl, hr, b1⟩)
      have U1 := T1 r hr
      have U3 := T3 (r ++ r) (by rw [ByteArray.size_append, hr])
      rw [Ks.tag_twice m r a3 hr] at U3
      have cc : ¬ 9223372036854775807 < r.size + r.size := by omega
      clear T1 T3
      generalize Sp.tagB 1 m r a3 = TT at *
      go_wp2_with (first
        | (go_at_call_of 11 (Value.string r); refine (U1 _).mono ?_; rintro e z1 ⟨rfl, d1⟩)
        | (go_at_call 11; refine (U3 _).mono ?_; rintro e z2 ⟨rfl, d2⟩))
      go_ret
      exact ⟨rfl, Cb.keepB (Cb.keepB (Cb.keepB hb b1) d1) d2⟩

theorem contract (H : Type) (enc : TypeId × Value → H) (W : World) (base : Nat) (args : Array Value) (ds gs : List (DataW H)) (before : List MemPlace)
    (hval : ∀ (j : Nat) t v, Try.f7.params[j]? = some t → args[j]? = some v → Value.okWide Try.prog W .any base t v)
    (hW : DataW.Whole enc Try.prog Try.f7.params.toList Rows.sealKeysSpec.vars false W args.toList ds gs before) (hk : Rows.uptoSmall H (ds ++ gs) = true) :
    Calls Try.prog 7 args W fun e W' => ∃ v, e = .returned v ∧ Rows.sealKeysSpec.post enc Try.prog Try.f7 false true false false W args v W' := by
  have hW' := hW
  obtain ⟨p, q, hA0, hV, rfl, hfz, hnd⟩ := hW
  have hA : DataW.TrodAll enc Try.prog W 0 (fun _ => true) true Try.f7.params.toList args.toList ds p := hA0
  rw [Try.params7] at hA hval
  obtain ⟨v0, vs0, d0, ds0, p0, q0, hargs, rfl, rfl, h0, r0⟩ := trodAll_cons hA
  obtain ⟨v1, vs1, d1, ds1, p1, q1, rfl, rfl, rfl, h1, r1⟩ := trodAll_cons r0
  obtain ⟨v2, vs2, d2, ds2, p2, q2, rfl, rfl, rfl, h2, r2⟩ := trodAll_cons r1
  obtain ⟨v3, vs3, d3, ds3, p3, q3, rfl, rfl, rfl, h3, r3⟩ := trodAll_cons r2
  obtain ⟨rfl, rfl, rfl⟩ := trodAll_nil r3
  obtain rfl : args = #[v0, v1, v2, v3] := by cases args; simp_all
  obtain ⟨rfl, rfl⟩ := trodVars_none hV
  obtain ⟨a0, rfl, rfl, rfl, w0⟩ := open_string Try.underlying9 (hval 0 9 v0 rfl rfl) h0
  obtain ⟨a1, rfl, rfl, rfl, w1⟩ := open_string Try.underlying9 (hval 1 9 v1 rfl rfl) h1
  obtain ⟨a2, rfl, rfl, rfl, w2⟩ := open_int Try.underlying3 (hval 2 3 v2 rfl rfl) h2
  obtain ⟨a3, rfl, rfl, rfl, w3⟩ := open_string Try.underlying9 (hval 3 9 v3 rfl rfl) h3
  clear hA0
  simp only [List.append_nil] at hk
  have hk1 := of_decide_eq_true hk
  simp only [Rows.uptoBulkAll, Rows.uptoBulk] at hk1
  have e0 : a0.data.toList.length = a0.size := by rw [Array.length_toList]; rfl
  have e1 : a1.data.toList.length = a1.size := by rw [Array.length_toList]; rfl
  have e3 : a3.data.toList.length = a3.size := by rw [Array.length_toList]; rfl
  refine (walk a0 a1 a2 a3 W w0 w1 w2 w3 (by omega) (by omega) (by omega)).mono fun e W' ⟨he, bel⟩ => ?_
  subst he
  exact ⟨_, rfl, _, _, _, [], _, [], hW', trodAll_mk1 (shut_bool Try.underlying4 _), (trodAll_cons_mk (shut_string Try.underlying9 w0) (trodAll_cons_mk (shut_string Try.underlying9 w1) (trodAll_cons_mk (shut_int Try.underlying3 w2) (trodAll_cons_mk (shut_string Try.underlying9 w3) trodAll_mk0)))), rfl, bel.frame _, fun h => by cases h⟩

set_option maxRecDepth 100000 in
theorem lifted (os : Os) (started : os.Started) (H : Type) (enc : TypeId × Value → H) (F : Stop.Interp) :
    ReturnsInHanded {} Try.checked os 7 .any ((Rows.OpenSpec.upto Rows.sealKeysSpec).pre6 enc Try.prog Try.f7 Rows.sealKeysUptoRow.domain false) (((Rows.OpenSpec.upto Rows.sealKeysSpec).at F).post enc Try.prog Try.f7 false true false false) := by
  refine returnsInHanded_of_cond (C := Try.checked) (s := Rows.OpenSpec.upto Rows.sealKeysSpec) (k := Rows.uptoSmall) rfl own started (by kernel_rfl) Try.func7
    (OpenSpec.witness (enc := enc) (C := Try.checked) (s := Rows.OpenSpec.upto Rows.sealKeysSpec) (k := Rows.uptoSmall) rfl false ⟨#[], #[.string .empty, .string .empty, .int .i64 0, .string .empty], []⟩ 8 (by kernel_rfl) (by kernel_rfl) (by kernel_rfl)
      (x := ([.lit (.string []), .lit (.string []), .lit (.int .i64 0), .lit (.string [])], [], [])) (by kernel_rfl) rfl (by kernel_rfl)) ?_
  intro W base args ds gs before hval hW _ hk _
  exact contract H enc W base args ds gs before hval hW hk

theorem proved : Rows.SealKeysUptoSaid :=
  OpenClaim.holds_of_cond 7 Try.f7 rfl rfl rfl rfl rfl rfl rfl ⟨rfl, rfl, rfl, rfl, rfl⟩ rfl rfl rfl rfl rfl (by kernel_rfl) Try.func7 (by kernel_rfl)
    (of_decide_eq_true (by kernel_rfl)) (by unfold Func.isWrapper; first | (rw [if_pos (by decide +kernel)]; kernel_rfl) | (rw [if_neg (by decide +kernel)]; exact ⟨rfl, rfl⟩))
    (fun os started H enc _ F => lifted os started H enc F)
#print axioms proved
end Go.Proofs.Ytpifebapodfeaaa.sealKeys
