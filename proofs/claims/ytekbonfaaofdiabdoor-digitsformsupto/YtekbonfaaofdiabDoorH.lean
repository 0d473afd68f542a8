/- DigitsForms: the law out of the contracts; the frame of the row. -/
import Derived.Test.YtekbonfaaofdiabDoorCards
import Derived.Test.YtekbonfaaofdiabDoorTie
import Derived.WalkKit
import Derived.ProofKit
import Derived.OpenShut
import Derived.ShutString
import Derived.ChangeOld
import Derived.Below
import Derived.JoinedCond
import Derived.Deep.DeepHandedRow
import Derived.Lib.LaidTab
import Derived.Stop.LaidErr
import Derived.Test.YtekbonfaaofdiabDoorTrn
namespace Go.Proofs.YtekbonfaaofdiabDoor.digitsForms
open Go.ChangeShapes Go.WideShapes Go.ChangeAt Go.RowKit
open Go.ChangeMaps (open_string shut_string)
set_option linter.unusedVariables false

theorem own : ownKnob Tryd.prog.godebug = none := by kernel_rfl

theorem gTab : Tryd.prog.globalNamed "turnstile/digits.ebcdic" = some 0 := by kernel_rfl
theorem gTabType : (Tryd.prog.globals[0]?).map (·.type) = some 55 := by kernel_rfl
theorem cellsT : Tryd.prog.cellsOf 55 = 95 := by kernel_rfl
theorem cellsE : Tryd.prog.cellsOf 5 = 1 := by kernel_rfl
theorem table {W : World} (h : laidMetH Tryd.prog Rows.digitsFormsUptoRow.laid W) : Ebc.Tab W :=
  Ebc.Tab.of_var gTab (Lib.tabIs_of_head (rest := []) gTab gTabType Tryd.underlying55 Tryd.underlying5 cellsE cellsT h)
open Lib0 Chars Ebc Join Frm Spl Pck Rdd Unp Bck Bak Trn
theorem put_eq (s : ByteArray) (j : Nat) (c : UInt8) (h : (j : Int) + 1 ≤ (s.size : Int)) : s.extract 0 j ++ ⟨#[c]⟩ ++ s.extract (j + 1) s.size = putB s j c := rfl
set_option maxRecDepth 100000 in
set_option maxHeartbeats 1600000 in
theorem walk (a0 : Int) (a1 : ByteArray) (a2 : Int) (w0 : (Lit.int .i64 a0).wf = true) (w1 : a1.size ≤ maxLen) (w2 : (Lit.int .i64 a2).wf = true) (k1 : a1.size ≤ 1048576) (w : World) (hL : laidMetH Tryd.prog Rows.digitsFormsUptoRow.laid w) :
    Calls Tryd.prog 4 #[.int .i64 a0, .string a1, .int .i64 a2] w fun e w' => e = .returned (.bool true) ∧ Below w.heap.size w w' := by
  have HT : Hid (Tab w) := table hL
  have b0 := bounds_i64 w0
  have b2 := (bounds_i64 w2).2
  clear hL
  obtain ⟨pk, Hpk, hp0, hp1⟩ : ∃ pk, Hid (Pick.pickOf a0 5 = pk) ∧ 0 ≤ pk ∧ pk < 5 := ⟨_, rfl, Pick.pick_lo a0 5 (by omega), Pick.pick_hi a0 5 (by omega)⟩
  obtain ⟨enc, Henc, he⟩ : ∃ enc, Hid (1 + pk = enc) ∧ (1 ≤ enc ∧ enc ≤ 5) := ⟨_, rfl, by omega⟩
  have HU0 : Hid (unpackR enc (ByteArray.mk #[]).data.toList 0 = ([], 0, 0)) := u_nil enc he
  by_cases hn : a2 < 0
  · have HU : Hid (unpackR enc a1.data.toList a2 = ([], 1, 0)) := u_arg enc _ a2 (by omega)
    go_enter Tryd.func4, Tryd.ntmps4
    go_wp2_with fail
    refine (Pick.pick_any a0 5 _ b0.1 b0.2 (by omega) (by omega)).mono ?_
    rintro e w' ⟨rfl, rfl⟩
    rw [Hpk.out]
    go_wp2_with fail
    rw [Henc.out]
    refine (unpack_any enc (ByteArray.mk #[]) 0 _ (by decide) (by omega) HT.out).mono ?_
    rintro e x1 ⟨rfl, hb1⟩
    rw [HU0.out]
    unfold val3
    go_wp2_with fail
    refine (unpack_any enc a1 a2 _ (by omega) b2 (HT.out.next hb1)).mono ?_
    rintro e x2 ⟨rfl, hb2⟩
    have hb12 := hb1.trans (hb2.mono hb1.size)
    have z1 := hb12.size
    rw [HU.out]
    unfold val3
    go_wp2_with fail
    refine (width_any enc a2 _ b2).mono ?_
    rintro e x3 ⟨rfl, hx3⟩
    rw [hx3]
    clear hx3 x3
    go_wp2
    go_ret
    exact ⟨by simp, hb12⟩
  · obtain ⟨m, rfl⟩ : ∃ m : Nat, a2 = (m : Int) := ⟨a2.toNat, by omega⟩
    have h9 : 0 ≤ widthOf enc (m : Int) := by unfold widthOf; (repeat' split) <;> omega
    obtain ⟨W, hW⟩ : ∃ W : Nat, widthOf enc (m : Int) = (W : Int) := ⟨(widthOf enc m).toNat, by omega⟩
    have HW : Hid (widthOf enc (m : Int) = (W : Int)) := hW
    clear h9 hn hW
    by_cases hl : a1.size < W
    · have HU : Hid (unpackR enc a1.data.toList (m : Int) = ([], 10, (a1.size : Int))) := by show _ = _; rw [u_short enc _ _ (by omega) (by rw [HW.out, len_eq]; omega), len_eq]
      have hl2 : (a1.size : Int) < (W : Int) := by omega
      go_enter Tryd.func4, Tryd.ntmps4
      go_wp2_with fail
      refine (Pick.pick_any a0 5 _ b0.1 b0.2 (by omega) (by omega)).mono ?_
      rintro e w' ⟨rfl, rfl⟩
      rw [Hpk.out]
      go_wp2_with fail
      rw [Henc.out]
      refine (unpack_any enc (ByteArray.mk #[]) 0 _ (by decide) (by omega) HT.out).mono ?_
      rintro e x1 ⟨rfl, hb1⟩
      rw [HU0.out]
      unfold val3
      go_wp2_with fail
      refine (unpack_any enc a1 (m : Int) _ (by omega) b2 (HT.out.next hb1)).mono ?_
      rintro e x2 ⟨rfl, hb2⟩
      have hb12 := hb1.trans (hb2.mono hb1.size)
      have z1 := hb12.size
      rw [HU.out]
      unfold val3
      go_wp2_with fail
      refine (width_any enc (m : Int) _ b2).mono ?_
      rintro e x3 ⟨rfl, hx3⟩
      rw [hx3, HW.out]
      clear hx3 x3
      go_wp2
      go_ret
      exact ⟨by simp, hb12⟩
    · have hle : W ≤ a1.size := by omega
      have hle2 : (W : Int) ≤ (a1.size : Int) := by omega
      clear hl
      obtain ⟨r, hr⟩ : ∃ r, unpackR enc a1.data.toList (m : Int) = r := ⟨_, rfl⟩
      obtain ⟨t, er, z⟩ := r
      by_cases h0 : er = 0
      · subst h0
        obtain ⟨rfl, htl, hpk⟩ := back_fact enc a1 m W he HW.out hle t z hr
        have HU : Hid (unpackR enc a1.data.toList (m : Int) = (t, 0, 0)) := hr
        obtain ⟨d, Hd, Hdl, hds⟩ : ∃ d, Hid (ByteArray.mk t.toArray = d) ∧ Hid (d.data.toList = t) ∧ Hid (d.size = m) := ⟨_, rfl, mk_list t, by show _ = _; rw [mk_size]; exact htl⟩
        obtain ⟨c, Hc, Hcl⟩ : ∃ c, Hid (a1.extract 0 W = c) ∧ Hid (ByteArray.mk (a1.extract 0 W).data.toList.toArray = c) := ⟨_, rfl, rfl⟩
        have HP : Hid (packR enc d.data.toList = ((a1.extract 0 W).data.toList, 0)) := by show _ = _; rw [Hdl.out]; exact hpk
        have hdm : d.size ≤ 2097152 := by
          have h1 := hds.out
          have h2 : (m : Int) ≤ 2 * widthOf enc (m : Int) := by unfold widthOf; rw [if_neg (by omega)]; (repeat' split) <;> omega
          rw [HW.out] at h2
          omega
        have HZ : Hid ((d.size : Int) = (m : Int)) := by show _ = _; rw [hds.out]
        clear hr htl hpk hds
        go_enter Tryd.func4, Tryd.ntmps4
        go_wp2_with fail
        refine (Pick.pick_any a0 5 _ b0.1 b0.2 (by omega) (by omega)).mono ?_
        rintro e w' ⟨rfl, rfl⟩
        rw [Hpk.out]
        go_wp2_with fail
        rw [Henc.out]
        refine (unpack_any enc (ByteArray.mk #[]) 0 _ (by decide) (by omega) HT.out).mono ?_
        rintro e x1 ⟨rfl, hb1⟩
        rw [HU0.out]
        unfold val3
        go_wp2_with fail
        refine (unpack_any enc a1 (m : Int) _ (by omega) b2 (HT.out.next hb1)).mono ?_
        rintro e x2 ⟨rfl, hb2⟩
        have hb12 := hb1.trans (hb2.mono hb1.size)
        have z1 := hb12.size
        rw [HU.out]
        unfold val3
        rw [Hd.out]
        go_wp2_with fail
        refine (width_any enc (m : Int) _ b2).mono ?_
        rintro e x3 ⟨rfl, hx3⟩
        rw [hx3, HW.out]
        clear hx3 x3
        go_wp2_with fail
        refine (pack_any enc d _ (by omega) (HT.out.next hb12)).mono ?_
        rintro e x4 ⟨rfl, hb4⟩
        rw [HP.out, Hcl.out]
        have hq : ((d.size : Int) == (m : Int)) = true := by rw [HZ.out]; exact beq_self_eq_true _
        go_wp2
        rw [Hc.out]
        go_wp2
        go_ret
        exact ⟨by simp, hb12.trans (hb4.mono z1)⟩
      · obtain ⟨rfl, h4, hcode, j, hj, rfl, t', f, z', hu2, hor⟩ := turn_fact enc a1 m W he HW.out hle t er z h0 hr
        have HU : Hid (unpackR enc a1.data.toList (m : Int) = ([], er, (j : Int))) := hr
        obtain ⟨X, HX, hXs⟩ : ∃ X, Hid (a1.extract 0 j ++ ⟨#[turnB enc m j]⟩ ++ a1.extract (j + 1) a1.size = X) ∧ X.size = a1.size := ⟨_, rfl, put_size a1 j _ (by omega)⟩
        have HU2 : Hid (unpackR enc X.data.toList (m : Int) = (t', f, z')) := by show _ = _; rw [← HX.out]; exact hu2
        have hj2 : (j : Int) < (W : Int) := by omega
        have hj3 : j < a1.size := by omega
        clear hr hu2 h0
        rcases hcode with rfl | rfl
        all_goals
          go_enter Tryd.func4, Tryd.ntmps4
          go_wp2_with fail
          refine (Pick.pick_any a0 5 _ b0.1 b0.2 (by omega) (by omega)).mono ?_
          rintro e w' ⟨rfl, rfl⟩
          rw [Hpk.out]
          go_wp2_with fail
          rw [Henc.out]
          refine (unpack_any enc (ByteArray.mk #[]) 0 _ (by decide) (by omega) HT.out).mono ?_
          rintro e x1 ⟨rfl, hb1⟩
          rw [HU0.out]
          unfold val3
          go_wp2_with fail
          refine (unpack_any enc a1 (m : Int) _ (by omega) b2 (HT.out.next hb1)).mono ?_
          rintro e x2 ⟨rfl, hb2⟩
          have hb12 := hb1.trans (hb2.mono hb1.size)
          have z1 := hb12.size
          rw [HU.out]
          unfold val3
          go_wp2_with fail
          refine (width_any enc (m : Int) _ b2).mono ?_
          rintro e x3 ⟨rfl, hx3⟩
          rw [hx3, HW.out]
          clear hx3 x3
          go_wp2_with fail
          have f1 : (0 : Int) ≤ (j : Int) := by omega
          have f2 : (j : Int) < (a1.size : Int) := by omega
          have f3 : (j : Int) ≤ (a1.size : Int) := by omega
          have f4 : (0 : Int) ≤ (j : Int) + 1 := by omega
          have f5 : (j : Int) + 1 ≤ (a1.size : Int) := by omega
          have f6 : IntKind.i64.wrap ((j : Int) + 1) = (j : Int) + 1 := wrap_i64 _ (by omega) (by omega)
          go_quiet ((go_at_call 12; exact Calls.quiet_of_same (turned_any _ _ _ _ _ ⟨he.1, h4⟩ b2)))
          have hb13 := below_drewN hb12 nq
          obtain ⟨x4, hx4⟩ : ∃ x4, x2.drewN nq = x4 := ⟨_, rfl⟩
          rw [hx4] at hb13 ⊢
          clear hx4
          have z3 := hb13.size
          go_wp2_with fail
          rw [HX.out]
          refine (unpack_any enc X (m : Int) _ (by omega) b2 (HT.out.next hb13)).mono ?_
          rintro e x5 ⟨rfl, hb5⟩
          rw [HU2.out]
          unfold val3
          have hb15 := hb13.trans (hb5.mono z3)
          by_cases hf : f = 0
          · subst hf
            go_wp2
            go_ret
            exact ⟨by simp, hb15⟩
          · have hz : (j : Int) < z' := by omega
            have qf : (f == 0) = false := beq_eq_false_iff_ne.mpr hf
            clear hf hor
            go_wp2
            go_ret
            exact ⟨by simp, hb15⟩

theorem short1 {H : Type} {a0 : Int} {a1 : ByteArray} {a2 : Int} (hk : Rows.uptoSmall H [DataW.lit (H := H) (.int .i64 a0), .lit (.string a1.data.toList), .lit (.int .i64 a2)] = true) : a1.size ≤ 1048576 := by
  have h : Rows.uptoBulkAll [DataW.lit (H := H) (.int .i64 a0), .lit (.string a1.data.toList), .lit (.int .i64 a2)] ≤ 1048576 := of_decide_eq_true hk
  simp only [Rows.uptoBulkAll, Rows.uptoBulk] at h
  have e : a1.data.toList.length = a1.size := by rw [Array.length_toList]; rfl
  omega

theorem contract (H : Type) (enc : TypeId × Value → H) (W : World) (base : Nat) (args : Array Value) (ds gs : List (DataW H)) (before : List MemPlace)
    (hval : ∀ (j : Nat) t v, Tryd.f4.params[j]? = some t → args[j]? = some v → Value.okWide Tryd.prog W .any base t v)
    (hW : DataW.Whole enc Tryd.prog Tryd.f4.params.toList Rows.digitsFormsSpec.vars false W args.toList ds gs before) (hL : laidMetH Tryd.prog Rows.digitsFormsUptoRow.laid W) (hk : Rows.uptoSmall H (ds ++ gs) = true) :
    Calls Tryd.prog 4 args W fun e W' => ∃ v, e = .returned v ∧ Rows.digitsFormsSpec.post enc Tryd.prog Tryd.f4 false true false false W args v W' := by
  have hW' := hW
  obtain ⟨p, q, hA0, hV, rfl, hfz, hnd⟩ := hW
  have hA : DataW.TrodAll enc Tryd.prog W 0 (fun _ => true) true Tryd.f4.params.toList args.toList ds p := hA0
  rw [Tryd.params4] at hA hval
  obtain ⟨v0, vs0, d0, ds0, p0, q0, hargs, rfl, rfl, h0, r0⟩ := trodAll_cons hA
  obtain ⟨v1, vs1, d1, ds1, p1, q1, rfl, rfl, rfl, h1, r1⟩ := trodAll_cons r0
  obtain ⟨v2, vs2, d2, ds2, p2, q2, rfl, rfl, rfl, h2, r2⟩ := trodAll_cons r1
  obtain ⟨rfl, rfl, rfl⟩ := trodAll_nil r2
  obtain rfl : args = #[v0, v1, v2] := by cases args; simp_all
  obtain ⟨rfl, rfl⟩ := trodVars_none hV
  obtain ⟨a0, rfl, rfl, rfl, w0⟩ := open_int Tryd.underlying3 (hval 0 3 v0 rfl rfl) h0
  obtain ⟨a1, rfl, rfl, rfl, w1⟩ := open_string Tryd.underlying9 (hval 1 9 v1 rfl rfl) h1
  obtain ⟨a2, rfl, rfl, rfl, w2⟩ := open_int Tryd.underlying3 (hval 2 3 v2 rfl rfl) h2
  clear hA0
  simp only [List.append_nil] at hk
  refine (walk a0 a1 a2 w0 w1 w2 (short1 hk) W hL).mono fun e W' ⟨he, bel⟩ => ?_
  subst he
  exact ⟨_, rfl, _, _, _, [], _, [], hW', trodAll_mk1 (shut_bool Tryd.underlying4 _), (trodAll_cons_mk (shut_int Tryd.underlying3 w0) (trodAll_cons_mk (shut_string Tryd.underlying9 w1) (trodAll_cons_mk (shut_int Tryd.underlying3 w2) trodAll_mk0))), rfl, bel.frame _, fun h => by cases h⟩

theorem laid_met (os : Os) : laidMet Tryd.prog Rows.digitsFormsUptoRow.laid (({ World.holding Tryd.prog os ⟨#[], #[], []⟩ with heap := ((World.holding Tryd.prog os ⟨#[], #[], []⟩).heap.modify 0 fun | .cells _ t frozen => .cells #[.int .u8 64, .int .u8 90, .int .u8 127, .int .u8 123, .int .u8 91, .int .u8 108, .int .u8 80, .int .u8 125, .int .u8 77, .int .u8 93, .int .u8 92, .int .u8 78, .int .u8 107, .int .u8 96, .int .u8 75, .int .u8 97, .int .u8 240, .int .u8 241, .int .u8 242, .int .u8 243, .int .u8 244, .int .u8 245, .int .u8 246, .int .u8 247, .int .u8 248, .int .u8 249, .int .u8 122, .int .u8 94, .int .u8 76, .int .u8 126, .int .u8 110, .int .u8 111, .int .u8 124, .int .u8 193, .int .u8 194, .int .u8 195, .int .u8 196, .int .u8 197, .int .u8 198, .int .u8 199, .int .u8 200, .int .u8 201, .int .u8 209, .int .u8 210, .int .u8 211, .int .u8 212, .int .u8 213, .int .u8 214, .int .u8 215, .int .u8 216, .int .u8 217, .int .u8 226, .int .u8 227, .int .u8 228, .int .u8 229, .int .u8 230, .int .u8 231, .int .u8 232, .int .u8 233, .int .u8 186, .int .u8 224, .int .u8 187, .int .u8 176, .int .u8 109, .int .u8 121, .int .u8 129, .int .u8 130, .int .u8 131, .int .u8 132, .int .u8 133, .int .u8 134, .int .u8 135, .int .u8 136, .int .u8 137, .int .u8 145, .int .u8 146, .int .u8 147, .int .u8 148, .int .u8 149, .int .u8 150, .int .u8 151, .int .u8 152, .int .u8 153, .int .u8 162, .int .u8 163, .int .u8 164, .int .u8 165, .int .u8 166, .int .u8 167, .int .u8 168, .int .u8 169, .int .u8 192, .int .u8 79, .int .u8 208, .int .u8 161] t frozen | o => o) } : World).forCall (fun _ _ => 0) ⟨#[], #[.int .i64 0, .string .empty, .int .i64 0], []⟩).memory :=
  laidMet_of_run' 8 (by kernel_rfl) (by kernel_rfl)
theorem reads (os : Os) {H : Type} (enc : TypeId × Value → H) : ∃ places, DataW.whole enc Tryd.prog (({ World.holding Tryd.prog os ⟨#[], #[], []⟩ with heap := ((World.holding Tryd.prog os ⟨#[], #[], []⟩).heap.modify 0 fun | .cells _ t frozen => .cells #[.int .u8 64, .int .u8 90, .int .u8 127, .int .u8 123, .int .u8 91, .int .u8 108, .int .u8 80, .int .u8 125, .int .u8 77, .int .u8 93, .int .u8 92, .int .u8 78, .int .u8 107, .int .u8 96, .int .u8 75, .int .u8 97, .int .u8 240, .int .u8 241, .int .u8 242, .int .u8 243, .int .u8 244, .int .u8 245, .int .u8 246, .int .u8 247, .int .u8 248, .int .u8 249, .int .u8 122, .int .u8 94, .int .u8 76, .int .u8 126, .int .u8 110, .int .u8 111, .int .u8 124, .int .u8 193, .int .u8 194, .int .u8 195, .int .u8 196, .int .u8 197, .int .u8 198, .int .u8 199, .int .u8 200, .int .u8 201, .int .u8 209, .int .u8 210, .int .u8 211, .int .u8 212, .int .u8 213, .int .u8 214, .int .u8 215, .int .u8 216, .int .u8 217, .int .u8 226, .int .u8 227, .int .u8 228, .int .u8 229, .int .u8 230, .int .u8 231, .int .u8 232, .int .u8 233, .int .u8 186, .int .u8 224, .int .u8 187, .int .u8 176, .int .u8 109, .int .u8 121, .int .u8 129, .int .u8 130, .int .u8 131, .int .u8 132, .int .u8 133, .int .u8 134, .int .u8 135, .int .u8 136, .int .u8 137, .int .u8 145, .int .u8 146, .int .u8 147, .int .u8 148, .int .u8 149, .int .u8 150, .int .u8 151, .int .u8 152, .int .u8 153, .int .u8 162, .int .u8 163, .int .u8 164, .int .u8 165, .int .u8 166, .int .u8 167, .int .u8 168, .int .u8 169, .int .u8 192, .int .u8 79, .int .u8 208, .int .u8 161] t frozen | o => o) } : World).forCall (fun _ _ => 0) ⟨#[], #[.int .i64 0, .string .empty, .int .i64 0], []⟩).memory Tryd.f4.params.toList Rows.digitsFormsSpec.vars false (#[.int .i64 0, .string .empty, .int .i64 0] : Array Value).toList 8 = some ([.lit (.int .i64 0), .lit (.string []), .lit (.int .i64 0)], [], places) :=
  ⟨[], by kernel_rfl⟩
set_option maxRecDepth 100000 in
theorem lifted (os : Os) (started : os.Started) (H : Type) (enc : TypeId × Value → H) (F : Stop.Interp) :
    ReturnsInHanded {} Tryd.checked os 4 .any ((Rows.OpenSpec.upto Rows.digitsFormsSpec).preRow enc Tryd.prog Tryd.f4 Rows.digitsFormsUptoRow.domain false Rows.digitsFormsUptoRow.laid) (((Rows.OpenSpec.upto Rows.digitsFormsSpec).at F).post enc Tryd.prog Tryd.f4 false true false false) := by
  obtain ⟨places, hx⟩ := reads os enc
  refine returnsInHanded_of_row (C := Tryd.checked) (s := Rows.OpenSpec.upto Rows.digitsFormsSpec) own started (by kernel_rfl) Tryd.func4
    (witness_row_at (enc := enc) (C := Tryd.checked) false ({ World.holding Tryd.prog os ⟨#[], #[], []⟩ with heap := ((World.holding Tryd.prog os ⟨#[], #[], []⟩).heap.modify 0 fun | .cells _ t frozen => .cells #[.int .u8 64, .int .u8 90, .int .u8 127, .int .u8 123, .int .u8 91, .int .u8 108, .int .u8 80, .int .u8 125, .int .u8 77, .int .u8 93, .int .u8 92, .int .u8 78, .int .u8 107, .int .u8 96, .int .u8 75, .int .u8 97, .int .u8 240, .int .u8 241, .int .u8 242, .int .u8 243, .int .u8 244, .int .u8 245, .int .u8 246, .int .u8 247, .int .u8 248, .int .u8 249, .int .u8 122, .int .u8 94, .int .u8 76, .int .u8 126, .int .u8 110, .int .u8 111, .int .u8 124, .int .u8 193, .int .u8 194, .int .u8 195, .int .u8 196, .int .u8 197, .int .u8 198, .int .u8 199, .int .u8 200, .int .u8 201, .int .u8 209, .int .u8 210, .int .u8 211, .int .u8 212, .int .u8 213, .int .u8 214, .int .u8 215, .int .u8 216, .int .u8 217, .int .u8 226, .int .u8 227, .int .u8 228, .int .u8 229, .int .u8 230, .int .u8 231, .int .u8 232, .int .u8 233, .int .u8 186, .int .u8 224, .int .u8 187, .int .u8 176, .int .u8 109, .int .u8 121, .int .u8 129, .int .u8 130, .int .u8 131, .int .u8 132, .int .u8 133, .int .u8 134, .int .u8 135, .int .u8 136, .int .u8 137, .int .u8 145, .int .u8 146, .int .u8 147, .int .u8 148, .int .u8 149, .int .u8 150, .int .u8 151, .int .u8 152, .int .u8 153, .int .u8 162, .int .u8 163, .int .u8 164, .int .u8 165, .int .u8 166, .int .u8 167, .int .u8 168, .int .u8 169, .int .u8 192, .int .u8 79, .int .u8 208, .int .u8 161] t frozen | o => o) } : World) #[.int .i64 0, .string .empty, .int .i64 0] rfl (by kernel_rfl) (by kernel_rfl) (by kernel_rfl)
      (OpenSpec.preRow_of_cond 8 hx (by kernel_rfl) (fun k hk => by cases hk; kernel_rfl) (by kernel_rfl) (laid_met os))) ?_
  intro W base args ds gs before hval hW _ hcond _ hL _ _
  exact contract H enc W base args ds gs before hval hW hL (hcond _ rfl)

theorem said : Rows.DigitsFormsUptoSaid :=
  OpenClaim.holds_of_cond 4 Tryd.f4 rfl rfl rfl rfl rfl rfl rfl ⟨rfl, rfl, rfl, rfl, rfl⟩ rfl rfl rfl rfl rfl (by kernel_rfl) Tryd.func4 (by kernel_rfl)
    (of_decide_eq_true (by kernel_rfl)) (by unfold Func.isWrapper; first | (rw [if_pos (by decide +kernel)]; kernel_rfl) | (rw [if_neg (by decide +kernel)]; exact ⟨rfl, rfl⟩))
    (fun os started H enc _ F => by rw [OpenClaim.pre_eq_preRow]; exact lifted os started H enc F)
theorem plain (f : FuncId) (fn : Func) (hf : Tryd.pinned.checked.prog.funcNamed "turnstile/turnstilelaw1.DigitsForms" = some f) (hfn : Tryd.pinned.checked.prog.funcs[f]? = some fn) :
    false = Tryd.pinned.checked.prog.looks [] ∧ ∀ (j : Nat) t, fn.params[j]? = some t → Tryd.pinned.checked.prog.wantsStandIn t = false := by
  obtain rfl : f = 4 := Option.some.inj ((show Tryd.prog.funcNamed "turnstile/turnstilelaw1.DigitsForms" = some 4 by kernel_rfl).symm.trans hf) |>.symm
  obtain rfl : fn = Tryd.f4 := (Option.some.inj (Tryd.func4.symm.trans hfn)).symm
  refine ⟨by kernel_rfl, fun j t ht => ?_⟩
  rw [Tryd.params4] at ht
  have hm : t = 3 ∨ t = 9 := by
    rcases j with _ | _ | _ | j
    all_goals first | (simp at ht; omega) | (simp at ht; exact Or.inl ht.symm) | (simp at ht; exact Or.inr ht.symm) | (simp at ht; exact ht.symm) | (simp at ht; done)
  rcases hm with rfl | rfl
  · exact (show Tryd.prog.wantsStandIn 3 = false by kernel_rfl)
  · exact (show Tryd.prog.wantsStandIn 9 = false by kernel_rfl)

theorem proved : Rows.DigitsFormsUptoCardSaid :=
  Claim7.holds_tied_plain_at .later [] _ _ _ _ said (fun _ h => by cases h) (by kernel_rfl) (fun _ h => by cases h) digitsFormsUpto_row_tie rfl ⟨rfl, rfl⟩ (by kernel_rfl) rfl plain (by kernel_rfl)
#print axioms proved
end Go.Proofs.YtekbonfaaofdiabDoor.digitsForms
