/- DigitsSixteenths: the law out of the contracts; the frame of the row. -/
import Derived.Test.YtekbonfaaofdiacRows
import Derived.WalkKit
import Derived.ProofKit
import Derived.OpenShut
import Derived.ShutString
import Derived.ChangeOld
import Derived.Below
import Derived.JoinedCond
import Derived.Test.YtekbonfaaofdiacHex
import Derived.Test.YtekbonfaaofdiacSixM
namespace Go.Proofs.Ytekbonfaaofdiac.digitsSixteenths
open Go.ChangeShapes Go.WideShapes Go.ChangeAt Go.RowKit
open Go.ChangeMaps (open_string shut_string)
set_option linter.unusedVariables false

theorem own : ownKnob Try.prog.godebug = none := by kernel_rfl

theorem unhex_val (s : ByteArray) (w : World) (hs : s.size ≤ 4194304) :
    Calls Try.prog 6 #[.string s] w fun e w' => e = .returned (SixM.val s.data.toList) ∧ Below w.heap.size w w' := Unh.unhex_any s w hs
theorem size_hex (s : ByteArray) : (ByteArray.mk (Lib0.hexL s.data.toList).toArray).size = 2 * s.size := by
  have := Lib0.hexL_length s.data.toList
  have h2 : (ByteArray.mk (Lib0.hexL s.data.toList).toArray).size = (Lib0.hexL s.data.toList).length := by simp [ByteArray.size]
  rw [h2, this, Unh.len_eq]
theorem size_more (s : ByteArray) : (s ++ ByteArray.mk #[48]).size = s.size + 1 := by rw [ByteArray.size_append]; rfl
theorem size_d (s : ByteArray) : (ByteArray.mk (Six.unhexL s.data.toList).toArray).size = s.size / 2 := by
  have h2 : (ByteArray.mk (Six.unhexL s.data.toList).toArray).size = (Six.unhexL s.data.toList).length := by simp [ByteArray.size]
  rw [h2, SixM.unhexL_length, Unh.len_eq]
theorem size_front (s : ByteArray) (a b : Nat) : (s.extract a b).size ≤ s.size := by rw [ByteArray.size_extract]; omega
set_option maxRecDepth 100000 in
set_option maxHeartbeats 1600000 in
theorem walk (a0 : ByteArray) (a1 : ByteArray) (w0 : a0.size ≤ maxLen) (w1 : a1.size ≤ maxLen) (k0 : a0.size ≤ 1048576) (k1 : a1.size ≤ 1048576) (w : World) :
    Calls Try.prog 3 #[.string a0, .string a1] w fun e w' => e = .returned (.bool true) ∧ Below w.heap.size w w' := by
  obtain ⟨h, Hg, hsz, HH⟩ : ∃ h, Hid (ByteArray.mk (Lib0.hexL a0.data.toList).toArray = h) ∧ h.size = 2 * a0.size ∧ Hid (SixM.val h.data.toList = .tuple #[.string a0, .int .i64 0, .int .i64 0]) := ⟨_, rfl, size_hex a0, SixM.val_hex a0⟩
  have hne : ((h.size : Int) != 2 * (a0.size : Int)) = false := by simp; omega
  have HL : Hid (a1.data.toList.length = a1.size) := Unh.len_eq a1
  go_enter Try.func3, Try.ntmps3
  go_wp2_with fail
  refine (Hex.hex_any a0 _ k0).mono ?_
  rintro e x1 ⟨rfl, hb1⟩
  rw [Hg.out]
  go_wp2_with fail
  refine (unhex_val h _ (by omega)).mono ?_
  rintro e x2 ⟨rfl, hb2⟩
  rw [HH.out]
  go_wp2_with fail
  refine (unhex_val a1 _ (by omega)).mono ?_
  rintro e x3 ⟨rfl, hb3⟩
  have hb123 : Below w.heap.size w x3 := by
    have z1 := hb1.size
    have z2 := hb2.size
    exact hb1.trans ((hb2.mono (by omega)).trans (hb3.mono (by omega)))
  have z3 := hb123.size
  by_cases hc : Lib0.fuL Six.isSix a1.data.toList < a1.size
  · obtain ⟨t, Ht, htl⟩ : ∃ t, Hid (Lib0.fuL Six.isSix a1.data.toList = t) ∧ t < a1.size := ⟨_, rfl, hc⟩
    clear hc
    rw [SixM.val_char _ (by rw [HL.out, Ht.out]; exact htl), Ht.out]
    have hm : (t : Int) % 2 ≤ t := by omega
    go_wp2_with fail
    obtain ⟨y, hy⟩ := SixM.val_front a1 (t - t % 2) (by omega) (by rw [Ht.out]; omega)
    refine (unhex_val (a1.extract 0 (t - t % 2)) _ (by have := size_front a1 0 (t - t % 2); omega)).mono ?_
    rintro e x4 ⟨rfl, hb4⟩
    rw [hy]
    clear hy
    go_wp2_with fail
    refine (unhex_val (a1.extract t (t + 1) ++ ByteArray.mk #[48]) _ (by have := size_front a1 t (t + 1); rw [size_more]; omega)).mono ?_
    rintro e x5 ⟨rfl, hb5⟩
    have z4 := hb4.size
    have hp : Six.isSix a1[t] = false := by
      have := Lib0.fuL_at Six.isSix a1.data.toList (by rw [HL.out, Ht.out]; exact htl)
      have e : a1.data.toList[Lib0.fuL Six.isSix a1.data.toList]'(by rw [HL.out, Ht.out]; exact htl) = a1[t] := by
        simp only [Ht.out]; rfl
      rwa [e] at this
    rw [SixM.val_one a1 t htl hp]
    clear hp
    go_wp2
    go_ret
    exact ⟨by simp, hb123.trans ((hb4.mono z3).trans (hb5.mono (by omega)))⟩
  · have HA : Hid (a1.data.toList.all Six.isSix = true) := Lib0.fuL_eq _ _ (by have := Lib0.fuL_le Six.isSix a1.data.toList; have := HL.out; omega)
    clear hc
    by_cases hodd : a1.size % 2 = 1
    · rw [SixM.val_odd _ HA.out (by rw [HL.out]; exact hodd), HL.out]
      have hev : (((a1.size : Int) % 2) == 1) = true := by simp; omega
      go_wp2_with fail
      obtain ⟨y, hy⟩ := SixM.val_more a1 HA.out hodd
      refine (unhex_val (a1 ++ ByteArray.mk #[48]) _ (by rw [size_more]; omega)).mono ?_
      rintro e x4 ⟨rfl, hb4⟩
      rw [hy]
      clear hy
      go_wp2
      go_ret
      exact ⟨by simp, hb123.trans (hb4.mono z3)⟩
    · obtain ⟨d, Hd, hds, HX⟩ : ∃ d, Hid (ByteArray.mk (Six.unhexL a1.data.toList).toArray = d) ∧ d.size ≤ 1048576 ∧ Hid (ByteArray.mk (Lib0.hexL d.data.toList).toArray = a1) :=
        ⟨_, rfl, by rw [size_d]; omega, by
          show _ = _
          have e : (ByteArray.mk (Six.unhexL a1.data.toList).toArray).data.toList = Six.unhexL a1.data.toList := by simp
          rw [e, SixM.hex_unhex _ HA.out (by rw [HL.out]; omega)]⟩
      rw [SixM.val_yes _ HA.out (by rw [HL.out]; omega), Hd.out]
      go_wp2_with fail
      refine (Hex.hex_any d _ hds).mono ?_
      rintro e x4 ⟨rfl, hb4⟩
      rw [HX.out]
      go_wp2
      go_ret
      exact ⟨by simp, hb123.trans (hb4.mono z3)⟩

theorem short0 {H : Type} {a0 : ByteArray} {a1 : ByteArray} (hk : Rows.uptoSmall H [DataW.lit (H := H) (.string a0.data.toList), .lit (.string a1.data.toList)] = true) : a0.size ≤ 1048576 := by
  have h : Rows.uptoBulkAll [DataW.lit (H := H) (.string a0.data.toList), .lit (.string a1.data.toList)] ≤ 1048576 := of_decide_eq_true hk
  simp only [Rows.uptoBulkAll, Rows.uptoBulk] at h
  have e : a0.data.toList.length = a0.size := by rw [Array.length_toList]; rfl
  omega
theorem short1 {H : Type} {a0 : ByteArray} {a1 : ByteArray} (hk : Rows.uptoSmall H [DataW.lit (H := H) (.string a0.data.toList), .lit (.string a1.data.toList)] = true) : a1.size ≤ 1048576 := by
  have h : Rows.uptoBulkAll [DataW.lit (H := H) (.string a0.data.toList), .lit (.string a1.data.toList)] ≤ 1048576 := of_decide_eq_true hk
  simp only [Rows.uptoBulkAll, Rows.uptoBulk] at h
  have e : a1.data.toList.length = a1.size := by rw [Array.length_toList]; rfl
  omega

theorem contract (H : Type) (enc : TypeId × Value → H) (W : World) (base : Nat) (args : Array Value) (ds gs : List (DataW H)) (before : List MemPlace)
    (hval : ∀ (j : Nat) t v, Try.f3.params[j]? = some t → args[j]? = some v → Value.okWide Try.prog W .any base t v)
    (hW : DataW.Whole enc Try.prog Try.f3.params.toList Rows.digitsSixteenthsSpec.vars false W args.toList ds gs before) (hk : Rows.uptoSmall H (ds ++ gs) = true) :
    Calls Try.prog 3 args W fun e W' => ∃ v, e = .returned v ∧ Rows.digitsSixteenthsSpec.post enc Try.prog Try.f3 false true false false W args v W' := by
  have hW' := hW
  obtain ⟨p, q, hA0, hV, rfl, hfz, hnd⟩ := hW
  have hA : DataW.TrodAll enc Try.prog W 0 (fun _ => true) true Try.f3.params.toList args.toList ds p := hA0
  rw [Try.params3] at hA hval
  obtain ⟨v0, vs0, d0, ds0, p0, q0, hargs, rfl, rfl, h0, r0⟩ := trodAll_cons hA
  obtain ⟨v1, vs1, d1, ds1, p1, q1, rfl, rfl, rfl, h1, r1⟩ := trodAll_cons r0
  obtain ⟨rfl, rfl, rfl⟩ := trodAll_nil r1
  obtain rfl : args = #[v0, v1] := by cases args; simp_all
  obtain ⟨rfl, rfl⟩ := trodVars_none hV
  obtain ⟨a0, rfl, rfl, rfl, w0⟩ := open_string Try.underlying9 (hval 0 9 v0 rfl rfl) h0
  obtain ⟨a1, rfl, rfl, rfl, w1⟩ := open_string Try.underlying9 (hval 1 9 v1 rfl rfl) h1
  clear hA0
  simp only [List.append_nil] at hk
  refine (walk a0 a1 w0 w1 (short0 hk) (short1 hk) W).mono fun e W' ⟨he, bel⟩ => ?_
  subst he
  exact ⟨_, rfl, _, _, _, [], _, [], hW', trodAll_mk1 (shut_bool Try.underlying4 _), (trodAll_cons_mk (shut_string Try.underlying9 w0) (trodAll_cons_mk (shut_string Try.underlying9 w1) trodAll_mk0)), rfl, bel.frame _, fun h => by cases h⟩

set_option maxRecDepth 100000 in
theorem lifted (os : Os) (started : os.Started) (H : Type) (enc : TypeId × Value → H) (F : Stop.Interp) :
    ReturnsInHanded {} Try.checked os 3 .any ((Rows.OpenSpec.upto Rows.digitsSixteenthsSpec).pre6 enc Try.prog Try.f3 Rows.digitsSixteenthsUptoRow.domain false) (((Rows.OpenSpec.upto Rows.digitsSixteenthsSpec).at F).post enc Try.prog Try.f3 false true false false) := by
  refine returnsInHanded_of_cond (C := Try.checked) (s := Rows.OpenSpec.upto Rows.digitsSixteenthsSpec) (k := Rows.uptoSmall) rfl own started (by kernel_rfl) Try.func3
    (OpenSpec.witness (enc := enc) (C := Try.checked) (s := Rows.OpenSpec.upto Rows.digitsSixteenthsSpec) (k := Rows.uptoSmall) rfl false ⟨#[], #[.string .empty, .string .empty], []⟩ 8 (by kernel_rfl) (by kernel_rfl) (by kernel_rfl)
      (x := ([.lit (.string []), .lit (.string [])], [], [])) (by kernel_rfl) rfl (by kernel_rfl)) ?_
  intro W base args ds gs before hval hW _ hk _
  exact contract H enc W base args ds gs before hval hW hk

theorem proved : Rows.DigitsSixteenthsUptoSaid :=
  OpenClaim.holds_of_cond 3 Try.f3 rfl rfl rfl rfl rfl rfl rfl ⟨rfl, rfl, rfl, rfl, rfl⟩ rfl rfl rfl rfl rfl (by kernel_rfl) Try.func3 (by kernel_rfl)
    (of_decide_eq_true (by kernel_rfl)) (by unfold Func.isWrapper; first | (rw [if_pos (by decide +kernel)]; kernel_rfl) | (rw [if_neg (by decide +kernel)]; exact ⟨rfl, rfl⟩))
    (fun os started H enc _ F => lifted os started H enc F)
#print axioms proved
end Go.Proofs.Ytekbonfaaofdiac.digitsSixteenths
