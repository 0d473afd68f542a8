/- SealOwn: the law out of the contracts; the frame of the row. -/
import Derived.Test.YtpifebapodfeaabRows
import Derived.WalkKit
import Derived.ProofKit
import Derived.OpenShut
import Derived.ShutString
import Derived.ChangeOld
import Derived.Below
import Derived.JoinedCond
import Derived.Carry
import Derived.SizedLaws
import Derived.Test.YtpifebapodfeaabOw
namespace Go.Proofs.Ytpifebapodfeaab.sealOwn
open Go.ChangeShapes Go.WideShapes Go.ChangeAt Go.RowKit
open Go.ChangeMaps (open_string shut_string)
set_option linter.unusedVariables false

theorem own : ownKnob Try.prog.godebug = none := by kernel_rfl

set_option maxRecDepth 100000 in
set_option maxHeartbeats 1600000 in
theorem walk (a0 : Int) (a1 : Int) (a2 : ByteArray) (a3 : ByteArray) (a4 : Int) (a5 : Int) (w : World) (w0 : (Lit.int .i64 a0).wf = true) (w1 : (Lit.int .i64 a1).wf = true) (w2 : a2.size ≤ maxLen) (w3 : a3.size ≤ maxLen) (w4 : (Lit.int .i64 a4).wf = true) (w5 : (Lit.int .u8 a5).wf = true) (k2 : a2.size ≤ 1048576) (k3 : a3.size ≤ 1048576) :
    Calls Try.prog 3 #[.int .i64 a0, .int .i64 a1, .string a2, .string a3, .int .i64 a4, .int .u8 a5] w fun e w' => e = .returned (.bool true) ∧ Below w.heap.size w w' := by
  obtain ⟨p0, alg, l0, l1, hal, hA, PK⟩ := Ft.pick_alg a0 w0
  obtain ⟨p1, m, l2, l3, hm, hM, PM⟩ := Ft.pick_met a1 w1
  obtain ⟨i, hi, PI⟩ := Ft.pick_nat a4 w4 8 (by decide) (by decide)
  obtain ⟨c, rfl⟩ := Ow.u8_wf w5
  clear w5
  rw [show ((8 : Nat) : Int) = 8 from rfl] at PI
  obtain ⟨v0, hv0⟩ : ∃ c' : UInt8, c' = (if c = 0 then 1 else c) := ⟨_, rfl⟩
  have hc0 : v0 ≠ 0 := by rw [hv0]; split <;> simp_all
  by_cases hc : c = 0
  · have qc : ((c.toNat : Int) == 0) = true := by rw [hc]; rfl
    obtain rfl : v0 = 1 := by rw [hv0, if_pos hc]
    clear hv0 hc
    have FI := fun y => Ft.fitted_any a2 (4 + 4 * alg) (by omega) (by omega) y
    have TG := fun (r : ByteArray) (hr : r.size = 4 + 4 * alg) y => Tg.Tag_good alg m hal hm r hr a3 (by omega) y
    have NS := fun y => Sr.new_good 2 (by decide) (by decide) y
    have PU := fun (r : ByteArray) (hr : r.size = 4 + 4 * alg) b d y hS => Sr.Put_good b d 2 1 Sr.emp (by decide) alg m hal hm r ⟨#[]⟩ hr (.inl rfl) y hS
    have TI := fun (r : ByteArray) b d y hS => Sd.Tag_in b d 2 1 (Sr.upd Sr.emp 1 (Option.some ⟨alg, m, r, ⟨#[]⟩, 0⟩)) ⟨alg, m, r, ⟨#[]⟩, 0⟩ (by decide) (by simp [Sr.upd]) a3 (by omega) y hS
    have RI := fun (r t : ByteArray) b d y hS => Sq.Right_in b d 2 1 (Sr.upd Sr.emp 1 (Option.some ⟨alg, m, r, ⟨#[]⟩, 0⟩)) ⟨alg, m, r, ⟨#[]⟩, 0⟩ (by decide) (by simp [Sr.upd]) a3 t (by omega) y hS
    have RN := fun (r t : ByteArray) b d y hS => Sq.Right_no b d 2 (Sr.upd Sr.emp 1 (Option.some ⟨alg, m, r, ⟨#[]⟩, 0⟩)) 0 (.inr (.inr ⟨0, rfl, by decide, by simp [Sr.upd, Sr.emp]⟩)) a3 t y hS
    have hZ : 4 + 4 * (alg : Int) = ((4 + 4 * alg : Nat) : Int) := by omega
    have hal2 : (1 : Int) ≤ (alg : Int) ∧ (alg : Int) ≤ 3 := by omega
    have hm2 : (1 : Int) ≤ (m : Int) ∧ (m : Int) ≤ 2 := by omega
    obtain ⟨g1, g2⟩ := hal2
    obtain ⟨g3, g4⟩ := hm2
    generalize (4 + 4 * alg) = Z at *
    generalize hAl : (alg : Int) = Al at *
    generalize hMe : (m : Int) = Me at *
    clear hal hm hAl hMe w0 w1 w2 w3 w4 k2 k3
    go_enter Try.func3, Try.ntmps3
    go_wp2_with (first
      | (go_at_call_of 5 (Value.int .i64 a0); refine (PK _).mono ?_; rintro e x1 ⟨rfl, h1⟩; rw [h1])
      | (go_at_call_of 5 (Value.int .i64 a1); refine (PM _).mono ?_; rintro e x2 ⟨rfl, h2⟩; rw [h2])
      | (go_at_call_of 5 (Value.int .i64 a4); refine (PI _).mono ?_; rintro e x9 ⟨rfl, h9⟩; rw [h9])
      | (go_at_call 6; refine (FI _).mono ?_; rintro e x3 ⟨r, rfl, hr, h3⟩; have TG := TG r hr; have PU := PU r hr; have TI := TI r; have RI := RI r; have RN := RN r; have sT : ((Sp.tagB alg m r a3).size : Int) = 8 := (by rw [Sp.tagB_size]; rfl))
      | (go_at_call 7; refine (NS _).mono ?_; rintro e x4 ⟨b, d, rfl, lb, ld, hS, h4⟩)
      | (go_at_call 8; refine (PU b d _ hS).mono ?_; rintro e x5 ⟨rfl, hS5, f5⟩)
      | (go_at_call 9; refine (TI b d _ hS5).mono ?_; rintro e x6 ⟨rfl, hS6, f6⟩)
      | (go_at_call 10; refine (TG _).mono ?_; rintro e x7 ⟨rfl, h7⟩; have hS7 := Ow.slots_below h7 hS6))
    obtain ⟨T, hT⟩ : ∃ T, T = Sp.tagB alg m r a3 := ⟨_, rfl⟩
    have sTn : T.size = 8 := by rw [hT, Sp.tagB_size]
    have RI := fun (t : ByteArray) y hS => RI t b d y hS
    have RN := fun (t : ByteArray) y hS => RN t b d y hS
    simp only [← hT] at RI ⊢
    generalize Sr.upd Sr.emp 1 (Option.some ⟨alg, m, r, ⟨#[]⟩, 0⟩) = f' at *
    have hiT : i < T.size := by omega
    obtain ⟨v, hv⟩ : ∃ v : UInt8, v = T[i] ^^^ 1 := ⟨_, rfl⟩
    have hvn : v ≠ T[i] := by rw [hv]; exact Ow.xor_ne _ _ hc0
    have u1 : bits .xor .u8 (T[i].toNat : Int) 1 = (v.toNat : Int) := by rw [hv]; have := Sa.xor8 T[i] 1; exact this
    have N1 := Ow.bad_ne T i hiT v hvn
    have N2 : (T.toList == (T ++ T.extract 0 1).toList) = false := Ow.size_ne _ _ (by rw [ByteArray.size_append, ByteArray.size_extract, sTn]; omega)
    have N3 : (T.toList == (T.extract 0 i).toList) = false := Ow.size_ne _ _ (by rw [ByteArray.size_extract, sTn]; omega)
    have sz1 : (T.extract 0 i).size = i := by rw [ByteArray.size_extract]; omega
    have sz2 : (T.extract (i + 1) T.size).size = 8 - (i + 1) := by rw [ByteArray.size_extract]; omega
    have hcv := Ow.conv1 x7 v
    have b7 : Below x7.heap.size x7 ((x7.alloc (Obj.cells #[.int .u8 (v.toNat : Int)] 5)).drew) := (Cb.below_one x7 _).drew
    have q0 : (0 : Int) ≤ (i : Int) := by omega
    have q1 : (i : Int) < (T.size : Int) := by omega
    have q2 : (i : Int) ≤ (T.size : Int) := by omega
    have q3 : (i : Int) + 1 ≤ (T.size : Int) := by omega
    have q4 : (i : Int) ≤ 7 := by omega
    have q5 : (1 : Int) ≤ (T.size : Int) := by omega
    have c1 : ¬ 9223372036854775807 < (T.extract 0 i).size + (ByteArray.mk #[v]).size := by rw [sz1]; show ¬ 9223372036854775807 < i + 1; omega
    have c2 : ¬ 9223372036854775807 < (T.extract 0 i ++ ByteArray.mk #[v]).size + (T.extract (i + 1) T.size).size := by rw [ByteArray.size_append, sz1, sz2]; show ¬ 9223372036854775807 < i + 1 + _; omega
    have c3 : ¬ 9223372036854775807 < T.size + (T.extract 0 1).size := by rw [ByteArray.size_extract, sTn]; omega
    have L1 := lb
    have L2 := ld
    have hS7h : Hid (Sd.Slots x7 b d 2 f') := hS7
    have HT : Hid (T = Sp.tagB alg m r a3) := hT
    have sTh : Hid (T.size = 8) := sTn
    clear hT TG TI PU hv hvn sz1 sz2 FI NS PK PM PI hS hS5 hS6 hS7 sTn sT
    go_region
    have hS8 := Ow.slots_below b7 hS7h.out
    generalize (x7.alloc (Obj.cells #[.int .u8 (v.toNat : Int)] 5)).drew = W8 at *
    generalize T.extract 0 i ++ ByteArray.mk #[v] ++ T.extract (i + 1) T.size = BD at *
    clear hcv
    go_wp2_with (first
      | (go_at_call_of 11 (Value.int .i64 0); refine (RN T _ hS12).mono ?_; rintro e y5 ⟨rfl, hS13, f13⟩)
      | (go_at_call_of 11 (Value.string BD); refine (RI BD _ hS9).mono ?_; rintro e y2 ⟨rfl, hS10, f10⟩)
      | (go_at_call_of 11 (Value.string (T ++ T.extract 0 1)); refine (RI (T ++ T.extract 0 1) _ hS10).mono ?_; rintro e y3 ⟨rfl, hS11, f11⟩)
      | (go_at_call_of 11 (Value.string (T.extract 0 i)); refine (RI (T.extract 0 i) _ hS11).mono ?_; rintro e y4 ⟨rfl, hS12, f12⟩)
      | (go_at_call 11; refine (RI T _ hS8).mono ?_; rintro e y1 ⟨rfl, hS9, f9⟩))
    go_ret
    have FF := ((((((f5.trans f6).trans (Sd.Fr.of h7)).trans (Sd.Fr.of b7)).trans f9).trans f10).trans f11).trans (f12.trans f13)
    have hw := h3.size
    have hw2 := h4.size
    have b34 := Cb.keepB h3 h4
    exact ⟨by simp, b34.trans (FF.below (by omega) (by omega) (by omega))⟩
  · have qc : ((c.toNat : Int) == 0) = false := by
      simp only [beq_eq_false_iff_ne]
      intro e
      exact hc (UInt8.toNat_inj.1 (by simpa using e))
    obtain rfl : v0 = c := by rw [hv0, if_neg hc]
    clear hv0 hc
    have FI := fun y => Ft.fitted_any a2 (4 + 4 * alg) (by omega) (by omega) y
    have TG := fun (r : ByteArray) (hr : r.size = 4 + 4 * alg) y => Tg.Tag_good alg m hal hm r hr a3 (by omega) y
    have NS := fun y => Sr.new_good 2 (by decide) (by decide) y
    have PU := fun (r : ByteArray) (hr : r.size = 4 + 4 * alg) b d y hS => Sr.Put_good b d 2 1 Sr.emp (by decide) alg m hal hm r ⟨#[]⟩ hr (.inl rfl) y hS
    have TI := fun (r : ByteArray) b d y hS => Sd.Tag_in b d 2 1 (Sr.upd Sr.emp 1 (Option.some ⟨alg, m, r, ⟨#[]⟩, 0⟩)) ⟨alg, m, r, ⟨#[]⟩, 0⟩ (by decide) (by simp [Sr.upd]) a3 (by omega) y hS
    have RI := fun (r t : ByteArray) b d y hS => Sq.Right_in b d 2 1 (Sr.upd Sr.emp 1 (Option.some ⟨alg, m, r, ⟨#[]⟩, 0⟩)) ⟨alg, m, r, ⟨#[]⟩, 0⟩ (by decide) (by simp [Sr.upd]) a3 t (by omega) y hS
    have RN := fun (r t : ByteArray) b d y hS => Sq.Right_no b d 2 (Sr.upd Sr.emp 1 (Option.some ⟨alg, m, r, ⟨#[]⟩, 0⟩)) 0 (.inr (.inr ⟨0, rfl, by decide, by simp [Sr.upd, Sr.emp]⟩)) a3 t y hS
    have hZ : 4 + 4 * (alg : Int) = ((4 + 4 * alg : Nat) : Int) := by omega
    have hal2 : (1 : Int) ≤ (alg : Int) ∧ (alg : Int) ≤ 3 := by omega
    have hm2 : (1 : Int) ≤ (m : Int) ∧ (m : Int) ≤ 2 := by omega
    obtain ⟨g1, g2⟩ := hal2
    obtain ⟨g3, g4⟩ := hm2
    generalize (4 + 4 * alg) = Z at *
    generalize hAl : (alg : Int) = Al at *
    generalize hMe : (m : Int) = Me at *
    clear hal hm hAl hMe w0 w1 w2 w3 w4 k2 k3
    go_enter Try.func3, Try.ntmps3
    go_wp2_with (first
      | (go_at_call_of 5 (Value.int .i64 a0); refine (PK _).mono ?_; rintro e x1 ⟨rfl, h1⟩; rw [h1])
      | (go_at_call_of 5 (Value.int .i64 a1); refine (PM _).mono ?_; rintro e x2 ⟨rfl, h2⟩; rw [h2])
      | (go_at_call_of 5 (Value.int .i64 a4); refine (PI _).mono ?_; rintro e x9 ⟨rfl, h9⟩; rw [h9])
      | (go_at_call 6; refine (FI _).mono ?_; rintro e x3 ⟨r, rfl, hr, h3⟩; have TG := TG r hr; have PU := PU r hr; have TI := TI r; have RI := RI r; have RN := RN r; have sT : ((Sp.tagB alg m r a3).size : Int) = 8 := (by rw [Sp.tagB_size]; rfl))
      | (go_at_call 7; refine (NS _).mono ?_; rintro e x4 ⟨b, d, rfl, lb, ld, hS, h4⟩)
      | (go_at_call 8; refine (PU b d _ hS).mono ?_; rintro e x5 ⟨rfl, hS5, f5⟩)
      | (go_at_call 9; refine (TI b d _ hS5).mono ?_; rintro e x6 ⟨rfl, hS6, f6⟩)
      | (go_at_call 10; refine (TG _).mono ?_; rintro e x7 ⟨rfl, h7⟩; have hS7 := Ow.slots_below h7 hS6))
    obtain ⟨T, hT⟩ : ∃ T, T = Sp.tagB alg m r a3 := ⟨_, rfl⟩
    have sTn : T.size = 8 := by rw [hT, Sp.tagB_size]
    have RI := fun (t : ByteArray) y hS => RI t b d y hS
    have RN := fun (t : ByteArray) y hS => RN t b d y hS
    simp only [← hT] at RI ⊢
    generalize Sr.upd Sr.emp 1 (Option.some ⟨alg, m, r, ⟨#[]⟩, 0⟩) = f' at *
    have hiT : i < T.size := by omega
    obtain ⟨v, hv⟩ : ∃ v : UInt8, v = T[i] ^^^ v0 := ⟨_, rfl⟩
    have hvn : v ≠ T[i] := by rw [hv]; exact Ow.xor_ne _ _ hc0
    have u1 : bits .xor .u8 (T[i].toNat : Int) (v0.toNat : Int) = (v.toNat : Int) := by rw [hv]; have := Sa.xor8 T[i] v0; exact this
    have N1 := Ow.bad_ne T i hiT v hvn
    have N2 : (T.toList == (T ++ T.extract 0 1).toList) = false := Ow.size_ne _ _ (by rw [ByteArray.size_append, ByteArray.size_extract, sTn]; omega)
    have N3 : (T.toList == (T.extract 0 i).toList) = false := Ow.size_ne _ _ (by rw [ByteArray.size_extract, sTn]; omega)
    have sz1 : (T.extract 0 i).size = i := by rw [ByteArray.size_extract]; omega
    have sz2 : (T.extract (i + 1) T.size).size = 8 - (i + 1) := by rw [ByteArray.size_extract]; omega
    have hcv := Ow.conv1 x7 v
    have b7 : Below x7.heap.size x7 ((x7.alloc (Obj.cells #[.int .u8 (v.toNat : Int)] 5)).drew) := (Cb.below_one x7 _).drew
    have q0 : (0 : Int) ≤ (i : Int) := by omega
    have q1 : (i : Int) < (T.size : Int) := by omega
    have q2 : (i : Int) ≤ (T.size : Int) := by omega
    have q3 : (i : Int) + 1 ≤ (T.size : Int) := by omega
    have q4 : (i : Int) ≤ 7 := by omega
    have q5 : (1 : Int) ≤ (T.size : Int) := by omega
    have c1 : ¬ 9223372036854775807 < (T.extract 0 i).size + (ByteArray.mk #[v]).size := by rw [sz1]; show ¬ 9223372036854775807 < i + 1; omega
    have c2 : ¬ 9223372036854775807 < (T.extract 0 i ++ ByteArray.mk #[v]).size + (T.extract (i + 1) T.size).size := by rw [ByteArray.size_append, sz1, sz2]; show ¬ 9223372036854775807 < i + 1 + _; omega
    have c3 : ¬ 9223372036854775807 < T.size + (T.extract 0 1).size := by rw [ByteArray.size_extract, sTn]; omega
    have L1 := lb
    have L2 := ld
    have hS7h : Hid (Sd.Slots x7 b d 2 f') := hS7
    have HT : Hid (T = Sp.tagB alg m r a3) := hT
    have sTh : Hid (T.size = 8) := sTn
    clear hT TG TI PU hv hvn sz1 sz2 FI NS PK PM PI hS hS5 hS6 hS7 sTn sT
    go_region
    have hS8 := Ow.slots_below b7 hS7h.out
    generalize (x7.alloc (Obj.cells #[.int .u8 (v.toNat : Int)] 5)).drew = W8 at *
    generalize T.extract 0 i ++ ByteArray.mk #[v] ++ T.extract (i + 1) T.size = BD at *
    clear hcv
    go_wp2_with (first
      | (go_at_call_of 11 (Value.int .i64 0); refine (RN T _ hS12).mono ?_; rintro e y5 ⟨rfl, hS13, f13⟩)
      | (go_at_call_of 11 (Value.string BD); refine (RI BD _ hS9).mono ?_; rintro e y2 ⟨rfl, hS10, f10⟩)
      | (go_at_call_of 11 (Value.string (T ++ T.extract 0 1)); refine (RI (T ++ T.extract 0 1) _ hS10).mono ?_; rintro e y3 ⟨rfl, hS11, f11⟩)
      | (go_at_call_of 11 (Value.string (T.extract 0 i)); refine (RI (T.extract 0 i) _ hS11).mono ?_; rintro e y4 ⟨rfl, hS12, f12⟩)
      | (go_at_call 11; refine (RI T _ hS8).mono ?_; rintro e y1 ⟨rfl, hS9, f9⟩))
    go_ret
    have FF := ((((((f5.trans f6).trans (Sd.Fr.of h7)).trans (Sd.Fr.of b7)).trans f9).trans f10).trans f11).trans (f12.trans f13)
    have hw := h3.size
    have hw2 := h4.size
    have b34 := Cb.keepB h3 h4
    exact ⟨by simp, b34.trans (FF.below (by omega) (by omega) (by omega))⟩

set_option maxRecDepth 100000 in
theorem contract (H : Type) (enc : TypeId × Value → H) (W : World) (base : Nat) (args : Array Value) (ds gs : List (DataW H)) (before : List MemPlace)
    (hval : ∀ (j : Nat) t v, Try.f3.params[j]? = some t → args[j]? = some v → Value.okWide Try.prog W .any base t v)
    (hW : DataW.Whole enc Try.prog Try.f3.params.toList Rows.sealOwnSpec.vars false W args.toList ds gs before) (hk : Rows.uptoSmall H (ds ++ gs) = true) :
    Calls Try.prog 3 args W fun e W' => ∃ v, e = .returned v ∧ Rows.sealOwnSpec.post enc Try.prog Try.f3 false true false false W args v W' := by
  have hW' := hW
  obtain ⟨p, q, hA0, hV, rfl, hfz, hnd⟩ := hW
  have hA : DataW.TrodAll enc Try.prog W 0 (fun _ => true) true Try.f3.params.toList args.toList ds p := hA0
  rw [Try.params3] at hA hval
  obtain ⟨v0, vs0, d0, ds0, p0, q0, hargs, rfl, rfl, h0, r0⟩ := trodAll_cons hA
  obtain ⟨v1, vs1, d1, ds1, p1, q1, rfl, rfl, rfl, h1, r1⟩ := trodAll_cons r0
  obtain ⟨v2, vs2, d2, ds2, p2, q2, rfl, rfl, rfl, h2, r2⟩ := trodAll_cons r1
  obtain ⟨v3, vs3, d3, ds3, p3, q3, rfl, rfl, rfl, h3, r3⟩ := trodAll_cons r2
  obtain ⟨v4, vs4, d4, ds4, p4, q4, rfl, rfl, rfl, h4, r4⟩ := trodAll_cons r3
  obtain ⟨v5, vs5, d5, ds5, p5, q5, rfl, rfl, rfl, h5, r5⟩ := trodAll_cons r4
  obtain ⟨rfl, rfl, rfl⟩ := trodAll_nil r5
  obtain rfl : args = #[v0, v1, v2, v3, v4, v5] := by cases args; simp_all
  obtain ⟨rfl, rfl⟩ := trodVars_none hV
  obtain ⟨a0, rfl, rfl, rfl, w0⟩ := open_int Try.underlying3 (hval 0 3 v0 rfl rfl) h0
  obtain ⟨a1, rfl, rfl, rfl, w1⟩ := open_int Try.underlying3 (hval 1 3 v1 rfl rfl) h1
  obtain ⟨a2, rfl, rfl, rfl, w2⟩ := open_string Try.underlying9 (hval 2 9 v2 rfl rfl) h2
  obtain ⟨a3, rfl, rfl, rfl, w3⟩ := open_string Try.underlying9 (hval 3 9 v3 rfl rfl) h3
  obtain ⟨a4, rfl, rfl, rfl, w4⟩ := open_int Try.underlying3 (hval 4 3 v4 rfl rfl) h4
  obtain ⟨a5, rfl, rfl, rfl, w5⟩ := open_int Try.underlying5 (hval 5 5 v5 rfl rfl) h5
  clear hA0
  simp only [List.append_nil] at hk
  have hk1 := of_decide_eq_true hk
  simp only [Rows.uptoBulkAll, Rows.uptoBulk] at hk1
  have e2 : a2.data.toList.length = a2.size := by rw [Array.length_toList]; rfl
  have e3 : a3.data.toList.length = a3.size := by rw [Array.length_toList]; rfl
  refine (walk a0 a1 a2 a3 a4 a5 W w0 w1 w2 w3 w4 w5 (by omega) (by omega)).mono fun e W' ⟨he, bel⟩ => ?_
  subst he
  exact ⟨_, rfl, _, _, _, [], _, [], hW', trodAll_mk1 (shut_bool Try.underlying4 _), (trodAll_cons_mk (shut_int Try.underlying3 w0) (trodAll_cons_mk (shut_int Try.underlying3 w1) (trodAll_cons_mk (shut_string Try.underlying9 w2) (trodAll_cons_mk (shut_string Try.underlying9 w3) (trodAll_cons_mk (shut_int Try.underlying3 w4) (trodAll_cons_mk (shut_int Try.underlying5 w5) trodAll_mk0)))))), rfl, bel.frame _, fun h => by cases h⟩

set_option maxRecDepth 100000 in
theorem lifted (os : Os) (started : os.Started) (H : Type) (enc : TypeId × Value → H) (F : Stop.Interp) :
    ReturnsInHanded {} Try.checked os 3 .any ((Rows.OpenSpec.upto Rows.sealOwnSpec).pre6 enc Try.prog Try.f3 Rows.sealOwnUptoRow.domain false) (((Rows.OpenSpec.upto Rows.sealOwnSpec).at F).post enc Try.prog Try.f3 false true false false) := by
  refine returnsInHanded_of_cond (C := Try.checked) (s := Rows.OpenSpec.upto Rows.sealOwnSpec) (k := Rows.uptoSmall) rfl own started (by kernel_rfl) Try.func3
    (OpenSpec.witness (enc := enc) (C := Try.checked) (s := Rows.OpenSpec.upto Rows.sealOwnSpec) (k := Rows.uptoSmall) rfl false ⟨#[], #[.int .i64 0, .int .i64 0, .string .empty, .string .empty, .int .i64 0, .int .u8 0], []⟩ 8 (by kernel_rfl) (by kernel_rfl) (by kernel_rfl)
      (x := ([.lit (.int .i64 0), .lit (.int .i64 0), .lit (.string []), .lit (.string []), .lit (.int .i64 0), .lit (.int .u8 0)], [], [])) (by kernel_rfl) rfl (by kernel_rfl)) ?_
  intro W base args ds gs before hval hW _ hk _
  exact contract H enc W base args ds gs before hval hW hk

theorem proved : Rows.SealOwnUptoSaid :=
  OpenClaim.holds_of_cond 3 Try.f3 rfl rfl rfl rfl rfl rfl rfl ⟨rfl, rfl, rfl, rfl, rfl⟩ rfl rfl rfl rfl rfl (by kernel_rfl) Try.func3 (by kernel_rfl)
    (of_decide_eq_true (by kernel_rfl)) (by unfold Func.isWrapper; first | (rw [if_pos (by decide +kernel)]; kernel_rfl) | (rw [if_neg (by decide +kernel)]; exact ⟨rfl, rfl⟩))
    (fun os started H enc _ F => lifted os started H enc F)
#print axioms proved
end Go.Proofs.Ytpifebapodfeaab.sealOwn
