/- Cards: months: the program's and the document's. -/
import Derived.Test.YtbdkflfgmdcciaaKd
import Derived.Test.YtbdkflfgmdcciaaQl
namespace Go.Proofs.Ytbdkflfgmdcciaa.Ke
set_option linter.unusedVariables false
open Go.RowKit Lib0 Kp Kb Kd
/-- four digits: the year, the month -/
def two (a b : UInt8) : Nat := 10 * (a.toNat - 48) + (b.toNat - 48)
def monOf (s : ByteArray) : Nat := two (gb s 2) (gb s 3)
def yeaOf (s : ByteArray) : Nat := two (gb s 0) (gb s 1)
def isMon (s : ByteArray) : Bool := decide (s.size = 4) && ad s && decide (1 ≤ monOf s) && decide (monOf s ≤ 12)
def exR (s : ByteArray) (y m : Int) : Bool × Int :=
  if isMon s = false then (false, 53) else if y < 2000 ∨ 2099 < y ∨ m < 1 ∨ 12 < m then (false, 1) else (decide (12 * (2000 + (yeaOf s : Int)) + monOf s < 12 * y + m), 0)
theorem pair_any (t : ByteArray) (a b : Nat) (w : World) (ht : Hid (t.size = 2)) (h0 : 0 < t.size) (h1 : 1 < t.size) (ea : (t[0].toNat : Int) = 48 + (a : Int)) (eb : (t[1].toNat : Int) = 48 + (b : Int)) (ha : a ≤ 9) (hb : b ≤ 9) :
    Calls Try.prog 65 #[.string t] w fun e w' => e = .returned (.int .i64 ((10 * a + b : Nat) : Int)) ∧ Below w.heap.size w w' := by
  have e0 : (48 + (a : Int) - 48) = a := by omega
  have e1 : (48 + (b : Int) - 48) = b := by omega
  have z1 : (1 : Int) < t.size := by omega
  have z0 : (0 : Int) < t.size := by omega
  go_enter Try.func65, Try.ntmps65
  go_wp2_with fail
  go_quiet (fail)
  go_wp2
  go_ret
  refine ⟨ret_int ?_, below_drewN (Below.refl _ _) _⟩
  rw [wrap_u8 (a : Int) (by omega) (by omega), wrap_u8 (b : Int) (by omega) (by omega), wrap_i64 (a : Int) (by omega) (by omega), wrap_i64 (b : Int) (by omega) (by omega), wrap_i64 (10 * (a : Int)) (by omega) (by omega), wrap_i64 _ (by omega) (by omega)]
  omega
theorem isMonth_any (m : Int) (w : World) :
    Calls Try.prog 41 #[.int .i64 m] w fun e w' => e = .returned (.bool (decide (1 ≤ m ∧ m ≤ 12))) ∧ w' = w := by
  by_cases h1 : (1 : Int) ≤ m <;> by_cases h2 : m ≤ 12
  all_goals
    go_enter Try.func41, Try.ntmps41
    go_wp2
    go_ret
    exact ⟨ret_bool (by simp; omega), rfl⟩
theorem gb_ext (s : ByteArray) (a b j : Nat) (h : a + j < b) (hb : b ≤ s.size) (hj : j < (s.extract a b).size) : (s.extract a b)[j] = gb s (a + j) := by
  rw [← gb_eq s (a + j) (by omega), ByteArray.getElem_extract]
theorem ad_ext {s : ByteArray} (h : ad s = true) (a b : Nat) : ad (s.extract a b) = true := by
  unfold ad at *
  rw [ByteArray.data_extract, Array.toList_extract, List.extract_eq_take_drop]
  rw [List.all_eq_true] at *
  intro x hx
  exact h x (List.mem_of_mem_drop (List.mem_of_mem_take hx))
theorem pair_all (t : ByteArray) (w : World) (ht : t.size = 2) (ha : ad t = true) :
    Calls Try.prog 65 #[.string t] w fun e w' => e = .returned (.int .i64 ((two (gb t 0) (gb t 1) : Nat) : Int)) ∧ Below w.heap.size w w' := by
  have h0 := (dig_iff _).1 (dig_at t ha 0 (by omega))
  have h1 := (dig_iff _).1 (dig_at t ha 1 (by omega))
  have e := pair_any t (t[0].toNat - 48) (t[1].toNat - 48) w ht (by omega) (by omega) (by omega) (by omega) (by omega) (by omega)
  rw [gb_eq t 0 (by omega), gb_eq t 1 (by omega)] at e
  exact e
theorem four {s : ByteArray} (h4 : s.size = 4) (ha : ad s = true) : ∃ a b c d : Nat, a ≤ 9 ∧ b ≤ 9 ∧ c ≤ 9 ∧ d ≤ 9 ∧ (gb s 0).toNat = 48 + a ∧ (gb s 1).toNat = 48 + b ∧ (gb s 2).toNat = 48 + c ∧ (gb s 3).toNat = 48 + d := by
  have h : ∀ k, k < 4 → 48 ≤ (gb s k).toNat ∧ (gb s k).toNat ≤ 57 := by
    intro k hk
    have := (dig_iff _).1 (dig_at s ha k (by omega))
    rwa [gb_eq s k (by omega)] at this
  have h0 := h 0 (by omega); have h1 := h 1 (by omega); have h2 := h 2 (by omega); have h3 := h 3 (by omega)
  exact ⟨(gb s 0).toNat - 48, (gb s 1).toNat - 48, (gb s 2).toNat - 48, (gb s 3).toNat - 48, by omega, by omega, by omega, by omega, by omega, by omega, by omega, by omega⟩
def rmV (s : ByteArray) : Value := if isMon s then .tuple #[.int .i64 (2000 + (yeaOf s : Int)), .int .i64 (monOf s : Int), .bool true] else .tuple #[.int .i64 0, .int .i64 0, .bool false]
set_option maxRecDepth 100000 in
set_option maxHeartbeats 1600000 in
theorem readMonth_any (s : ByteArray) (w : World) (hs : s.size ≤ 4194304) :
    Calls Try.prog 40 #[.string s] w fun e w' => e = .returned (rmV s) ∧ Below w.heap.size w w' := by
  by_cases h4 : s.size = 4
  · have p1 := fun y => allDigits_any s y hs
    have q4 : (s.size : Int) = 4 := by omega
    cases ha : ad s
    · have HV : Hid (rmV s = .tuple #[.int .i64 0, .int .i64 0, .bool false]) := by show _ = _; simp [rmV, isMon, ha]
      rw [ha] at p1
      rw [HV.out]
      clear h4
      go_enter Try.func40, Try.ntmps40
      go_wp2_with fail
      refine (p1 _).mono ?_
      rintro e w' ⟨rfl, rfl⟩
      go_wp2
      exact bodyPost_ret (v := .tuple #[.int .i64 0, .int .i64 0, .bool false]) (by simp [results, Try.results40, go_sem]) rfl ⟨rfl, Below.refl _ _⟩
    · rw [ha] at p1
      obtain ⟨a, b, c, d, ha9, hb9, hc9, hd9, ga, gb', gc, gd⟩ := four h4 ha
      have z1 : (s.extract 0 2).size = 2 := by rw [ByteArray.size_extract]; omega
      have z2 : (s.extract 2 s.size).size = 2 := by rw [ByteArray.size_extract]; omega
      have pP := fun (t : ByteArray) y h1 h2 => pair_all t y h1 h2
      have vA : two (gb (s.extract 0 2) 0) (gb (s.extract 0 2) 1) = 10 * a + b := by
        have e0 : gb (s.extract 0 2) 0 = gb s 0 := by rw [← gb_eq _ 0 (by omega), gb_ext s 0 2 0 (by omega) (by omega)]
        have e1 : gb (s.extract 0 2) 1 = gb s 1 := by rw [← gb_eq _ 1 (by omega), gb_ext s 0 2 1 (by omega) (by omega)]
        rw [e0, e1]; unfold two; omega
      have vB : two (gb (s.extract 2 s.size) 0) (gb (s.extract 2 s.size) 1) = 10 * c + d := by
        have e0 : gb (s.extract 2 s.size) 0 = gb s 2 := by rw [← gb_eq _ 0 (by omega), gb_ext s 2 s.size 0 (by omega) (by omega)]
        have e1 : gb (s.extract 2 s.size) 1 = gb s 3 := by rw [← gb_eq _ 1 (by omega), gb_ext s 2 s.size 1 (by omega) (by omega)]
        rw [e0, e1]; unfold two; omega
      have eY : yeaOf s = 10 * a + b := by unfold yeaOf two; omega
      have eM : monOf s = 10 * c + d := by unfold monOf two; omega
      have EV : Hid (rmV s = if decide (1 ≤ 10 * c + d ∧ 10 * c + d ≤ 12) then .tuple #[.int .i64 (2000 + ((10 * a + b : Nat) : Int)), .int .i64 ((10 * c + d : Nat) : Int), .bool true] else .tuple #[.int .i64 0, .int .i64 0, .bool false]) := by
        show _ = _
        unfold rmV isMon
        rw [h4, ha, eY, eM]
        simp
      have q2 : (2 : Int) ≤ s.size := by omega
      have pC := fun y => isMonth_any ((10 * c + d : Nat) : Int) y
      obtain ⟨Y, HY, hY⟩ : ∃ Y : Nat, Hid (10 * a + b = Y) ∧ Y ≤ 99 := ⟨_, rfl, by omega⟩
      obtain ⟨M, HM, hM⟩ : ∃ M : Nat, Hid (10 * c + d = M) ∧ M ≤ 99 := ⟨_, rfl, by omega⟩
      rw [HY.out] at vA EV
      rw [HM.out] at vB pC EV
      have VA : Hid (two (gb (s.extract 0 2) 0) (gb (s.extract 0 2) 1) = Y) := vA
      have VB : Hid (two (gb (s.extract 2 s.size) 0) (gb (s.extract 2 s.size) 1) = M) := vB
      have eW : IntKind.i64.wrap (2000 + ((two (gb (s.extract 0 2) 0) (gb (s.extract 0 2) 1) : Nat) : Int)) = 2000 + ((two (gb (s.extract 0 2) 0) (gb (s.extract 0 2) 1) : Nat) : Int) := wrap_i64 _ (by omega) (by omega)
      have Z1 : Hid ((s.extract 0 2).size = 2) := z1
      have Z2 : Hid ((s.extract 2 s.size).size = 2) := z2
      have HA : Hid (ad s = true) := ha
      clear ga gb' gc gd eY eM z1 z2 h4 vA vB ha
      go_enter Try.func40, Try.ntmps40
      go_wp2_with fail
      refine (p1 _).mono ?_
      rintro e x ⟨rfl, rfl⟩
      go_wp2_with fail
      refine Ql.region_cl (by kernel_rfl) (by kernel_rfl) ?_
      repeat (refine wpQuiet_step (fun K hK => ?_); first
        | (go_simp; refine hK _ ?_; clear hK K)
        | (go_simp; refine ⟨_, fun _ _ => rfl, hK _ ?_⟩; clear hK K)
        | (go_simp; refine ⟨_, fun _ _ => ⟨rfl, rfl⟩, hK _ ?_⟩; clear hK K)
        | (go_simp; apply Exists.intro; refine ⟨fun y hy => ?_, hK _ ?_⟩; (go_at_call 65; refine Ql.cl_of hy (pP _ y ?_ (ad_ext HA.out _ _)); first | exact Z1.out | exact Z2.out); clear hK K))
      refine wpQuiet_nil ?_
      intro y hy
      rw [VA.out, VB.out]
      go_wp2_with fail
      refine (pC _).mono ?_
      rintro e y2 ⟨rfl, rfl⟩
      by_cases hM12 : 1 ≤ M ∧ M ≤ 12
      · have g1 : decide ((1 : Int) ≤ (M : Int) ∧ (M : Int) ≤ 12) = true := by simp; omega
        have g2 : decide (1 ≤ M ∧ M ≤ 12) = true := by simp; omega
        have hV : Hid (rmV s = .tuple #[.int .i64 (2000 + (Y : Int)), .int .i64 (M : Int), .bool true]) := by show _ = _; rw [EV.out, g2]; rfl
        rw [g1]
        go_wp2
        exact bodyPost_ret (v := .tuple #[.int .i64 (2000 + (Y : Int)), .int .i64 (M : Int), .bool true]) (by simp [results, Try.results40, go_sem]) rfl ⟨congrArg Ending.returned hV.out.symm, hy⟩
      · have g1 : decide ((1 : Int) ≤ (M : Int) ∧ (M : Int) ≤ 12) = false := by simp; omega
        have g2 : decide (1 ≤ M ∧ M ≤ 12) = false := by simp; omega
        have hV : Hid (rmV s = .tuple #[.int .i64 0, .int .i64 0, .bool false]) := by show _ = _; rw [EV.out, g2]; rfl
        rw [g1]
        go_wp2
        exact bodyPost_ret (v := .tuple #[.int .i64 0, .int .i64 0, .bool false]) (by simp [results, Try.results40, go_sem]) rfl ⟨congrArg Ending.returned hV.out.symm, hy⟩
  · have HV : Hid (rmV s = .tuple #[.int .i64 0, .int .i64 0, .bool false]) := by show _ = _; simp [rmV, isMon, h4]
    have q4 : ((s.size : Int) != 4) = true := by simp; omega
    rw [HV.out]
    go_enter Try.func40, Try.ntmps40
    go_wp2
    exact bodyPost_ret (v := .tuple #[.int .i64 0, .int .i64 0, .bool false]) (by simp [results, Try.results40, go_sem]) rfl ⟨rfl, Below.refl _ _⟩
end Go.Proofs.Ytbdkflfgmdcciaa.Ke
