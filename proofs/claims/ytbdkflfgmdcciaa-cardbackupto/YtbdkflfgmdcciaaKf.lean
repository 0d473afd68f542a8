/- Cards: Expired: the program's and the document's. -/
import Derived.Test.YtbdkflfgmdcciaaKe
namespace Go.Proofs.Ytbdkflfgmdcciaa.Kf
set_option linter.unusedVariables false
open Go.RowKit Lib0 Kp Kb Kd Ke
def exV (s : ByteArray) (y m : Int) : Value := .tuple #[.bool (exR s y m).1, .int .i64 (exR s y m).2]
theorem ret_v {a b : Value} (h : a = b) : Ending.returned a = .returned b := by rw [h]
set_option maxRecDepth 100000 in
set_option maxHeartbeats 800000 in
theorem expired_any (s : ByteArray) (y m : Int) (w : World) (hs : s.size ≤ 4194304) :
    Calls Try.prog 18 #[.string s, .int .i64 y, .int .i64 m] w fun e w' => e = .returned (exV s y m) ∧ Below w.heap.size w w' := by
  have p1 := fun x => readMonth_any s x hs
  have p2 := fun x => isMonth_any m x
  cases hi : isMon s
  · have HV : Hid (exV s y m = .tuple #[.bool false, .int .i64 53]) := by show _ = _; rw [exV, exR, if_pos hi]
    rw [rmV, if_neg (by rw [hi]; simp)] at p1
    go_enter Try.func18, Try.ntmps18
    go_wp2_with fail
    refine (p1 _).mono ?_
    rintro e x ⟨rfl, hx⟩
    go_wp2
    exact bodyPost_ret (v := .tuple #[.bool false, .int .i64 53]) (by simp [results, Try.results18, go_sem]) rfl ⟨ret_v HV.out.symm, hx⟩
  · rw [rmV, if_pos hi] at p1
    have hm : 1 ≤ monOf s ∧ monOf s ≤ 12 := by
      unfold isMon at hi
      simp only [Bool.and_eq_true, decide_eq_true_eq] at hi
      exact ⟨hi.1.2, hi.2⟩
    have HV : Hid (exV s y m = .tuple (if y < 2000 ∨ 2099 < y ∨ m < 1 ∨ 12 < m then #[.bool false, .int .i64 1] else #[.bool (decide (12 * (2000 + (yeaOf s : Int)) + monOf s < 12 * y + m)), .int .i64 0])) := by
      show _ = _
      rw [exV, exR, if_neg (by rw [hi]; simp)]
      split <;> rfl
    generalize monOf s = M at *
    generalize yeaOf s = Y at *
    by_cases g1 : y < 2000
    · have HW : Hid (exV s y m = .tuple #[.bool false, .int .i64 1]) := by show _ = _; rw [HV.out, if_pos (by omega)]
      go_enter Try.func18, Try.ntmps18
      go_wp2_with fail
      refine (p1 _).mono ?_
      rintro e x ⟨rfl, hx⟩
      go_wp2
      exact bodyPost_ret (v := .tuple #[.bool false, .int .i64 1]) (by simp [results, Try.results18, go_sem]) rfl ⟨ret_v HW.out.symm, hx⟩
    · by_cases g2 : 2099 < y
      · have HW : Hid (exV s y m = .tuple #[.bool false, .int .i64 1]) := by show _ = _; rw [HV.out, if_pos (by omega)]
        go_enter Try.func18, Try.ntmps18
        go_wp2_with fail
        refine (p1 _).mono ?_
        rintro e x ⟨rfl, hx⟩
        go_wp2
        exact bodyPost_ret (v := .tuple #[.bool false, .int .i64 1]) (by simp [results, Try.results18, go_sem]) rfl ⟨ret_v HW.out.symm, hx⟩
      · by_cases g3 : 1 ≤ m ∧ m ≤ 12
        · rw [show decide (1 ≤ m ∧ m ≤ 12) = true by simpa using g3] at p2
          obtain ⟨T, HT, hT⟩ : ∃ T : Int, Hid (2000 + (Y : Int) = T) ∧ 2000 ≤ T := ⟨_, rfl, by omega⟩
          rw [HT.out] at p1 HV
          go_enter Try.func18, Try.ntmps18
          go_wp2_with fail
          refine (p1 _).mono ?_
          rintro e x ⟨rfl, hx⟩
          go_wp2_with fail
          refine (p2 _).mono ?_
          rintro e x' ⟨rfl, rfl⟩
          by_cases g4 : y = T
          · have g5 : (y != T) = false := by simp [g4]
            by_cases g6 : M < m
            · have HW : Hid (exV s y m = .tuple #[.bool true, .int .i64 0]) := by show _ = _; rw [HV.out, if_neg (by omega), show decide (12 * T + (M : Int) < 12 * y + m) = true by simp; omega]
              clear g4
              go_wp2
              exact bodyPost_ret (v := .tuple #[.bool true, .int .i64 0]) (by simp [results, Try.results18, go_sem]) rfl ⟨ret_v HW.out.symm, hx⟩
            · have HW : Hid (exV s y m = .tuple #[.bool false, .int .i64 0]) := by show _ = _; rw [HV.out, if_neg (by omega), show decide (12 * T + (M : Int) < 12 * y + m) = false by simp; omega]
              have g7 : m ≤ (M : Int) := by omega
              clear g4
              go_wp2
              exact bodyPost_ret (v := .tuple #[.bool false, .int .i64 0]) (by simp [results, Try.results18, go_sem]; omega) rfl ⟨ret_v HW.out.symm, hx⟩
          · have g5 : (y != T) = true := by simp [g4]
            by_cases g6 : T < y
            · have HW : Hid (exV s y m = .tuple #[.bool true, .int .i64 0]) := by show _ = _; rw [HV.out, if_neg (by omega), show decide (12 * T + (M : Int) < 12 * y + m) = true by simp; omega]
              clear g4
              go_wp2
              exact bodyPost_ret (v := .tuple #[.bool true, .int .i64 0]) (by simp [results, Try.results18, go_sem]) rfl ⟨ret_v HW.out.symm, hx⟩
            · have HW : Hid (exV s y m = .tuple #[.bool false, .int .i64 0]) := by show _ = _; rw [HV.out, if_neg (by omega), show decide (12 * T + (M : Int) < 12 * y + m) = false by simp; omega]
              have g7 : y ≤ T := by omega
              clear g4
              go_wp2
              exact bodyPost_ret (v := .tuple #[.bool false, .int .i64 0]) (by simp [results, Try.results18, go_sem]; omega) rfl ⟨ret_v HW.out.symm, hx⟩
        · have HW : Hid (exV s y m = .tuple #[.bool false, .int .i64 1]) := by show _ = _; rw [HV.out, if_pos (by omega)]
          rw [show decide (1 ≤ m ∧ m ≤ 12) = false by simp only [decide_eq_false_iff_not]; exact g3] at p2
          go_enter Try.func18, Try.ntmps18
          go_wp2_with fail
          refine (p1 _).mono ?_
          rintro e x ⟨rfl, hx⟩
          go_wp2_with fail
          refine (p2 _).mono ?_
          rintro e x' ⟨rfl, rfl⟩
          go_wp2
          exact bodyPost_ret (v := .tuple #[.bool false, .int .i64 1]) (by simp [results, Try.results18, go_sem]) rfl ⟨ret_v HW.out.symm, hx⟩
set_option maxRecDepth 100000 in
set_option maxHeartbeats 800000 in
theorem month_any (s : ByteArray) (w : World) (hs : s.size ≤ 4194304) :
    Calls Try.prog 42 #[.string s] w fun e w' => e = .returned (.bool (isMon s)) ∧ Below w.heap.size w w' := by
  have p1 := fun y => digits_any s 4 4 y hs
  by_cases h : s.size = 4 ∧ ad s = true
  · obtain ⟨a, b, c, d, ha9, hb9, hc9, hd9, ga, gb', gc, gd⟩ := four h.1 h.2
    rw [show (decide (4 ≤ s.size) && decide (s.size ≤ 4) && ad s) = true by rw [h.1, h.2]; rfl] at p1
    have q2 : 2 < s.size := by omega
    have q3 : 3 < s.size := by omega
    have q2' : (2 : Int) < s.size := by omega
    have q3' : (3 : Int) < s.size := by omega
    have e2 : (s[2].toNat : Int) = 48 + (c : Int) := by rw [gb_eq s 2 q2]; omega
    have e3 : (s[3].toNat : Int) = 48 + (d : Int) := by rw [gb_eq s 3 q3]; omega
    have x2 : 48 + (c : Int) - 48 = c := by omega
    have x3 : 48 + (d : Int) - 48 = d := by omega
    have EM : Hid (isMon s = (decide (1 ≤ 10 * c + d) && decide (10 * c + d ≤ 12))) := by
      show _ = _
      have eM : monOf s = 10 * c + d := by unfold monOf two; omega
      unfold isMon
      rw [h.1, h.2, eM]
      simp
    have u1 : IntKind.u8.wrap (c : Int) = c := wrap_u8 _ (by omega) (by omega)
    have u2 : IntKind.u8.wrap (d : Int) = d := wrap_u8 _ (by omega) (by omega)
    have u3 : IntKind.i64.wrap (c : Int) = c := wrap_i64 _ (by omega) (by omega)
    have u4 : IntKind.i64.wrap (d : Int) = d := wrap_i64 _ (by omega) (by omega)
    have u5 : IntKind.i64.wrap (10 * (c : Int)) = 10 * c := wrap_i64 _ (by omega) (by omega)
    have u6 : IntKind.i64.wrap (10 * (c : Int) + d) = 10 * c + d := wrap_i64 _ (by omega) (by omega)
    clear ga gb' gc gd h
    go_enter Try.func42, Try.ntmps42
    go_wp2_with fail
    refine (p1 _).mono ?_
    rintro e x ⟨rfl, rfl⟩
    go_wp2_with fail
    go_quiet (fail)
    have hB := below_drewN (Below.refl x.heap.size x) nq
    by_cases g1 : (1 : Int) ≤ 10 * c + d <;> by_cases g2 : 10 * (c : Int) + d ≤ 12
    all_goals
      go_wp2
      go_ret
      exact ⟨ret_bool (by rw [EM.out]; simp; omega), hB⟩
  · have e1 : (decide (4 ≤ s.size) && decide (s.size ≤ 4) && ad s) = false := by
      rw [Bool.eq_false_iff]
      intro hh
      simp only [Bool.and_eq_true, decide_eq_true_eq] at hh
      exact h ⟨by omega, hh.2⟩
    have e2 : isMon s = false := by
      rw [Bool.eq_false_iff]
      intro hh
      unfold isMon at hh
      simp only [Bool.and_eq_true, decide_eq_true_eq] at hh
      exact h ⟨hh.1.1.1, hh.1.1.2⟩
    rw [e1] at p1
    rw [e2]
    clear h e1
    go_enter Try.func42, Try.ntmps42
    go_wp2_with fail
    refine (p1 _).mono ?_
    rintro e x ⟨rfl, rfl⟩
    go_wp2
    go_ret
    exact ⟨rfl, Below.refl _ _⟩
theorem mon_parts {s : ByteArray} (h : isMon s = true) : s.size = 4 ∧ ad s = true ∧ 1 ≤ monOf s ∧ monOf s ≤ 12 := by
  unfold isMon at h
  simp only [Bool.and_eq_true, decide_eq_true_eq] at h
  exact ⟨h.1.1.1, h.1.1.2, h.1.2, h.2⟩
set_option maxRecDepth 100000 in
set_option maxHeartbeats 800000 in
theorem expiredr_any (s : ByteArray) (y m : Int) (w : World) (hs : s.size ≤ 4194304) :
    Calls Try.prog 19 #[.string s, .int .i64 y, .int .i64 m] w fun e w' => e = .returned (exV s y m) ∧ Below w.heap.size w w' := by
  have p1 := fun x => month_any s x hs
  cases hi : isMon s
  · have HV : Hid (exV s y m = .tuple #[.bool false, .int .i64 53]) := by show _ = _; rw [exV, exR, if_pos hi]
    rw [hi] at p1
    go_enter Try.func19, Try.ntmps19
    go_wp2_with fail
    refine (p1 _).mono ?_
    rintro e x ⟨rfl, hx⟩
    go_wp2
    exact bodyPost_ret (v := .tuple #[.bool false, .int .i64 53]) (by simp [results, Try.results19, go_sem]) rfl ⟨ret_v HV.out.symm, hx⟩
  · rw [hi] at p1
    obtain ⟨h4, had, hm1, hm2⟩ := mon_parts hi
    have HV : Hid (exV s y m = .tuple (if y < 2000 ∨ 2099 < y ∨ m < 1 ∨ 12 < m then #[.bool false, .int .i64 1] else #[.bool (decide (12 * (2000 + (yeaOf s : Int)) + monOf s < 12 * y + m)), .int .i64 0])) := by
      show _ = _
      rw [exV, exR, if_neg (by rw [hi]; simp)]
      split <;> rfl
    by_cases g : y < 2000 ∨ 2099 < y ∨ m < 1 ∨ 12 < m
    · have HW : Hid (exV s y m = .tuple #[.bool false, .int .i64 1]) := by show _ = _; rw [HV.out, if_pos g]
      by_cases g1 : y < 2000
      · go_enter Try.func19, Try.ntmps19
        go_wp2_with fail
        refine (p1 _).mono ?_
        rintro e x ⟨rfl, hx⟩
        go_wp2
        exact bodyPost_ret (v := .tuple #[.bool false, .int .i64 1]) (by simp [results, Try.results19, go_sem]) rfl ⟨ret_v HW.out.symm, hx⟩
      · by_cases g2 : 2099 < y
        · go_enter Try.func19, Try.ntmps19
          go_wp2_with fail
          refine (p1 _).mono ?_
          rintro e x ⟨rfl, hx⟩
          go_wp2
          exact bodyPost_ret (v := .tuple #[.bool false, .int .i64 1]) (by simp [results, Try.results19, go_sem]) rfl ⟨ret_v HW.out.symm, hx⟩
        · by_cases g3 : m < 1
          · go_enter Try.func19, Try.ntmps19
            go_wp2_with fail
            refine (p1 _).mono ?_
            rintro e x ⟨rfl, hx⟩
            go_wp2
            exact bodyPost_ret (v := .tuple #[.bool false, .int .i64 1]) (by simp [results, Try.results19, go_sem]) rfl ⟨ret_v HW.out.symm, hx⟩
          · have g4 : 12 < m := by omega
            go_enter Try.func19, Try.ntmps19
            go_wp2_with fail
            refine (p1 _).mono ?_
            rintro e x ⟨rfl, hx⟩
            go_wp2
            exact bodyPost_ret (v := .tuple #[.bool false, .int .i64 1]) (by simp [results, Try.results19, go_sem]) rfl ⟨ret_v HW.out.symm, hx⟩
    · have g1 : ¬ y < 2000 := by omega
      have g2 : ¬ 2099 < y := by omega
      have g3 : ¬ m < 1 := by omega
      have g4 : ¬ 12 < m := by omega
      have HW : Hid (exV s y m = .tuple #[.bool (decide (12 * (2000 + (yeaOf s : Int)) + monOf s < 12 * y + m)), .int .i64 0]) := by show _ = _; rw [HV.out, if_neg g]
      obtain ⟨a, b, c, d, ha9, hb9, hc9, hd9, ga, gb', gc, gd⟩ := four h4 had
      have eY : yeaOf s = 10 * a + b := by unfold yeaOf two; omega
      have eM : monOf s = 10 * c + d := by unfold monOf two; omega
      rw [eY, eM] at HW
      have q0 : 0 < s.size := by omega
      have q1 : 1 < s.size := by omega
      have q2 : 2 < s.size := by omega
      have q3 : 3 < s.size := by omega
      have q0' : (0 : Int) < s.size := by omega
      have q1' : (1 : Int) < s.size := by omega
      have q2' : (2 : Int) < s.size := by omega
      have q3' : (3 : Int) < s.size := by omega
      have e0 : (s[0].toNat : Int) = 48 + (a : Int) := by rw [gb_eq s 0 q0]; omega
      have e1 : (s[1].toNat : Int) = 48 + (b : Int) := by rw [gb_eq s 1 q1]; omega
      have e2 : (s[2].toNat : Int) = 48 + (c : Int) := by rw [gb_eq s 2 q2]; omega
      have e3 : (s[3].toNat : Int) = 48 + (d : Int) := by rw [gb_eq s 3 q3]; omega
      have x0 : 48 + (a : Int) - 48 = a := by omega
      have x1 : 48 + (b : Int) - 48 = b := by omega
      have x2 : 48 + (c : Int) - 48 = c := by omega
      have x3 : 48 + (d : Int) - 48 = d := by omega
      have t0 : IntKind.u8.wrap (a : Int) = a := wrap_u8 _ (by omega) (by omega)
      have t1 : IntKind.u8.wrap (b : Int) = b := wrap_u8 _ (by omega) (by omega)
      have t2 : IntKind.i64.wrap (a : Int) = a := wrap_i64 _ (by omega) (by omega)
      have t3 : IntKind.i64.wrap (b : Int) = b := wrap_i64 _ (by omega) (by omega)
      have t4 : IntKind.i64.wrap (10 * (a : Int)) = 10 * a := wrap_i64 _ (by omega) (by omega)
      have t5 : IntKind.i64.wrap (2000 + 10 * (a : Int)) = 2000 + 10 * a := wrap_i64 _ (by omega) (by omega)
      have t6 : IntKind.i64.wrap (2000 + 10 * (a : Int) + b) = 2000 + 10 * a + b := wrap_i64 _ (by omega) (by omega)
      have u1 : IntKind.u8.wrap (c : Int) = c := wrap_u8 _ (by omega) (by omega)
      have u2 : IntKind.u8.wrap (d : Int) = d := wrap_u8 _ (by omega) (by omega)
      have u3 : IntKind.i64.wrap (c : Int) = c := wrap_i64 _ (by omega) (by omega)
      have u4 : IntKind.i64.wrap (d : Int) = d := wrap_i64 _ (by omega) (by omega)
      have u5 : IntKind.i64.wrap (10 * (c : Int)) = 10 * c := wrap_i64 _ (by omega) (by omega)
      have u6 : IntKind.i64.wrap (10 * (c : Int) + d) = 10 * c + d := wrap_i64 _ (by omega) (by omega)
      clear ga gb' gc gd eY eM g HV h4 hm1 hm2
      go_enter Try.func19, Try.ntmps19
      go_wp2_with fail
      refine (p1 _).mono ?_
      rintro e x ⟨rfl, hx⟩
      go_wp2_with fail
      go_quiet (fail)
      have hB := below_drewN hx nq
      generalize x.drewN nq = x2 at *
      go_wp2_with fail
      go_quiet (fail)
      have hB2 := below_drewN hB nq
      generalize x2.drewN nq = x3 at *
      by_cases g9 : 12 * (2000 + 10 * (a : Int) + b) + (10 * c + d) < 12 * y + m
      · have HZ : Hid (exV s y m = .tuple #[.bool true, .int .i64 0]) := by show _ = _; rw [HW.out, show decide _ = true by simp; omega]
        go_wp2
        exact bodyPost_ret (v := .tuple #[.bool true, .int .i64 0]) (by simp [results, Try.results19, go_sem]) rfl ⟨ret_v HZ.out.symm, hB2⟩
      · have HZ : Hid (exV s y m = .tuple #[.bool false, .int .i64 0]) := by show _ = _; rw [HW.out, show decide _ = false by simp; omega]
        go_wp2
        exact bodyPost_ret (v := .tuple #[.bool false, .int .i64 0]) (by simp [results, Try.results19, go_sem]) rfl ⟨ret_v HZ.out.symm, hB2⟩
end Go.Proofs.Ytbdkflfgmdcciaa.Kf
