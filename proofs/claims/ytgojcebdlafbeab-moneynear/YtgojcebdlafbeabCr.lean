/- readRate: the program's. -/
import Derived.Test.YtgojcebdlafbeabCw
namespace Go.Proofs.Ytgojcebdlafbeab.Cr
set_option linter.unusedVariables false
open Go.RowKit Kb Cp Pp Pc Mp Cv Ms Cw
theorem rtB_no8 {l : List UInt8} (h : ¬ l.length = 8) : rtB l = false := by simp [rtB, h]
theorem rtB_nod {l : List UInt8} (h : ad l = false) : rtB l = false := by simp [rtB, h]
set_option maxRecDepth 100000 in
set_option maxHeartbeats 400000 in
theorem readRate_len (s : ByteArray) (h8 : ¬ s.size = 8) (w : World) : Calls Try.prog 15 #[.string s] w fun e w' => e = .returned (.tuple #[.agg #[.int .i64 0, .int .u64 0], .bool false]) ∧ Below w.heap.size w w' := by
  have h9 : ((s.size : Int) == 8) = false := by rw [beq_eq_false_iff_ne]; omega
  go_enter Try.func15, Try.ntmps15
  go_wp2
  exact bodyPost_ret (v := .tuple #[.agg #[.int .i64 0, .int .u64 0], .bool false]) (by simp [results, Try.results15, go_sem]) rfl ⟨rfl, below_one _ _⟩
set_option maxRecDepth 100000 in
set_option maxHeartbeats 400000 in
theorem readRate_dig (s : ByteArray) (h8 : s.size = 8) (hd : ad s.data.toList = false) (w : World) : Calls Try.prog 15 #[.string s] w fun e w' => e = .returned (.tuple #[.agg #[.int .i64 0, .int .u64 0], .bool false]) ∧ Below w.heap.size w w' := by
  have pa := fun w => allDigits_any s (by omega) w
  rw [hd] at pa
  have h9 : (s.size : Int) = 8 := by omega
  go_enter Try.func15, Try.ntmps15
  go_wp2_with (go_at_call 21; refine (pa _).mono ?_; rintro e x ⟨rfl, rfl⟩)
  exact bodyPost_ret (v := .tuple #[.agg #[.int .i64 0, .int .u64 0], .bool false]) (by simp [results, Try.results15, go_sem]) rfl ⟨rfl, below_one _ _⟩
set_option maxRecDepth 100000 in
set_option maxHeartbeats 6400000 in
theorem readRate_ok (s : ByteArray) (h8 : s.size = 8) (hd : ad s.data.toList = true) (w : World) : Calls Try.prog 15 #[.string s] w fun e w' => e = .returned (.tuple #[.agg #[.int .i64 (rtP s.data.toList : Int), .int .u64 (rtN s.data.toList : Int)], .bool (rtB s.data.toList)]) ∧ Below w.heap.size w w' := by
  have pa := fun w => allDigits_any s (by omega) w
  rw [hd] at pa
  have h9 : (s.size : Int) = 8 := by omega
  have hl : s.data.toList.length = 8 := by simpa using h8
  have hc := (dg_iff _).1 (List.all_eq_true.1 hd s[0] (List.getElem_mem (show 0 < s.data.toList.length by omega)))
  have c1 : (48 : Int) ≤ (s[0].toNat : Int) := by omega
  have c2 : (s[0].toNat : Int) ≤ 57 := by omega
  have e1 : (s.extract 1 8).data.toList = s.data.toList.drop 1 := by
    rw [ByteArray.data_extract, Array.toList_extract]
    simp [List.extract, List.take_of_length_le, hl]
  have pn := fun w => number_any (s.extract 1 8) (by rw [ByteArray.size_extract]; omega) (by rw [e1]; exact List.all_eq_true.2 fun x hx => List.all_eq_true.1 hd x (List.mem_of_mem_drop hx)) w
  rw [e1] at pn
  have HP : Hid (rtP s.data.toList = s[0].toNat - 48) := by
    show _ = _
    obtain ⟨c, l, e⟩ : ∃ c l, s.data.toList = c :: l := by cases hh : s.data.toList with
      | nil => rw [hh] at hl; cases hl
      | cons c l => exact ⟨c, l, rfl⟩
    have : s[0] = c := by
      have h2 : s.data.toList[0]'(by omega) = c := by simp only [e, List.getElem_cons_zero]
      exact h2
    rw [rtP, e, this]; simp [num]
  have HB : Hid (rtB s.data.toList = (decide (rtP s.data.toList ≤ 7) && decide (0 < rtN s.data.toList))) := by
    show _ = _
    unfold rtB rtP rtN
    rw [hd, decide_eq_true hl]
    rfl
  have hN : num (s.data.toList.drop 1) < 10 ^ 7 := by
    have := num_lt (s.data.toList.drop 1) (List.all_eq_true.2 fun x hx => List.all_eq_true.1 hd x (List.mem_of_mem_drop hx))
    rwa [List.length_drop, hl] at this
  generalize hr : rtP s.data.toList = P at *
  generalize hb : rtB s.data.toList = B at *
  rw [show rtN s.data.toList = num (s.data.toList.drop 1) from rfl] at *
  generalize num (s.data.toList.drop 1) = V at *
  have k1 : IntKind.u8.wrap ((s[0].toNat : Int) - 48) = (P : Int) := by
    have := HP.out
    simp [IntKind.wrap, IntKind.signed, IntKind.bits]; omega
  have k3 : (P : Int) ≤ 9 := by have := HP.out; omega
  have k2 : IntKind.i64.wrap (P : Int) = (P : Int) := by simp [IntKind.wrap, IntKind.signed, IntKind.bits]; omega
  clear hr hb hd hl hc e1 hN
  have HB1 : Hid (P ≤ 7 → B = decide (0 < V)) := fun h => by rw [HB.out, decide_eq_true h]; rfl
  have HB2 : Hid (¬ P ≤ 7 → B = false) := fun h => by rw [HB.out, decide_eq_false h]; rfl
  clear HB
  by_cases h1 : (P : Int) ≤ 7
  · have HB : Hid (B = decide (0 < V)) := HB1.out (by omega)
    clear HB1 HB2
    go_enter Try.func15, Try.ntmps15
    go_wp2_with (go_at_call 21; refine (pa _).mono ?_; rintro e x ⟨rfl, rfl⟩)
    go_region_with (go_at_call 22; refine (pn _).mono ?_; rintro e x ⟨rfl, rfl⟩)
    all_goals go_wp2_with fail
    all_goals go_region
    all_goals go_wp2_with fail
    all_goals
      rw [HB.out]
      exact bodyPost_ret (v := .tuple #[.agg #[.int .i64 (P : Int), .int .u64 (V : Int)], .bool (decide (0 < V))]) (by simp [results, Try.results15, go_sem]) rfl ⟨rfl, below_dr (below_two w _ _) 2⟩
  · have h1n : ¬ P ≤ 7 := by omega
    have h1l : (7 : Int) < (P : Int) := by omega
    have h1d : decide (P ≤ 7) = false := by simp; omega
    have h1e : decide ((P : Int) ≤ 7) = false := by simp; omega
    have HB : Hid (B = false) := HB2.out (by omega)
    clear HB1 HB2
    go_enter Try.func15, Try.ntmps15
    go_wp2_with (go_at_call 21; refine (pa _).mono ?_; rintro e x ⟨rfl, rfl⟩)
    go_region_with (go_at_call 22; refine (pn _).mono ?_; rintro e x ⟨rfl, rfl⟩)
    all_goals go_wp2_with fail
    all_goals go_region
    all_goals go_wp2_with fail
    all_goals
      rw [HB.out]
      exact bodyPost_ret (v := .tuple #[.agg #[.int .i64 (P : Int), .int .u64 (V : Int)], .bool false]) (by simp [results, Try.results15, go_sem]) rfl ⟨rfl, below_dr (below_two w _ _) 2⟩
theorem readRate_any (s : ByteArray) (hs : s.size ≤ maxLen) (w : World) : Calls Try.prog 15 #[.string s] w fun e w' => ∃ u v : Int, e = .returned (.tuple #[.agg #[.int .i64 u, .int .u64 v], .bool (rtB s.data.toList)]) ∧ (rtB s.data.toList = true → u = rtP s.data.toList ∧ v = rtN s.data.toList) ∧ Below w.heap.size w w' := by
  have hl : s.data.toList.length = s.size := by simp
  by_cases h8 : s.size = 8
  · cases hd : ad s.data.toList
    · refine (readRate_dig s h8 hd w).mono ?_
      rintro e x ⟨rfl, hb⟩
      have e := rtB_nod hd
      exact ⟨0, 0, by rw [e], (fun h => by rw [e] at h; cases h), hb⟩
    · refine (readRate_ok s h8 hd w).mono ?_
      rintro e x ⟨rfl, hb⟩
      exact ⟨_, _, rfl, fun _ => ⟨rfl, rfl⟩, hb⟩
  · refine (readRate_len s h8 w).mono ?_
    rintro e x ⟨rfl, hb⟩
    have e := rtB_no8 (l := s.data.toList) (by omega)
    exact ⟨0, 0, by rw [e], (fun h => by rw [e] at h; cases h), hb⟩
end Go.Proofs.Ytgojcebdlafbeab.Cr
