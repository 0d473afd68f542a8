/- The document's rate and Convert. -/
import Derived.Test.YtgojcebdlafbeaaCx
import Derived.Test.YtgojcebdlafbeaaPr
namespace Go.Proofs.Ytgojcebdlafbeaa.Rr
set_option linter.unusedVariables false
open Go.RowKit Kb Cp Pp Pc Mp Cv Ms Cw Cr Cx Pr
set_option maxRecDepth 100000 in
set_option maxHeartbeats 400000 in
theorem rater_len (s : ByteArray) (h8 : ¬ s.size = 8) (w : World) : Calls Try.prog 30 #[.string s] w fun e w' => e = .returned (.tuple #[.int .i64 0, .int .i64 0, .bool false]) ∧ w' = w := by
  have h9 : ((s.size : Int) == 8) = false := by rw [beq_eq_false_iff_ne]; omega
  go_enter Try.func30, Try.ntmps30
  go_wp2
  exact bodyPost_ret (v := .tuple #[.int .i64 0, .int .i64 0, .bool false]) (by simp [results, Try.results30, go_sem]) rfl ⟨rfl, rfl⟩
/-- what the loop has read -/
def rn (l : List UInt8) (k : Nat) : Nat := num ((l.take k).drop 1)
theorem rn_snoc (s : ByteArray) (k : Nat) (h : k < s.size) (h1 : 1 ≤ k) : rn s.data.toList (k + 1) = rn s.data.toList k * 10 + (s[k].toNat - 48) := by
  rw [rn, Lib0.take_snoc s k h, List.drop_append_of_le_length (by rw [List.length_take]; have : s.data.toList.length = s.size := by simp
                                                                  omega), num_snoc]
  rfl
theorem rn_lt (l : List UInt8) (k : Nat) (h : (l.take k).all dg = true) (hk : k ≤ 8) : rn l k < 10000000 := by
  have h1 := num_lt ((l.take k).drop 1) (List.all_eq_true.2 fun x hx => List.all_eq_true.1 h x (List.mem_of_mem_drop hx))
  have h2 : (10 : Nat) ^ ((l.take k).drop 1).length ≤ 10 ^ 7 := Nat.pow_le_pow_right (by decide) (by rw [List.length_drop, List.length_take]; omega)
  unfold rn; omega
set_option maxRecDepth 100000 in
set_option maxHeartbeats 800000 in
theorem rater_8 (s : ByteArray) (h8 : s.size = 8) (w : World) : Calls Try.prog 30 #[.string s] w fun e w' => ∃ u v : Int, e = .returned (.tuple #[.int .i64 u, .int .i64 v, .bool (rtB s.data.toList)]) ∧ (rtB s.data.toList = true → u = rtP s.data.toList ∧ v = rtN s.data.toList) ∧ w' = w := by
  have h9 : (s.size : Int) = 8 := by omega
  have HL : Hid (s.data.toList.length = 8) := by show _ = _; simpa using h8
  have H8 : Hid (s.size = 8) := h8
  clear h8
  obtain ⟨B, hB⟩ : ∃ B, B = rtB s.data.toList := ⟨_, rfl⟩
  have HB : Hid (B = rtB s.data.toList) := hB
  rw [← hB]
  clear hB
  go_enter Try.func30, Try.ntmps30
  go_wp2_with fail
  clear h9
  go_loop [5, 6] (fun n i => ∃ (k : Nat) (V : Int), k ≤ 8 ∧ i = .int .i64 (k : Int) ∧ n = .int .i64 V ∧ Hid (V = (rn s.data.toList k : Int)) ∧ Hid ((s.data.toList.take k).all dg = true)) (fun _ i => 8 - (intOf i).toNat)
  case atStart => exact ⟨0, 0, Nat.zero_le _, rfl, rfl, rfl, rfl⟩
  case round =>
    obtain ⟨k, V, hk, rfl, rfl, HN, Hal⟩ := hrel
    have hN : V < 10000000 := by have := rn_lt _ k Hal.out hk; have := HN.out; omega
    have hN0 : 0 ≤ V := by have := HN.out; omega
    by_cases hlt : k < 8
    · have hls : k < s.size := by have := H8.out; omega
      have q : (k : Int) < 8 := by omega
      have q2 : (k : Int) < (s.size : Int) := by omega
      by_cases h1 : (48 : Int) ≤ (s[k].toNat : Int) <;> by_cases h2 : (s[k].toNat : Int) ≤ 57
      · have HA : Hid ((s.data.toList.take (k + 1)).all dg = true) := Lib0.all_snoc dg s k hls Hal.out ((dg_iff _).2 (by omega))
        by_cases h0 : k = 0
        · subst h0
          have HN2 : Hid ((0 : Int) = (rn s.data.toList 1 : Int)) := by
            show _ = _
            rw [rn, List.drop_eq_nil_of_le (by rw [List.length_take]; omega)]; rfl
          obtain rfl : V = 0 := by rw [HN.out]; rfl
          go_wp2
          go_round
          case rel => exact ⟨1, 0, by omega, by go_num, by go_num, HN2, HA⟩
          case measure => simp [intOf]
        · have q1 : (0 : Int) < (k : Int) := by omega
          have HN2 : Hid (10 * V + ((s[k].toNat : Int) - 48) = (rn s.data.toList (k + 1) : Int)) := by
            show _ = _
            rw [rn_snoc s k hls (by omega)]
            have := HN.out
            omega
          clear h0
          go_wp2
          go_round
          case rel => exact ⟨k + 1, 10 * V + ((s[k].toNat : Int) - 48), by omega, by go_num, by go_num, HN2, HA⟩
          case measure => simp [intOf]; omega
      all_goals
        have HF : Hid (B = false) := by
          show _ = _
          rw [HB.out]
          exact rtB_nod (all_no dg s k hls (by rw [Bool.eq_false_iff, Ne, dg_iff]; omega))
        go_wp2
        exact bodyPost_ret (v := .tuple #[.int .i64 0, .int .i64 0, .bool false]) (by simp [results, Try.results30, go_sem]) rfl ⟨0, 0, by rw [HF.out], (fun h => by rw [HF.out] at h; cases h), rfl⟩
    · obtain rfl : k = 8 := by omega
      have hl := HL.out
      have h0s : 0 < s.size := by have := H8.out; omega
      have hd : ad s.data.toList = true := by have := Hal.out; rw [List.take_of_length_le (by omega)] at this; exact this
      have hc := (dg_iff _).1 (List.all_eq_true.1 hd s[0] (List.getElem_mem (show 0 < s.data.toList.length by omega)))
      have c1 : (48 : Int) ≤ (s[0].toNat : Int) := by omega
      have c2 : (s[0].toNat : Int) ≤ 57 := by omega
      have hP : rtP s.data.toList = s[0].toNat - 48 := by
        obtain ⟨c, l, e⟩ : ∃ c l, s.data.toList = c :: l := by cases hh : s.data.toList with
          | nil => rw [hh] at hl; cases hl
          | cons c l => exact ⟨c, l, rfl⟩
        have : s[0] = c := by
          have h2 : s.data.toList[0]'(by omega) = c := by simp only [e, List.getElem_cons_zero]
          exact h2
        rw [rtP, e, this]; simp [num]
      have hNN : V = (rtN s.data.toList : Int) := by rw [HN.out, rn, List.take_of_length_le (by omega), rtN]
      obtain ⟨N, hN2⟩ : ∃ N, N = rtN s.data.toList := ⟨_, rfl⟩
      rw [← hN2] at hNN
      have hBB : B = (decide (rtP s.data.toList ≤ 7) && decide (0 < rtN s.data.toList)) := by
        rw [HB.out]
        unfold rtB rtP rtN
        rw [hd, decide_eq_true hl]
        rfl
      obtain ⟨P, hPP⟩ : ∃ P, P = rtP s.data.toList := ⟨_, rfl⟩
      have k1 : IntKind.u8.wrap ((s[0].toNat : Int) - 48) = (P : Int) := by
        simp [IntKind.wrap, IntKind.signed, IntKind.bits]; omega
      have k2 : IntKind.i64.wrap (P : Int) = (P : Int) := by simp [IntKind.wrap, IntKind.signed, IntKind.bits]; omega
      rw [← hPP, ← hN2] at hBB
      have HZ : Hid (rtB s.data.toList = true → (P : Int) = rtP s.data.toList ∧ (N : Int) = rtN s.data.toList) := fun _ => ⟨by rw [hPP], by rw [hN2]⟩
      have HB1 : Hid (B = (decide (P ≤ 7) && decide (0 < N))) := hBB
      subst hNN
      clear hBB hPP hP hN2 hc hd hl hN hN0
      rw [← HB.out] at HZ
      by_cases h1 : (P : Int) ≤ 7
      · have HC : Hid (B = decide (0 < N)) := by show _ = _; rw [HB1.out, decide_eq_true (show P ≤ 7 by omega)]; rfl
        clear HB1
        go_wp2
        exact bodyPost_ret (v := .tuple #[.int .i64 (P : Int), .int .i64 (N : Int), .bool (decide (0 < N))]) (by simp [results, Try.results30, go_sem]) rfl ⟨P, N, by rw [HC.out], HZ.out, rfl⟩
      · have HC : Hid (B = false) := by show _ = _; rw [HB1.out, decide_eq_false (show ¬ P ≤ 7 by omega)]; rfl
        have h1n : ¬ P ≤ 7 := by omega
        clear HB1
        go_wp2
        exact bodyPost_ret (v := .tuple #[.int .i64 (P : Int), .int .i64 (N : Int), .bool false]) (by simp [results, Try.results30, go_sem]) rfl ⟨P, N, by rw [HC.out], HZ.out, rfl⟩
end Go.Proofs.Ytgojcebdlafbeaa.Rr
