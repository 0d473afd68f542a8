/- Number and Write, the document's. -/
import Derived.Test.YtekbonfaaofdiaaDoorNum
namespace Go.Proofs.YtekbonfaaofdiaaDoor.Nmr
open Go.RowKit Lib0 Chars Pck Num
theorem digit_any (c : UInt8) (w : World) :
    Calls Tryd.prog 34 #[.int .u8 (c.toNat : Int)] w fun e w' => e = .returned (.bool (dig c)) ∧ w' = w := by
  by_cases h1 : (48 : Int) ≤ c.toNat <;> by_cases h2 : (c.toNat : Int) ≤ 57
  all_goals
    go_enter Tryd.func34, Tryd.ntmps34
    go_wp2
    go_ret
    exact ⟨ret_bool (by unfold dig; first | (rw [eq_comm, decide_eq_true_eq]; omega) | (rw [eq_comm, decide_eq_false_iff_not]; omega)), rfl⟩
theorem numV_bd2 (s : ByteArray) : ∀ k, k ≤ s.size → (s.data.toList.take k).all dig = true → 0 ≤ numV (s.data.toList.take k) ∧ numV (s.data.toList.take k) < 10 ^ k
  | 0, _, _ => by simp [numV]
  | k + 1, h, ha => by
    rw [take_snoc s k (by omega), List.all_append, Bool.and_eq_true] at ha
    have ih := numV_bd2 s k (by omega) ha.1
    have hd := dig_bd s[k] (by simpa using ha.2)
    rw [take_snoc s k (by omega), numV_snoc, Int.pow_succ]
    omega
set_option maxRecDepth 100000 in
set_option maxHeartbeats 800000 in
theorem number_ref (s : ByteArray) (w : World) (hm : s.size ≤ maxLen) :
    Calls Tryd.prog 13 #[.string s] w fun e w' => e = .returned (.tuple #[.int .i64 (numR s.data.toList).1, .int .i64 (numR s.data.toList).2]) ∧ w' = w := by
  have hl := len_eq s
  unfold maxLen at hm
  by_cases h1 : s.size = 0 ∨ 18 < s.size
  · have HE : Hid (numR s.data.toList = (0, 1)) := by show _ = _; unfold numR; rw [if_pos (by omega)]
    by_cases h2 : (s.size : Int) < 1
    · clear h1 hl
      go_enter Tryd.func13, Tryd.ntmps13
      go_wp2
      go_ret2
      exact ⟨by rw [HE.out]; rfl, rfl⟩
    · have h3 : (18 : Int) < (s.size : Int) := by omega
      clear h1 hl
      go_enter Tryd.func13, Tryd.ntmps13
      go_wp2
      go_ret2
      exact ⟨by rw [HE.out]; rfl, rfl⟩
  · have h2 : ¬ (s.size : Int) < 1 := by omega
    have h3 : ¬ (18 : Int) < (s.size : Int) := by omega
    have h18 : s.size ≤ 18 := by omega
    have HL : Hid (s.data.toList.length = s.size) := hl
    have H1 : Hid (¬ (s.data.toList.length = 0 ∨ 18 < s.data.toList.length)) := by show ¬ _; omega
    clear h1 hl
    go_enter Tryd.func13, Tryd.ntmps13
    go_wp2
    go_loop [4, 5] (fun n i => ∃ k : Nat, k ≤ s.size ∧ i = .int .i64 k ∧ (s.data.toList.take k).all dig = true ∧ n = .int .i64 (numV (s.data.toList.take k))) (fun _ i => s.size - (intOf i).toNat)
    case atStart => exact ⟨0, Nat.zero_le _, rfl, rfl, rfl⟩
    case round =>
      obtain ⟨k, hk, rfl, hal, rfl⟩ := hrel
      have hb := numV_bd2 s k hk hal
      have Hal : Hid ((s.data.toList.take k).all dig = true) := hal
      clear hal
      have hb1 := hb.1
      by_cases hlt : k < s.size
      · have hp := pow_le17 k (by omega)
        have hb2 : numV (s.data.toList.take k) < 100000000000000000 := by omega
        clear hb hp
        have HS : Hid (numV (s.data.toList.take (k + 1)) = 10 * numV (s.data.toList.take k) + ((s[k].toNat : Int) - 48)) := by show _ = _; rw [take_snoc s k hlt, numV_snoc]
        go_wp2_with fail
        refine (digit_any s[k] _).mono ?_
        rintro e w' ⟨rfl, rfl⟩
        cases hp : dig s[k]
        · have HE : Hid (numR s.data.toList = (0, 11)) := by
            have h1 := fuL_hit dig s.data.toList k (by rw [HL.out]; exact hlt) Hal.out hp
            show _ = _; unfold numR; rw [if_neg H1.out, if_pos (by rw [h1, HL.out]; exact hlt)]
          clear hp
          go_wp2
          go_ret2
          exact ⟨by rw [HE.out]; rfl, rfl⟩
        · have hd := dig_bd _ hp
          have d1 : (48 : Int) ≤ (s[k].toNat : Int) := by omega
          have d2 : (s[k].toNat : Int) ≤ 57 := by omega
          have Hp : Hid (dig s[k] = true) := hp
          clear hd hp
          generalize numV (s.data.toList.take k) = v at *
          go_wp2
          go_round
          case rel => exact ⟨k + 1, by omega, by go_num, all_snoc dig s k hlt Hal.out Hp.out, by rw [HS.out]⟩
          case measure => simp [intOf]; omega
      · have HA : Hid (s.data.toList.all dig = true) := by have := Hal.out; rwa [take_all s k (by omega)] at this
        have HE : Hid (numR s.data.toList = (numV s.data.toList, 0)) := by
          have := fuL_all dig _ HA.out
          show _ = _; unfold numR; rw [if_neg H1.out, if_neg (by omega)]
        clear hb
        go_wp2
        go_ret2
        exact ⟨by rw [HE.out]; exact ret_ii (by rw [take_all s k (by omega)]) rfl, rfl⟩
theorem power_any (m : Nat) (w : World) (h : m ≤ 18) :
    Calls Tryd.prog 37 #[.int .i64 (m : Int)] w fun e w' => e = .returned (.int .i64 ((10 ^ m : Nat) : Int)) ∧ w' = w := by
  go_enter Tryd.func37, Tryd.ntmps37
  go_wp2
  go_loop [3, 4] (fun p i => ∃ k : Nat, k ≤ m ∧ i = .int .i64 k ∧ p = .int .i64 ((10 ^ k : Nat) : Int)) (fun _ i => m - (intOf i).toNat)
  case atStart => exact ⟨0, Nat.zero_le _, rfl, rfl⟩
  case round =>
    obtain ⟨k, hk, rfl, rfl⟩ := hrel
    by_cases hlt : k < m
    · have hp : (10 : Nat) ^ k ≤ 100000000000000000 := by
        have h1 : (10 : Nat) ^ k ≤ 10 ^ 17 := Nat.pow_le_pow_right (by omega) (by omega)
        have h3 : (10 : Nat) ^ 17 = 100000000000000000 := by decide
        omega
      have HP : Hid ((10 : Nat) ^ (k + 1) = 10 * 10 ^ k) := by show _ = _; rw [Nat.pow_succ]; omega
      generalize hv : (10 : Nat) ^ k = v at *
      clear hv
      go_wp2
      go_round
      case rel => exact ⟨k + 1, by omega, by go_num, by rw [HP.out]; go_num⟩
      case measure => simp [intOf]; omega
    · have hkm : k = m := by omega
      subst hkm
      go_wp2
      go_ret
      exact ⟨rfl, rfl⟩
theorem dgs_cons : ∀ (k n : Nat), dgs (k + 1) n = UInt8.ofNat (48 + n / 10 ^ k % 10) :: dgs k n
  | 0, n => by simp [dgs]
  | k + 1, n => by
    rw [dgs, dgs_cons k (n / 10), dgs, Nat.div_div_eq_div_mul, ← Nat.pow_succ']
    rfl
theorem hexs_at (d : Nat) (h : d < 10) : ((ByteArray.mk #[48, 49, 50, 51, 52, 53, 54, 55, 56, 57, 65, 66, 67, 68, 69, 70]).extract d (d + 1)).data.toList = [UInt8.ofNat (48 + d)] := by
  have : ∀ m : Fin 10, ((ByteArray.mk #[48, 49, 50, 51, 52, 53, 54, 55, 56, 57, 65, 66, 67, 68, 69, 70]).extract m.val (m.val + 1)).data.toList = [UInt8.ofNat (48 + m.val)] := by decide
  exact this ⟨d, h⟩
set_option maxRecDepth 100000 in
set_option maxHeartbeats 800000 in
theorem write_ref (n width : Int) (w : World) (hn : n ≤ 9223372036854775807) :
    Calls Tryd.prog 15 #[.int .i64 n, .int .i64 width] w fun e w' => e = .returned (.tuple #[.string ⟨(writeR n width).1.toArray⟩, .int .i64 (writeR n width).2]) ∧ w' = w := by
  by_cases h1 : n < 0 ∨ width < 1 ∨ 18 < width
  · have HE : Hid (writeR n width = ([], 1)) := by show _ = _; unfold writeR; rw [if_pos h1]
    by_cases g1 : n < 0
    · clear h1
      go_enter Tryd.func15, Tryd.ntmps15
      go_wp2
      go_ret2
      exact ⟨by rw [HE.out]; rfl, rfl⟩
    · by_cases g2 : width < 1
      · clear h1
        go_enter Tryd.func15, Tryd.ntmps15
        go_wp2
        go_ret2
        exact ⟨by rw [HE.out]; rfl, rfl⟩
      · have g3 : 18 < width := by omega
        clear h1
        go_enter Tryd.func15, Tryd.ntmps15
        go_wp2
        go_ret2
        exact ⟨by rw [HE.out]; rfl, rfl⟩
  · obtain ⟨u, rfl⟩ : ∃ u : Nat, n = (u : Int) := ⟨n.toNat, by omega⟩
    obtain ⟨m, rfl⟩ : ∃ m : Nat, width = (m : Int) := ⟨width.toNat, by omega⟩
    have m1 : 1 ≤ m := by omega
    have m2 : m ≤ 18 := by omega
    by_cases h2 : u < 10 ^ m
    · have HE : Hid (writeR (u : Int) (m : Int) = (dgs m u, 0)) := by show _ = _; unfold writeR; rw [if_neg h1, if_pos (by simpa using h2)]; simp
      obtain ⟨q, Hq, hq⟩ : ∃ q : Nat, Hid (10 ^ m = q) ∧ (u : Int) < (q : Int) := ⟨_, rfl, by omega⟩
      clear h1 h2
      go_enter Tryd.func15, Tryd.ntmps15
      go_wp2_with fail
      refine (power_any m _ m2).mono ?_
      rintro e w' ⟨rfl, rfl⟩
      rw [Hq.out]
      go_wp2
      go_loop [0, 6, 7] (fun x s i => ∃ (k v : Nat) (r : ByteArray), k ≤ m ∧ i = .int .i64 k ∧ Hid (v = u / 10 ^ k) ∧ x = .int .i64 v ∧ v ≤ u ∧ r.size = k ∧ Hid (r.data.toList = dgs k u) ∧ s = .string r) (fun _ _ i => m - (intOf i).toNat)
      case atStart => exact ⟨0, u, ⟨#[]⟩, Nat.zero_le _, rfl, (by show _ = _; simp), rfl, Nat.le_refl _, rfl, rfl, rfl⟩
      case round =>
        obtain ⟨k, v, r, hk, rfl, Hv, rfl, hvu, hrs, Hr, rfl⟩ := hrel
        by_cases hlt : k < m
        · have e1 : (0 : Int) ≤ (v : Int) % 10 := by omega
          have e2 : (v : Int) % 10 < 10 := by omega
          have hrs2 : r.size ≤ 18 := by omega
          have HRS : Hid (r.size = k) := hrs
          clear hrs
          have HX : Hid (((ByteArray.mk #[48, 49, 50, 51, 52, 53, 54, 55, 56, 57, 65, 66, 67, 68, 69, 70]).extract (v % 10) (v % 10 + 1) ++ r).data.toList = dgs (k + 1) u) := by
            show _ = _
            rw [ByteArray.data_append, Array.toList_append, hexs_at _ (by omega), Hr.out, dgs_cons, Hv.out]; rfl
          have HY : Hid (((ByteArray.mk #[48, 49, 50, 51, 52, 53, 54, 55, 56, 57, 65, 66, 67, 68, 69, 70]).extract (v % 10) (v % 10 + 1) ++ r).size = k + 1) := by
            show _ = _
            rw [← len_eq, HX.out, dgs_length]
          go_wp2
          go_round
          case rel => exact ⟨k + 1, v / 10, _, by omega, by go_num, (by show _ = _; rw [Hv.out, Nat.div_div_eq_div_mul, Nat.pow_succ]), by go_num, by omega, HY.out, HX, rfl⟩
          case measure => simp [intOf]; omega
        · have hkm : k = m := by omega
          subst hkm
          go_wp2
          go_ret2
          exact ⟨by rw [HE.out]; exact ret_ss (by apply ByteArray.ext; rw [← Hr.out]) rfl, rfl⟩
    · have HE : Hid (writeR (u : Int) (m : Int) = ([], 13)) := by show _ = _; unfold writeR; rw [if_neg h1, if_neg (by simpa using h2)]
      obtain ⟨q, Hq, hq⟩ : ∃ q : Nat, Hid (10 ^ m = q) ∧ ¬ (u : Int) < (q : Int) := ⟨_, rfl, by omega⟩
      clear h1 h2
      go_enter Tryd.func15, Tryd.ntmps15
      go_wp2_with fail
      refine (power_any m _ m2).mono ?_
      rintro e w' ⟨rfl, rfl⟩
      rw [Hq.out]
      go_wp2
      go_ret2
      exact ⟨by rw [HE.out]; rfl, rfl⟩
end Go.Proofs.YtekbonfaaofdiaaDoor.Nmr
