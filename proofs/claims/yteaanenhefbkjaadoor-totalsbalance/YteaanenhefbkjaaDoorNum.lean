/- Number and Write, the program's. -/
import Derived.Test.YteaanenhefbkjaaDoorChars
import Derived.Lib.ItoaNum
import Derived.Lib.Repeat
namespace Go.Proofs.YteaanenhefbkjaaDoor.Num
open Go.RowKit Lib0 Chars
theorem len_eq (s : ByteArray) : s.data.toList.length = s.size := rfl
def stepN (n : Int) (c : UInt8) : Int := 10 * n + ((c.toNat : Int) - 48)
def numV (l : List UInt8) : Int := l.foldl stepN 0
def numR (l : List UInt8) : Int × Int := if l.length = 0 ∨ 18 < l.length then (0, 1) else if fuL dig l < l.length then (0, 11) else (numV l, 0)
theorem numV_snoc (l : List UInt8) (c : UInt8) : numV (l ++ [c]) = 10 * numV l + ((c.toNat : Int) - 48) := by simp [numV, stepN]
theorem dig_bd (c : UInt8) (h : dig c = true) : 48 ≤ c.toNat ∧ c.toNat ≤ 57 := of_decide_eq_true h
theorem all_at0 {p : UInt8 → Bool} (s : ByteArray) (ha : s.data.toList.all p = true) (k : Nat) (h : k < s.size) : p s[k] = true :=
  List.all_eq_true.1 ha s[k] (by show s.data[k] ∈ s.data.toList; simp)
theorem numV_bd (s : ByteArray) (ha : s.data.toList.all dig = true) : ∀ k, k ≤ s.size → 0 ≤ numV (s.data.toList.take k) ∧ numV (s.data.toList.take k) < 10 ^ k
  | 0, _ => by simp [numV]
  | k + 1, h => by
    have ih := numV_bd s ha k (by omega)
    have hd := dig_bd _ (all_at0 s ha k (by omega))
    rw [take_snoc s k (by omega), numV_snoc, Int.pow_succ]
    omega
theorem pow_le18 (k : Nat) (h : k ≤ 18) : (10 : Int) ^ k ≤ 1000000000000000000 := by
  have h1 : (10 : Nat) ^ k ≤ 10 ^ 18 := Nat.pow_le_pow_right (by omega) h
  have h2 : ((10 ^ k : Nat) : Int) = (10 : Int) ^ k := by simp
  have h3 : (10 : Nat) ^ 18 = 1000000000000000000 := by decide
  omega
theorem pow_le17 (k : Nat) (h : k ≤ 17) : (10 : Int) ^ k ≤ 100000000000000000 := by
  have h1 : (10 : Nat) ^ k ≤ 10 ^ 17 := Nat.pow_le_pow_right (by omega) h
  have h2 : ((10 ^ k : Nat) : Int) = (10 : Int) ^ k := by simp
  have h3 : (10 : Nat) ^ 17 = 100000000000000000 := by decide
  omega
theorem not_empty (s : ByteArray) (h : 0 < s.size) : s.toList.isEmpty = false := by
  rw [ByteArray.toList_eq]
  cases he : s.data.toList
  · have := len_eq s; rw [he] at this; simp at this; omega
  · rfl
theorem ret_ii {a b c d : Int} (h : a = b) (h2 : c = d) : Ending.returned (.tuple #[.int .i64 a, .int .i64 c]) = .returned (.tuple #[.int .i64 b, .int .i64 d]) := by rw [h, h2]
set_option maxRecDepth 100000 in
set_option maxHeartbeats 800000 in
theorem number_any (s : ByteArray) (w : World) (hm : s.size ≤ maxLen) :
    Calls Tryd.prog 42 #[.string s] w fun e w' => e = .returned (.tuple #[.int .i64 (numR s.data.toList).1, .int .i64 (numR s.data.toList).2]) ∧ w' = w := by
  have hl := len_eq s
  unfold maxLen at hm
  by_cases h1 : s.size = 0 ∨ 18 < s.size
  · have HE : Hid (numR s.data.toList = (0, 1)) := by show _ = _; unfold numR; rw [if_pos (by omega)]
    rcases h1 with h1 | h1
    · have hs0 : s = ⟨#[]⟩ := by
        apply ByteArray.ext
        exact Array.eq_empty_of_size_eq_zero h1
      rw [HE.out]
      subst hs0
      clear HE hl h1
      go_enter Tryd.func42, Tryd.ntmps42
      go_wp2
      go_ret2
      exact ⟨rfl, rfl⟩
    · have h2 : (18 : Int) < (s.size : Int) := by omega
      have h3 : s.toList.isEmpty = false := not_empty s (by omega)
      rw [HE.out]
      clear HE hl
      go_enter Tryd.func42, Tryd.ntmps42
      go_wp2
      go_ret2
      exact ⟨rfl, rfl⟩
  · have h2 : ¬ (18 : Int) < (s.size : Int) := by omega
    have h3 : s.toList.isEmpty = false := not_empty s (by omega)
    by_cases hf : fuL dig s.data.toList < s.size
    · have HE : Hid (numR s.data.toList = (0, 11)) := by show _ = _; unfold numR; rw [if_neg (by omega), if_pos (by omega)]
      have hf2 : (fuL dig s.data.toList : Int) < (s.size : Int) := by omega
      have h18 : s.size ≤ 18 := by omega
      clear hf hl
      go_enter Tryd.func42, Tryd.ntmps42
      go_wp2_with fail
      refine (fu_dig s _ (by omega)).mono ?_
      rintro e w' ⟨rfl, rfl⟩
      go_wp2
      go_ret2
      exact ⟨by rw [HE.out]; rfl, rfl⟩
    · have HE : Hid (numR s.data.toList = (numV s.data.toList, 0)) := by show _ = _; unfold numR; rw [if_neg (by omega), if_neg (by omega)]
      have HA : Hid (s.data.toList.all dig = true) := fuL_eq _ _ (by have := fuL_le dig s.data.toList; omega)
      have hf2 : ¬ (fuL dig s.data.toList : Int) < (s.size : Int) := by omega
      have h18 : s.size ≤ 18 := by omega
      clear hf hl
      go_enter Tryd.func42, Tryd.ntmps42
      go_wp2_with fail
      refine (fu_dig s _ (by omega)).mono ?_
      rintro e w' ⟨rfl, rfl⟩
      go_wp2
      go_loop [4, 20] (fun n i => ∃ k : Nat, k ≤ s.size ∧ i = .int .i64 k ∧ n = .int .i64 (numV (s.data.toList.take k))) (fun _ i => s.size - (intOf i).toNat)
      case atStart => exact ⟨0, Nat.zero_le _, rfl, rfl⟩
      case round =>
        obtain ⟨k, hk, rfl, rfl⟩ := hrel
        have hb := numV_bd s HA.out k hk
        have hb1 := hb.1
        by_cases hlt : k < s.size
        · have hp := pow_le17 k (by omega)
          have hb2 : numV (s.data.toList.take k) < 100000000000000000 := by omega
          clear hb hp
          have hd := dig_bd _ (all_at0 s HA.out k hlt)
          have d1 : (48 : Int) ≤ (s[k].toNat : Int) := by omega
          have d2 : (s[k].toNat : Int) ≤ 57 := by omega
          clear hd
          have HS : Hid (numV (s.data.toList.take (k + 1)) = 10 * numV (s.data.toList.take k) + ((s[k].toNat : Int) - 48)) := by show _ = _; rw [take_snoc s k hlt, numV_snoc]
          generalize numV (s.data.toList.take k) = v at *
          go_wp2
          go_round
          case rel => exact ⟨k + 1, by omega, by go_num, by rw [HS.out]⟩
          case measure => simp [intOf]; omega
        · go_wp2
          go_ret2
          exact ⟨by rw [HE.out]; exact ret_ii (by rw [take_all s k (by omega)]) rfl, rfl⟩
end Go.Proofs.YteaanenhefbkjaaDoor.Num
