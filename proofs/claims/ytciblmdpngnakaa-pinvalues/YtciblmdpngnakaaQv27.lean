import Derived.Test.YtciblmdpngnakaaQv26
import Derived.Test.YtciblmdpngnakaaQv13
import Derived.Test.YtciblmdpngnakaaQv05
import Derived.Test.YtciblmdpngnakaaQv21
/- turned: what the program answers is what the document answers. -/
namespace Go.Proofs.Ytciblmdpngnakaa.Tu
set_option linter.unusedVariables false
open Go.RowKit Pla Cb Wd Nw Bk Eb Et Cc Ch Pm Ro Rl Ru
open Bl (len_size mk_eq)
def RetE (R : ByteArray) (E : Int) (w : World) : Ending → World → Prop := fun e w' => e = .returned (.tuple #[.string R, .int .i64 E]) ∧ Below w.heap.size w w'
theorem good_len {n K : Nat} (h : kindN n = K) (h1 : 1 ≤ K) : n = 8 ∨ n = 16 ∨ n = 24 := by
  unfold kindN at h
  split at h
  · omega
  · split at h
    · omega
    · split at h <;> omega
theorem map_turn (k s : ByteArray) (N : Nat) (hN : s.size = 8 * N) (back : Bool) : (⟨(mapB (if back then dec k.data.toList else enc k.data.toList) s.data.toList).toArray⟩ : ByteArray) = turnB k.data.toList back s N := by
  rw [turnB, ← mapB_N _ s N hN]
  cases back <;> rfl
end Go.Proofs.Ytciblmdpngnakaa.Tu
/- PINs: the document's small functions and rows of halves. -/
namespace Go.Proofs.Ytciblmdpngnakaa.Ra
set_option linter.unusedVariables false
open Go.RowKit Lib0 Six Pp Cb
open Pf (ret_bool all_no)
open Pg (emB em_eq ba_ext)
open Rb (nv nv_len nv_get nv_snoc nv_take range_cell own_range New infoI)
set_option maxRecDepth 100000 in
theorem digits_ref (s : ByteArray) (a b : Nat) (w : World) (hs : s.size ≤ maxLen) :
    Calls Try.prog 61 #[.string s, .int .i64 (a : Int), .int .i64 (b : Int)] w fun e w' => e = .returned (.bool (decide (a ≤ s.size) && decide (s.size ≤ b) && adg s)) ∧ w' = w := by
  unfold maxLen at hs
  go_enter Try.func61, Try.ntmps61
  go_wp2
  go_loop [7] (fun i => ∃ k : Nat, k ≤ s.size ∧ i = .int .i64 k ∧ (s.data.toList.take k).all dg = true) (fun i => s.size - (intOf i).toNat)
  case atStart => exact ⟨0, Nat.zero_le _, rfl, rfl⟩
  case round =>
    obtain ⟨k, hk, rfl, hal⟩ := hrel
    have Hal : Hid ((s.data.toList.take k).all dg = true) := hal
    clear hal
    by_cases hlt : k < s.size
    · by_cases h1 : ((s[k].toNat : Nat) : Int) < 48
      · have hp : dg s[k] = false := by rw [Bool.eq_false_iff, Ne, dg_iff]; omega
        go_wp2
        go_ret
        exact ⟨ret_bool (by rw [show adg s = false from all_no dg s k hlt hp]; simp), rfl⟩
      · by_cases h2 : (57 : Int) < ((s[k].toNat : Nat) : Int)
        · have hp : dg s[k] = false := by rw [Bool.eq_false_iff, Ne, dg_iff]; omega
          go_wp2
          go_ret
          exact ⟨ret_bool (by rw [show adg s = false from all_no dg s k hlt hp]; simp), rfl⟩
        · have hp : dg s[k] = true := by rw [dg_iff]; omega
          have h1' : (48 : Int) ≤ ((s[k].toNat : Nat) : Int) := by omega
          have h2' : ((s[k].toNat : Nat) : Int) ≤ 57 := by omega
          go_wp2
          go_round
          case rel => exact ⟨k + 1, by omega, by go_num, all_snoc dg s k hlt Hal.out hp⟩
          case measure => simp [intOf]; omega
    · have HA : Hid (adg s = true) := by have := Hal.out; rw [take_all s k (by omega)] at this; exact this
      by_cases g1 : (a : Int) ≤ s.size <;> by_cases g2 : (s.size : Int) ≤ b
      all_goals
        go_wp2
        go_ret
        exact ⟨ret_bool (by rw [HA.out]; first | (rw [show decide (a ≤ s.size) = true by simp; omega, show decide (s.size ≤ b) = true by simp; omega]; rfl) | (rw [show decide (a ≤ s.size) = false by simp; omega]; rfl) | (rw [show decide (s.size ≤ b) = false by simp; omega, Bool.and_false]; rfl)), rfl⟩
theorem isPINr_any (s : ByteArray) (w : World) (hs : s.size ≤ maxLen) :
    Calls Try.prog 33 #[.string s] w fun e w' => e = .returned (.bool (pinB s)) ∧ w' = w := by
  have P := fun u => digits_ref s 4 12 u hs
  go_enter Try.func33, Try.ntmps33
  go_wp2_with fail
  refine (P _).mono ?_
  rintro e w' ⟨rfl, rfl⟩
  go_wp2
  go_ret
  exact ⟨rfl, rfl⟩
theorem isPANr_any (s : ByteArray) (w : World) (hs : s.size ≤ maxLen) :
    Calls Try.prog 34 #[.string s] w fun e w' => e = .returned (.bool (panB s)) ∧ w' = w := by
  have P := fun u => digits_ref s 13 19 u hs
  go_enter Try.func34, Try.ntmps34
  go_wp2_with fail
  refine (P _).mono ?_
  rintro e w' ⟨rfl, rfl⟩
  go_wp2
  go_ret
  exact ⟨rfl, rfl⟩
theorem six_val' : ∀ c : Fin 256, six (UInt8.ofNat c.val) = if 48 ≤ c.val ∧ c.val ≤ 57 then (c.val : Int) - 48 else if 65 ≤ c.val ∧ c.val ≤ 70 then (c.val : Int) - 55 else -1 := by decide +kernel
theorem six_val (c : UInt8) : six c = if 48 ≤ c.toNat ∧ c.toNat ≤ 57 then (c.toNat : Int) - 48 else if 65 ≤ c.toNat ∧ c.toNat ≤ 70 then (c.toNat : Int) - 55 else -1 := by
  have := six_val' ⟨c.toNat, c.toNat_lt⟩
  simp only [u8of] at this
  exact this
theorem sixr_any (c : UInt8) (w : World) :
    Calls Try.prog 36 #[.int .u8 (c.toNat : Int)] w fun e w' => e = .returned (.int .i64 (six c)) ∧ w' = w := by
  have V := six_val c
  have b : (c.toNat : Int) < 256 := Lib0.toNat_lt c
  by_cases h1 : (48 : Int) ≤ c.toNat <;> by_cases h2 : (c.toNat : Int) ≤ 57 <;> by_cases h3 : (65 : Int) ≤ c.toNat <;> by_cases h4 : (c.toNat : Int) ≤ 70
  all_goals
    first
    | omega
    | (rw [if_pos (by omega)] at V
       rw [V]
       clear V
       go_enter Try.func36, Try.ntmps36
       go_wp2
       go_ret
       exact ⟨rfl, rfl⟩)
    | (rw [if_neg (by omega), if_pos (by omega)] at V
       rw [V]
       clear V
       go_enter Try.func36, Try.ntmps36
       go_wp2
       go_ret
       exact ⟨rfl, rfl⟩)
    | (rw [if_neg (by omega), if_neg (by omega)] at V
       rw [V]
       clear V
       go_enter Try.func36, Try.ntmps36
       go_wp2
       go_ret
       exact ⟨rfl, rfl⟩)
theorem known_ref (f : Int) (w : World) :
    Calls Try.prog 32 #[.int .i64 f] w fun e w' => e = .returned (.bool (kn f)) ∧ w' = w := by
  by_cases h0 : (f == 0) = true
  · have e : kn f = true := by rw [kn_iff]; left; simpa using h0
    rw [e]
    go_enter Try.func32, Try.ntmps32
    go_wp2
    go_ret
    exact ⟨by simp, rfl⟩
  · have h0' : (f == 0) = false := by simpa using h0
    by_cases h1 : (f == 1) = true
    · have e : kn f = true := by rw [kn_iff]; right; left; simpa using h1
      rw [e]
      go_enter Try.func32, Try.ntmps32
      go_wp2
      go_ret
      exact ⟨by simp, rfl⟩
    · have h1' : (f == 1) = false := by simpa using h1
      by_cases h3 : (f == 3) = true
      · have e : kn f = true := by rw [kn_iff]; right; right; simpa using h3
        rw [e]
        go_enter Try.func32, Try.ntmps32
        go_wp2
        go_ret
        exact ⟨by simp, rfl⟩
      · have h3' : (f == 3) = false := by simpa using h3
        have e : kn f = false := by
          rw [Bool.eq_false_iff, Ne, kn_iff]
          rintro (rfl | rfl | rfl) <;> simp at *
        rw [e]
        go_enter Try.func32, Try.ntmps32
        go_wp2
        go_ret
        exact ⟨by simp, rfl⟩
end Go.Proofs.Ytciblmdpngnakaa.Ra
