/- Turn and Chain, the document's. -/
import Derived.Test.YtciblmdpngnakaaRl
namespace Go.Proofs.Ytciblmdpngnakaa.Ru
set_option linter.unusedVariables false
open Go.RowKit Pla Cb Wd Nw Bk Eb Et Cc Ch Pm Ro Rl
open Bl (len_size mk_eq)
open Ea (dl szL ext_list cat_mk bits_xorL lastB rowB last_bits last_size row_succ row_size)
open Xo (xorL xorL_len)
theorem block_any (k : ByteArray) (hk : k.size = 8 ∨ k.size = 16 ∨ k.size = 24) (x : List Bool) (hx : x.length = 64) (back : Bool) (w : World) :
    Calls Try.prog 63 #[.string k, .string ⟨(byW x).toArray⟩, .bool back] w fun e w' => e = .returned (.string ⟨(byW (cph k.data.toList back x)).toArray⟩) ∧ Below w.heap.size w w' := by
  rcases hk with h | h | h
  · exact block_one k x hx back h w
  · cases back
    · exact block_2false k x hx h w
    · exact block_2true k x hx h w
  · cases back
    · exact block_3false k x hx h w
    · exact block_3true k x hx h w
theorem piece_eq (s : ByteArray) (j : Nat) (h : 8 * j + 8 ≤ s.size) : s.extract (8 * j) (8 * j + 8) = ⟨(byW (blk s.data.toList j)).toArray⟩ := by
  have e : (s.extract (8 * j) (8 * j + 8)).data.toList = byW (blk s.data.toList j) := by
    rw [ext_list, blk, byW_bits]
    rw [pt, List.length_take, List.length_drop, len_size]; omega
  rw [← e, mk_eq]
def turnB (l : List UInt8) (back : Bool) (s : ByteArray) (j : Nat) : ByteArray := ⟨(outN (fun i => cph l back (blk s.data.toList i)) j).toArray⟩
theorem turn_succ (l : List UInt8) (back : Bool) (s : ByteArray) (j : Nat) : turnB l back s j ++ ⟨(byW (cph l back (blk s.data.toList j))).toArray⟩ = turnB l back s (j + 1) := by rw [turnB, cat_mk, turnB, outN_succ]
theorem turn_size (l : List UInt8) (back : Bool) (s : ByteArray) (j : Nat) : (turnB l back s j).size = 8 * j := by rw [turnB, szL, outN_len]
theorem byW_size (x : List Bool) : (ByteArray.mk (byW x).toArray).size = 8 := by rw [szL, byW_len]
theorem block_piece (k : ByteArray) (hk : k.size = 8 ∨ k.size = 16 ∨ k.size = 24) (s : ByteArray) (j : Nat) (h : 8 * j + 8 ≤ s.size) (back : Bool) (w : World) :
    Calls Try.prog 63 #[.string k, .string (s.extract (8 * j) (8 * j + 8)), .bool back] w fun e w' => e = .returned (.string ⟨(byW (cph k.data.toList back (blk s.data.toList j))).toArray⟩) ∧ Below w.heap.size w w' := by
  rw [piece_eq s j h]
  exact block_any k hk _ (blk_len' s j h) back w
theorem turn_bad (k s : ByteArray) (back : Bool) (h : Hid (s.size % 8 ≠ 0)) (hs : s.size ≤ 1099511627776) (w : World) :
    Calls Try.prog 46 #[.string k, .string s, .bool back] w fun e w' => e = .returned (.tuple #[.string ⟨#[]⟩, .int .i64 31]) ∧ w' = w := by
  have q : ((s.size : Int) % 8 != 0) = true := by have := h.out; simp only [bne_iff_ne]; omega
  go_enter Try.func46, Try.ntmps46
  go_wp2
  exact bodyPost_ret (v := .tuple #[.string ⟨#[]⟩, .int .i64 31]) (by simp [results, Try.results46, go_sem]) rfl ⟨rfl, rfl⟩
set_option maxRecDepth 100000 in
set_option maxHeartbeats 1600000 in
theorem turn_ref (k s : ByteArray) (back : Bool) (hk : k.size = 8 ∨ k.size = 16 ∨ k.size = 24) (N : Nat) (hN : Hid (s.size = 8 * N)) (hN2 : N ≤ 1000) (w : World) :
    Calls Try.prog 46 #[.string k, .string s, .bool back] w fun e w' => e = .returned (.tuple #[.string (turnB k.data.toList back s N), .int .i64 0]) ∧ Below w.heap.size w w' := by
  have q : ((s.size : Int) % 8 != 0) = false := by have := hN.out; simp only [bne_eq_false_iff_eq]; omega
  have hkH : Hid (k.size = 8 ∨ k.size = 16 ∨ k.size = 24) := hk
  clear hk
  go_enter Try.func46, Try.ntmps46
  go_wp2
  go_loopw [8, 9] (fun v c wr => ∃ j : Nat, j ≤ N ∧ v = .string (turnB k.data.toList back s j) ∧ c = .int .i64 (8 * (j : Int)) ∧ Below w.heap.size w wr) (fun _ c _ => 8 * N + 8 - (intOf c).toNat)
  case atStart => exact ⟨0, Nat.zero_le _, rfl, rfl, Below.refl _ _⟩
  case round =>
    obtain ⟨j, hj, rfl, rfl, hb⟩ := hrel
    have eN := hN.out
    by_cases hlt : j < N
    · have q0 : (0 : Int) ≤ 8 * (j : Int) := by omega
      have q1 : 8 * (j : Int) < (s.size : Int) := by omega
      have q2 : 8 * (j : Int) + 8 ≤ (s.size : Int) := by omega
      have q3 : (s.size : Int) ≤ 8000 := by omega
      have B1 := fun u => block_piece k hkH.out s j (by omega) back u
      have HN : Hid (turnB k.data.toList back s j ++ ⟨(byW (cph k.data.toList back (blk s.data.toList j))).toArray⟩ = turnB k.data.toList back s (j + 1)) := turn_succ _ _ _ _
      have c1 : ¬ 9223372036854775807 < (turnB k.data.toList back s j).size + ((byW (cph k.data.toList back (blk s.data.toList j))).toArray).size := by rw [turn_size]; have := byW_size (cph k.data.toList back (blk s.data.toList j)); have h2 : ((byW (cph k.data.toList back (blk s.data.toList j))).toArray).size = 8 := this; omega
      have hH : Hid (8 * (j + 1) ≤ 8 * N) := (by omega : 8 * (j + 1) ≤ 8 * N)
      clear eN hkH
      generalize (byW (cph k.data.toList back (blk s.data.toList j))).toArray = Z at *
      generalize turnB k.data.toList back s j = T at *
      go_wp2_with (go_at_call 63; refine (B1 _).mono ?_; rintro e y ⟨rfl, hy⟩)
      exact ⟨⟨j + 1, hlt, by rw [HN.out], by congr 1, keepB hb hy⟩, by have := hH.out; simp only [intOf]; omega⟩
    · obtain rfl : j = N := by omega
      have q1 : ¬ 8 * (j : Int) < (s.size : Int) := by omega
      clear eN hkH
      go_wp2
      exact bodyPost_ret (v := .tuple #[.string (turnB k.data.toList back s j), .int .i64 0]) (by simp [results, Try.results46, go_sem]) rfl ⟨rfl, hb⟩
end Go.Proofs.Ytciblmdpngnakaa.Ru
