/- appendWord: eight bytes more. -/
import Derived.Test.YtciblmdpngnakabBk
import Derived.Test.YtciblmdpngnakabLib0
namespace Go.Proofs.Ytciblmdpngnakab.Aw
set_option linter.unusedVariables false
open Go.RowKit Pla Cb Tk Lib0
theorem info : (Try.prog.info? 5).map (fun i => (i.zero, i.size, i.bytes)) = some (some (.int .u8 0), 1, 1) := by kernel_rfl
def byt (x : List Bool) (k : Nat) : Nat := val ((x.drop (8 * k)).take 8)
theorem byt_lt (x : List Bool) (k : Nat) : byt x k < 256 := by
  have := val_lt ((x.drop (8 * k)).take 8)
  exact Nat.lt_of_lt_of_le this (Nat.pow_le_pow_right (n := 2) (by decide) (show ((x.drop (8 * k)).take 8).length ≤ 8 by rw [List.length_take]; omega))
theorem byt_val (x : List Bool) (k : Nat) (hx : x.length = 64) (hk : k < 8) : byt x k = val x / 2 ^ (56 - 8 * k) % 256 := by
  have e : x = x.take (8 * k) ++ ((x.drop (8 * k)).take 8 ++ x.drop (8 * k + 8)) := by
    rw [← List.drop_drop, List.take_append_drop, List.take_append_drop]
  have l1 : (x.drop (8 * k + 8)).length = 56 - 8 * k := by rw [List.length_drop, hx]; omega
  have l2 : ((x.drop (8 * k)).take 8).length = 8 := by rw [List.length_take, List.length_drop, hx]; omega
  have v1 := val_lt (x.drop (8 * k + 8))
  have v2 := val_lt ((x.drop (8 * k)).take 8)
  rw [l1] at v1
  rw [l2] at v2
  have e2 : val x = (val (x.take (8 * k)) * 256 + byt x k) * 2 ^ (56 - 8 * k) + val (x.drop (8 * k + 8)) := by
    conv => lhs; rw [e]
    rw [← List.append_assoc, val_append, val_append, l1, l2]; rfl
  rw [e2]
  have p : 0 < 2 ^ (56 - 8 * k) := Nat.pow_pos (by decide)
  rw [Nat.mul_comm _ (2 ^ (56 - 8 * k)), Nat.mul_add_div p, Nat.div_eq_of_lt v1]
  have : byt x k < 256 := byt_lt x k
  omega
theorem byW_take (x : List Bool) (k : Nat) (hk : k < 8) : (byW x).take (k + 1) = (byW x).take k ++ [UInt8.ofNat (byt x k)] := by
  rw [List.take_succ_eq_append_getElem (by rw [byW_len]; exact hk)]
  simp [byW, byt]
theorem bs_snoc (l : List UInt8) (x : List Bool) (k : Nat) (hk : k < 8) : bs (l ++ (byW x).take (k + 1)) = bs (l ++ (byW x).take k) ++ [.int .u8 (byt x k : Int)] := by
  rw [byW_take x k hk, ← List.append_assoc, bs_append]
  congr 1
  have := byt_lt x k
  simp [bs]; omega
set_option maxRecDepth 100000 in
set_option maxHeartbeats 1600000 in
theorem appw (x : List Bool) (hx : Hid (x.length = 64)) (B n : Nat) (v : Value) (l : List UInt8) (w : World) (hown : w.ownsRow B 5 1 v n (bs l)) (hB : B ≤ w.heap.size) (hn : n ≤ 1099511627776) :
    Calls Try.prog 51 #[v, .int .u64 (val x : Int)] w fun e w' => ∃ v', e = .returned v' ∧ w'.ownsRow B 5 1 v' (n + 8) (bs (l ++ byW x)) ∧ Below B w w' := by
  obtain ⟨i0, hi, hz0, hz1, hz2⟩ := info_parts info
  go_enter Try.func51, Try.ntmps51
  go_wp2
  go_loopw [0, 5] (fun v c wr => ∃ k m : Nat, ((k < 8 ∧ Hid (m + 8 * k = 56) ∧ c = .int .i64 (m : Int)) ∨ (k = 8 ∧ c = .int .i64 (-8))) ∧ wr.ownsRow B 5 1 v (n + k) (bs (l ++ (byW x).take k)) ∧ Below B w wr) (fun _ c _ => (intOf c + 8).toNat)
  case atStart => exact ⟨0, 56, .inl ⟨by omega, rfl, rfl⟩, by simpa using hown, Below.refl _ _⟩
  case round =>
    obtain ⟨k, m, hc, hown, hb⟩ := hrel
    have hbs := hb.size
    rcases hc with ⟨hk, hm, rfl⟩ | ⟨rfl, rfl⟩
    · have mk := hm.out
      have q0 : (0 : Int) ≤ (m : Int) := by omega
      have q1 : (m : Int) ≤ 56 := by omega
      have u1 : (val x : Int) / 2 ^ m % 256 = (byt x k : Int) := by
        rw [byt_val x k hx.out hk, show 56 - 8 * k = m by omega]; simp
      have HN : Hid (bs (l ++ (byW x).take (k + 1)) = bs (l ++ (byW x).take k) ++ [.int .u8 (byt x k : Int)]) := bs_snoc l x k hk
      clear mk
      generalize hbk : byt x k = bb at *
      clear hbk
      go_wp2_with (at_builtin; refine wpList_append_lies _ rfl _ _ _ rfl B 5 i0 _ 1 1 Try.underlying33 hi hz0 hz1 hz2 rfl (by omega) _ (n + k) _ rfl (hown.alloc _) ⟨wr.heap.size, 0, none⟩ 1 1 _ rfl (by rfl) (World.news_of_block (heap_alloc_new wr _)) (by simp [Value.oneCell']) (by omega) (by unfold maxLen; omega) (by omega) (by first | omega | (simp <;> omega)) (wr.heap.size + 1) (by simp) ?_; intro gg cap w1 hown1 hgrow hat hlt1)
      have own1 : w1.ownsRow B 5 1 (.slice (some ⟨gg, 0, none⟩) (n + k + 1) cap) (n + (k + 1)) (bs (l ++ (byW x).take (k + 1))) := owns_len hown1 rfl (by omega) HN.out.symm
      have mk := hm.out
      refine ⟨?_, by simp only [intOf]; omega⟩
      by_cases h8 : k + 1 < 8
      · exact ⟨k + 1, m - 8, .inl ⟨h8, (by omega : m - 8 + 8 * (k + 1) = 56), by congr 1; omega⟩, own1, below_app0 hb (by omega) hown hgrow⟩
      · have e8 : k + 1 = 8 := by omega
        exact ⟨k + 1, 0, .inr ⟨e8, by congr 1; omega⟩, own1, below_app0 hb (by omega) hown hgrow⟩
    · go_wp2
      go_ret
      exact ⟨_, rfl, by rw [List.take_of_length_le (by rw [byW_len]; exact Nat.le_refl _)] at hown; exact hown, hb⟩
end Go.Proofs.Ytciblmdpngnakab.Aw
