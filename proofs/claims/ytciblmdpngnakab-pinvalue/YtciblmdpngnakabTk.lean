/- take, inGroups, the tables. -/
import Derived.Test.YtciblmdpngnakabCb
namespace Go.Proofs.Ytciblmdpngnakab.Tk
set_option linter.unusedVariables false
open Go.RowKit Pla Cb
theorem step_bit (a b : Nat) (ha : a < 9223372036854775808) (hb : b < 2) : bits .or .u64 ((a : Int) * 2) (b : Int) = ((2 * a + b : Nat) : Int) := by
  have h := u64_or_nat (2 * a) b (by omega) (by omega)
  have e : 2 * a ||| b = 2 * a + b := by
    have := @Nat.two_pow_add_eq_or_of_lt 1 b hb a
    exact this.symm
  rw [e] at h
  rw [← h]
  congr 1
  simp; omega
theorem one_bit (x : List Bool) (W n : Nat) (hW : x.length = W) (hW2 : W ≤ 64) (h1 : 1 ≤ n) (h2 : n ≤ W) : bits .and .u64 ((val x : Int) / 2 ^ (W - n)) 1 = (((x.getD (n - 1) false).toNat : Nat) : Int) := by
  have lt := val_lt x
  have p : 2 ^ x.length ≤ 2 ^ 64 := Nat.pow_le_pow_right (by decide) (by omega)
  have e : ((val x : Int) / 2 ^ (W - n)) = ((val x / 2 ^ (W - n) : Nat) : Int) := by simp
  have lt2 : val x / 2 ^ (W - n) < 18446744073709551616 := Nat.lt_of_le_of_lt (Nat.div_le_self _ _) (Nat.lt_of_lt_of_le lt p)
  have h := u64_and_nat (val x / 2 ^ (W - n)) 1 lt2 (by decide)
  rw [nat_mask1] at h
  rw [e]
  refine h.trans ?_
  have b := val_bit x (W - n)
  rw [Nat.testBit_eq_decide_div_mod_eq, decide_eq_true (show W - n < x.length by omega), Bool.true_and, show x.length - 1 - (W - n) = n - 1 by omega] at b
  rw [← b]
  have : val x / 2 ^ (W - n) % 2 < 2 := Nat.mod_lt _ (by decide)
  by_cases c : val x / 2 ^ (W - n) % 2 = 1
  · rw [c]; rfl
  · rw [show val x / 2 ^ (W - n) % 2 = 0 by omega]; rfl
theorem tk_snoc (l : List Nat) (x : List Bool) (j : Nat) (h : j < l.length) : val (tk (l.take (j + 1)) x) = 2 * val (tk (l.take j) x) + (x.getD (l[j] - 1) false).toNat := by
  rw [List.take_succ_eq_append_getElem h, tk, List.map_append, List.map_cons, List.map_nil, val_snoc]; rfl
set_option maxRecDepth 100000 in
set_option maxHeartbeats 1600000 in
theorem take_any (x : List Bool) (l : List Nat) (W L g : Nat) (fr : Nat × Nat) (hW : Hid (x.length = W)) (hL : Hid (l.length = L)) (w : World) (hg : w.heap[g]? = some (.cells (tabC l) 5 fr)) (hl : ∀ n ∈ l, 1 ≤ n ∧ n ≤ W) (hW2 : W ≤ 64) (hL2 : L ≤ 64) :
    Calls Try.prog 62 #[.int .u64 (val x : Int), .int .i64 (W : Int), .slice (some ⟨g, 0, none⟩) L L] w fun e w' => e = .returned (.int .u64 (val (tk l x) : Int)) ∧ w' = w := by
  go_enter Try.func62, Try.ntmps62
  go_wp2
  go_loopw [7, 9, 12] (fun a v c wr => ∃ j : Nat, j ≤ L ∧ c = .int .i64 (j : Int) ∧ a = .int .u64 (val (tk (l.take j) x) : Int) ∧ wr = w) (fun _ _ c _ => L + 1 - (intOf c).toNat)
  case atStart => exact ⟨0, by omega, rfl, rfl, rfl⟩
  case round =>
    obtain ⟨j, hj, rfl, rfl, rfl⟩ := hrel
    by_cases hj2 : j < L
    · have hjl : j < l.length := by rw [hL.out]; exact hj2
      have q : (j : Int) < (L : Int) := by omega
      have q0 : (0 : Int) ≤ (j : Int) := by omega
      have hn := hl l[j] (List.getElem_mem hjl)
      have k0 : wr.cell? ⟨g, j, none⟩ = some (.int .u8 ((l[j] : Nat) : Int)) := by rw [cell_of_row wr g j _ _ fr hg]; exact tabC_get l j hjl
      have HE : Hid (val (tk (l.take (j + 1)) x) = 2 * val (tk (l.take j) x) + (x.getD (l[j] - 1) false).toNat) := tk_snoc l x j hjl
      have u1 := one_bit x W l[j] hW.out hW2 hn.1 hn.2
      have lt : val (tk (l.take j) x) < 9223372036854775808 := Nat.lt_of_lt_of_le (val_lt _) (by rw [tk_len]; exact Nat.pow_le_pow_right (n := 2) (by decide) (show (l.take j).length ≤ 63 by simp; omega))
      have hb : (x.getD (l[j] - 1) false).toNat < 2 := by cases x.getD (l[j] - 1) false <;> decide
      have u2 := step_bit (val (tk (l.take j) x)) (x.getD (l[j] - 1) false).toNat lt hb
      have i1 : (val (tk (l.take j) x) : Int) ≤ 9223372036854775807 := by omega
      generalize (x.getD (l[j] - 1) false).toNat = b at *
      generalize val (tk (l.take j) x) = a at *
      generalize hm : l[j] = m at *
      have i2 : (1 : Int) ≤ (m : Int) := by omega
      have i3 : (m : Int) ≤ (W : Int) := by omega
      have i4 : (W : Int) ≤ 64 := by omega
      have i5 : (m : Int) ≤ 64 := by omega
      have t1 : ((W : Int) - (m : Int)).toNat = W - m := by omega
      clear hL hl hm hW hn lt hb hg
      go_wp2
      refine ⟨⟨j + 1, by omega, by simp, by rw [HE.out]; simp, trivial⟩, ?_⟩
      simp only [intOf]; omega
    · obtain rfl : j = L := by omega
      have e : l.take j = l := List.take_of_length_le (by rw [hL.out]; exact Nat.le_refl _)
      rw [e]
      clear hL hl hW hg e
      go_wp2
      go_ret
      exact ⟨rfl, rfl⟩
theorem z45 : (Try.prog.info? 73).map (fun i => (i.zero, i.size)) = some (some (.agg (byC 8 fun _ => 0)), 8) := by kernel_rfl
theorem h45 (v : Nat → Nat) : (Try.prog.info? 73).map (·.size) = some (byC 8 v).size := by rw [byC_size]; kernel_rfl
def up (v : Nat → Nat) (j : Nat) : Nat → Nat := fun i => if i < j then v i else 0
theorem up_step (n : Nat) (v : Nat → Nat) (j : Nat) (hj : j < n) : (byC n (up v j)).setIfInBounds j (.int .u8 ((v j : Nat) : Int)) = byC n (up v (j + 1)) := by
  rw [byC_set _ _ _ _ hj]
  refine byC_ext fun i hi => ?_
  simp only [updN, up]
  by_cases e : i = j
  · subst e; simp
  · by_cases e2 : i < j
    · simp [e, e2, show i < j + 1 by omega]
    · simp [e, e2, show ¬ i < j + 1 by omega]
theorem up_zero (n : Nat) (v : Nat → Nat) : byC n (fun _ => 0) = byC n (up v 0) := byC_ext fun i hi => by simp [up]
theorem up_all (n : Nat) (v : Nat → Nat) : byC n (up v n) = byC n v := byC_ext fun i hi => by simp [up, hi]
theorem grp_len (x : List Bool) (j : Nat) (hx : x.length = 48) (hj : j < 8) : (grp x j).length = 6 := by simp [grp, hx]; omega
theorem grp_val (x : List Bool) (j : Nat) (hx : x.length = 48) (hj : j < 8) : val (grp x j) = val x / 2 ^ (6 * (7 - j)) % 64 := by
  have e : x = x.take (6 * j) ++ (grp x j ++ x.drop (6 * j + 6)) := by
    rw [grp, ← List.drop_drop, List.take_append_drop, List.take_append_drop]
  have l1 : (x.drop (6 * j + 6)).length = 6 * (7 - j) := by simp [hx]; omega
  have l2 := grp_len x j hx hj
  have v1 := val_lt (x.drop (6 * j + 6))
  have v2 := val_lt (grp x j)
  rw [l1] at v1
  rw [l2] at v2
  have e2 : val x = (val (x.take (6 * j)) * 64 + val (grp x j)) * 2 ^ (6 * (7 - j)) + val (x.drop (6 * j + 6)) := by
    conv => lhs; rw [e]
    rw [← List.append_assoc, val_append, val_append, l1, l2]
  rw [e2]
  have p : 0 < 2 ^ (6 * (7 - j)) := Nat.pow_pos (by decide)
  rw [Nat.mul_comm _ (2 ^ (6 * (7 - j))), Nat.mul_add_div p, Nat.div_eq_of_lt v1]
  omega
set_option maxRecDepth 100000 in
set_option maxHeartbeats 1600000 in
theorem inG (R : Nat) (v : Nat → Nat) (hv : Hid (∀ j, j < 8 → v j = R / 2 ^ (6 * (7 - j)) % 64)) (lt : R < 281474976710656) (w : World) :
    Calls Try.prog 66 #[.int .u64 (R : Int)] w fun e w' => e = .returned (.agg (byC 8 v)) ∧ Below w.heap.size w w' := by
  have hz := (zero_of_info z45).1
  rw [← up_all 8]
  have e0 := up_zero 8 v
  have i1 : (R : Int) < 281474976710656 := by omega
  go_enter Try.func66, Try.ntmps66
  go_wp2_with fail
  go_loopw [4, 5] (fun i c wr => ∃ j : Nat, j ≤ 8 ∧ c = .int .i64 (j : Int) ∧ wr = (w.alloc (Obj.cells (byC 8 (up v 0)) 73)).alloc (Obj.cells (byC 8 (up v j)) 73)) (fun _ c _ => 9 - (intOf c).toNat)
  case atStart => exact ⟨0, by omega, rfl, rfl⟩
  case round =>
    obtain ⟨j, hj, rfl, rfl⟩ := hrel
    by_cases hj2 : j < 8
    · have q : (j : Int) < 8 := by omega
      have q0 : (0 : Int) ≤ (j : Int) := by omega
      have k1 := byC_get 8 (up v j) j hj2
      have HN : Hid ((byC 8 (up v j)).setIfInBounds j (.int .u8 ((v j : Nat) : Int)) = byC 8 (up v (j + 1))) := up_step 8 v j hj2
      have u1 : bits .and .u64 ((R : Int) / 2 ^ (6 * (7 - j))) 63 % 256 = ((v j : Nat) : Int) := by
        rw [hv.out j hj2]
        have h := u64_and_nat (R / 2 ^ (6 * (7 - j))) 63 (Nat.lt_of_le_of_lt (Nat.div_le_self _ _) (by omega)) (by decide)
        rw [nat_mask6] at h
        have e : ((R : Int) / 2 ^ (6 * (7 - j))) = ((R / 2 ^ (6 * (7 - j)) : Nat) : Int) := by simp
        rw [e]
        have h' : bits .and .u64 ((R / 2 ^ (6 * (7 - j)) : Nat) : Int) 63 = ((R / 2 ^ (6 * (7 - j)) % 64 : Nat) : Int) := h
        rw [h']; omega
      clear e0 hv
      go_wp2
      refine ⟨⟨j + 1, by omega, by simp, by rw [HN.out]⟩, ?_⟩
      simp only [intOf]; omega
    · obtain rfl : j = 8 := by omega
      have g1 := h2_1 w (Obj.cells (byC 8 (up v 0)) 73) (Obj.cells (byC 8 (up v 8)) 73)
      have g0 := h2_0 w (Obj.cells (byC 8 (up v 0)) 73) (Obj.cells (byC 8 (up v 8)) 73)
      have b0 := below_two w (Obj.cells (byC 8 (up v 0)) 73) (Obj.cells (byC 8 (up v 8)) 73)
      go_wp2_with (first
        | (refine wpList_load_row rfl 73 _ rfl (w.heap.size + 1) rfl _ _ _ _ g1 Try.underlying73 rfl (h45 _) ?_)
        | (refine wpList_store_row rfl 73 _ _ rfl w.heap.size _ rfl rfl _ _ g0 (h45 _) (by rw [byC_size, byC_size]) (byC_one _ _) ?_))
      exact bodyPost_ret (v := .agg (byC 8 (up v 8))) (results_cell_row rfl _ _ w.heap.size _ _ _ _ rfl (setRow_at g0 _) Try.underlying73 rfl (h45 _)) rfl ⟨rfl, below_setRow b0 (Nat.le_refl _) _⟩
theorem inGroups_any (x : List Bool) (hx : Hid (x.length = 48)) (w : World) :
    Calls Try.prog 66 #[.int .u64 (val x : Int)] w fun e w' => e = .returned (.agg (byC 8 fun j => val (grp x j))) ∧ Below w.heap.size w w' :=
  inG (val x) _ (fun j hj => grp_val x j hx.out hj : ∀ j, j < 8 → val (grp x j) = val x / 2 ^ (6 * (7 - j)) % 64) (by have := val_lt x; rw [hx.out] at this; exact this) w
end Go.Proofs.Ytciblmdpngnakab.Tk
