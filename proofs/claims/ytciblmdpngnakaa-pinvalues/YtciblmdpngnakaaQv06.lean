import Derived.Test.YtciblmdpngnakaaQv02
import Derived.Test.YtciblmdpngnakaaQv05
/- The tables. -/
namespace Go.Proofs.Ytciblmdpngnakaa.Tb
set_option linter.unusedVariables false
open Go.RowKit Pla Cb
theorem tabIn_any (w : World) : Calls Try.prog 86 #[] w fun e w' => e = .returned (.slice (some ⟨w.heap.size, 0, none⟩) 64 64) ∧ w' = w.alloc (Obj.cells (tabC tIn) 5) := by
  go_enter Try.func86, Try.ntmps86
  go_wp2
  go_ret
  exact ⟨rfl, rfl⟩
theorem tabOut_any (w : World) : Calls Try.prog 88 #[] w fun e w' => e = .returned (.slice (some ⟨w.heap.size, 0, none⟩) 64 64) ∧ w' = w.alloc (Obj.cells (tabC tOut) 5) := by
  go_enter Try.func88, Try.ntmps88
  go_wp2
  go_ret
  exact ⟨rfl, rfl⟩
theorem tabWide_any (w : World) : Calls Try.prog 104 #[] w fun e w' => e = .returned (.slice (some ⟨w.heap.size, 0, none⟩) 48 48) ∧ w' = w.alloc (Obj.cells (tabC tWide) 5) := by
  go_enter Try.func104, Try.ntmps104
  go_wp2
  go_ret
  exact ⟨rfl, rfl⟩
theorem tabP_any (w : World) : Calls Try.prog 106 #[] w fun e w' => e = .returned (.slice (some ⟨w.heap.size, 0, none⟩) 32 32) ∧ w' = w.alloc (Obj.cells (tabC tP) 5) := by
  go_enter Try.func106, Try.ntmps106
  go_wp2
  go_ret
  exact ⟨rfl, rfl⟩
theorem tabK1_any (w : World) : Calls Try.prog 67 #[] w fun e w' => e = .returned (.slice (some ⟨w.heap.size, 0, none⟩) 56 56) ∧ w' = w.alloc (Obj.cells (tabC tK1) 5) := by
  go_enter Try.func67, Try.ntmps67
  go_wp2
  go_ret
  exact ⟨rfl, rfl⟩
theorem tabK2_any (w : World) : Calls Try.prog 72 #[] w fun e w' => e = .returned (.slice (some ⟨w.heap.size, 0, none⟩) 48 48) ∧ w' = w.alloc (Obj.cells (tabC tK2) 5) := by
  go_enter Try.func72, Try.ntmps72
  go_wp2
  go_ret
  exact ⟨rfl, rfl⟩
end Go.Proofs.Ytciblmdpngnakaa.Tb
/- F of the chapter. -/
namespace Go.Proofs.Ytciblmdpngnakaa.Mx
set_option linter.unusedVariables false
open Go.RowKit Pla Cb Tk Tb
theorem row_bits : ∀ g : Fin 64, bits .or .u8 (bits .and .u8 ((g.val : Int) / 16) 2) (bits .and .u8 (g.val : Int) 1) = ((2 * (g.val / 32 % 2) + g.val % 2 : Nat) : Int) := by decide
theorem col_bits : ∀ g : Fin 64, bits .and .u8 ((g.val : Int) / 2) 15 = ((g.val / 2 % 16 : Nat) : Int) := by decide
set_option maxRecDepth 100000 in
theorem box_lt : ∀ n ∈ boxL, n < 16 := by decide
theorem six_lt (i g : Nat) : six i g < 16 := by
  unfold six
  generalize 64 * i + 16 * (2 * (g / 32 % 2) + g % 2) + g / 2 % 16 = n
  rw [List.getD_eq_getElem?_getD]
  cases h : boxL[n]? with
  | none => decide
  | some v => exact box_lt v (List.mem_of_getElem? h)
set_option maxRecDepth 100000 in
theorem box_len : boxL.length = 512 := by decide
set_option maxRecDepth 100000 in
set_option maxHeartbeats 1600000 in
theorem at_any (i g b : Nat) (fr : Nat × Nat) (hi : i < 8) (hg : g < 64) (w : World) (hb : w.heap[b]? = some (.cells (tabC boxL) 115 fr)) :
    Calls Try.prog 105 #[.pointer (some ⟨b, 0, none⟩), .int .i64 (i : Int), .int .u8 (g : Int)] w fun e w' => e = .returned (.int .u8 (six i g : Int)) ∧ w' = w := by
  have r1 := row_bits ⟨g, hg⟩
  have r2 := col_bits ⟨g, hg⟩
  simp only at r1 r2
  have q1 : (i : Int) < 8 := by omega
  have q0 : (0 : Int) ≤ (i : Int) := by omega
  have p1 : (g : Int) < 64 := by omega
  have p0 : (0 : Int) ≤ (g : Int) := by omega
  have k0 : w.cell? ⟨b, i * 64 + (2 * (g / 32 % 2) + g % 2) * 16 + g / 2 % 16, none⟩ = some (.int .u8 (six i g : Int)) := by
    have hlt : i * 64 + (2 * (g / 32 % 2) + g % 2) * 16 + g / 2 % 16 < boxL.length := by rw [box_len]; omega
    rw [cell_of_row w b _ _ _ fr hb, tabC_get _ _ hlt, six, show 64 * i + 16 * (2 * (g / 32 % 2) + g % 2) + g / 2 % 16 = i * 64 + (2 * (g / 32 % 2) + g % 2) * 16 + g / 2 % 16 by omega, List.getD_eq_getElem?_getD, List.getElem?_eq_getElem hlt]; rfl
  clear hb
  generalize six i g = v at *
  go_enter Try.func105, Try.ntmps105
  go_wp2
  go_ret
  exact ⟨rfl, rfl⟩
theorem run_by8 (v : Nat → Nat) (k : Nat) (hk : k < 8) (w : World) : (Instr.index 69 (.agg (byC 8 v)) (.int .i64 (k : Int))).run Try.prog w = .ok (.int .u8 ((v k : Nat) : Int)) w := by
  have h0 := byC_get 8 v k hk
  simp [Instr.index, asIntOf, run_underlying Try.underlying69, hk, part, h0]
theorem h46 (v : Nat → Nat) : (Try.prog.info? 70).map (·.size) = some (byC 8 v).size := by rw [byC_size]; kernel_rfl
/-- the first j groups' fours -/
def mixP (a k : List Bool) (j : Nat) : List Bool := (List.range j).flatMap fun i => nib (six i (val (grp (xr a k) i)))
theorem mixP_snoc (a k : List Bool) (j : Nat) : val (mixP a k (j + 1)) = 16 * val (mixP a k j) + six j (val (grp (xr a k) j)) := by
  simp only [mixP, List.range_succ, List.flatMap_append, List.flatMap_cons, List.flatMap_nil, List.append_nil]
  rw [val_append, nib_val _ (six_lt _ _)]; simp [nib]; omega
theorem mixP_len (a k : List Bool) : ∀ j, (mixP a k j).length = 4 * j
  | 0 => rfl
  | j + 1 => by
    have := mixP_len a k j
    simp only [mixP, List.range_succ, List.flatMap_append, List.flatMap_cons, List.flatMap_nil, List.append_nil, List.length_append] at this ⊢
    rw [this]; simp [nib]; omega
theorem grp_xr (a k : List Bool) (j : Nat) : grp (xr a k) j = xr (grp a j) (grp k j) := by
  simp only [grp, xr, List.drop_zipWith, List.take_zipWith]
theorem xr_grp (a k : List Bool) (j : Nat) (ha : a.length = 48) (hk : k.length = 48) (hj : j < 8) : bits .xor .u8 (val (grp a j) : Int) (val (grp k j) : Int) = (val (grp (xr a k) j) : Int) := by
  have l1 := grp_len a j ha hj
  have l2 := grp_len k j hk hj
  have v1 := val_lt (grp a j)
  have v2 := val_lt (grp k j)
  rw [l1] at v1
  rw [l2] at v2
  rw [u8_xor_nat _ _ (by omega) (by omega), grp_xr, val_xr _ _ (by rw [l1, l2])]
theorem or_four (x y : Nat) (hx : x < 1152921504606846976) (hy : y < 16) : bits .or .u64 ((x : Int) * 16) (y : Int) = ((16 * x + y : Nat) : Int) := by
  have h := u64_or_nat (16 * x) y (by omega) (by omega)
  have e : 16 * x ||| y = 16 * x + y := by
    have := @Nat.two_pow_add_eq_or_of_lt 4 y hy x
    exact this.symm
  rw [e] at h
  rw [← h]
  congr 1
  simp; omega
theorem wide_ok : ∀ n ∈ tWide, 1 ≤ n ∧ n ≤ 32 := by decide
theorem p_ok : ∀ n ∈ tP, 1 ≤ n ∧ n ≤ 32 := by decide
set_option maxRecDepth 100000 in
set_option maxHeartbeats 1600000 in
theorem mixed_any (r k : List Bool) (hr : Hid (r.length = 32)) (hk : Hid (k.length = 48)) (b : Nat) (fr : Nat × Nat) (w : World) (hb : w.heap[b]? = some (.cells (tabC boxL) 115 fr)) :
    Calls Try.prog 87 #[.int .u32 (val r : Int), .agg (byC 8 fun j => val (grp k j)), .pointer (some ⟨b, 0, none⟩)] w fun e w' => e = .returned (.int .u32 (val (mix r k) : Int)) ∧ Below w.heap.size w w' := by
  have rlt : (val r : Int) ≤ 4294967295 := by have := val_lt r; rw [hr.out] at this; omega
  have r0 : (0 : Int) ≤ (val r : Int) := by omega
  go_enter Try.func87, Try.ntmps87
  go_wp2_with (first
    | (go_at_call 104; refine (tabWide_any _).mono ?_; rintro e x ⟨rfl, rfl⟩)
    | (go_at_call 66; refine (take_any r tWide 32 48 (w.heap.size + 1) (0, 0) hr rfl _ (h2_1 w _ _) wide_ok (by decide) (by decide)).mono ?_; rintro e x2 ⟨rfl, rfl⟩)
    | (go_at_call 70; refine (inGroups_any (tk tWide r) (tk_len _ _) _).mono ?_; rintro e x ⟨rfl, hx⟩))
  have b0 : Below w.heap.size w x := keepB (below_two w _ _) hx
  have bx : x.heap[b]? = some (.cells (tabC boxL) 115 fr) := kept b0 hb
  have kx : x.heap[w.heap.size]? = some (.cells (byC 8 fun j => val (grp k j)) 70) := kept hx (h2_0 w _ _)
  have hA : Hid ((tk tWide r).length = 48) := tk_len _ _
  have HM : Hid (mix r k = tk tP (mixP (tk tWide r) k 8)) := rfl
  clear hx hb hr rlt r0
  generalize tk tWide r = A at *
  go_loopw [7, 8, 9, 15] (fun a i g c wr => ∃ j : Nat, j ≤ 8 ∧ c = .int .i64 (j : Int) ∧ a = .int .u64 (val (mixP A k j) : Int) ∧ wr = x) (fun _ _ _ c _ => 9 - (intOf c).toNat)
  case atStart => exact ⟨0, by omega, rfl, rfl, rfl⟩
  case round =>
    obtain ⟨j, hj, rfl, rfl, rfl⟩ := hrel
    by_cases hj2 : j < 8
    · have q : (j : Int) < 8 := by omega
      have q0 : (0 : Int) ≤ (j : Int) := by omega
      have k1 := run_by8 (fun j => val (grp A j)) j hj2
      have k2 : wr.cell? ⟨w.heap.size, j, none⟩ = some (.int .u8 (val (grp k j) : Int)) := by rw [cell_of_row wr _ j _ _ (0, 0) kx]; exact byC_get 8 _ j hj2
      have u1 := xr_grp A k j hA.out hk.out hj2
      have glt : val (grp (xr A k) j) < 64 := by have := val_lt (grp (xr A k) j); rwa [grp_len _ j (xr_len A k 48 hA.out hk.out) hj2] at this
      have lt : val (mixP A k j) < 1152921504606846976 := Nat.lt_of_lt_of_le (val_lt _) (by rw [mixP_len]; exact Nat.pow_le_pow_right (n := 2) (by decide) (show 4 * j ≤ 60 by omega))
      have HE : Hid (val (mixP A k (j + 1)) = 16 * val (mixP A k j) + six j (val (grp (xr A k) j))) := mixP_snoc A k j
      have u2 := or_four (val (mixP A k j)) (six j (val (grp (xr A k) j))) lt (six_lt _ _)
      have i1 : (val (mixP A k j) : Int) ≤ 1152921504606846975 := by omega
      have sl := six_lt j (val (grp (xr A k) j))
      have i2 : (six j (val (grp (xr A k) j)) : Int) < 16 := by omega
      have AT := at_any j (val (grp (xr A k) j)) b fr hj2 glt wr bx
      generalize six j (val (grp (xr A k) j)) = s at *
      generalize val (mixP A k j) = a at *
      generalize val (grp (xr A k) j) = g at *
      clear lt kx HM hA hk bx b0
      go_wp2_with (first
        | (go_at_call 105; refine AT.mono ?_; rintro e y ⟨rfl, rfl⟩))
      refine ⟨⟨j + 1, by omega, by simp, by rw [HE.out]; simp, trivial⟩, ?_⟩
      simp only [intOf]; omega
    · obtain rfl : j = 8 := by omega
      go_wp2_with (first
        | (go_at_call 106; refine (tabP_any _).mono ?_; rintro e y ⟨rfl, rfl⟩)
        | (go_at_call 66; refine (take_any (mixP A k 8) tP 32 32 wr.heap.size (0, 0) (mixP_len A k 8) rfl _ (h1_0 wr _) p_ok (by decide) (by decide)).mono ?_; rintro e y ⟨rfl, rfl⟩))
      go_ret
      refine ⟨?_, keepB b0 (below_one wr _)⟩
      rw [HM.out]
      have lt := val_lt (tk tP (mixP A k 8))
      rw [tk_len, show tP.length = 32 from rfl] at lt
      have e : ((val (tk tP (mixP A k 8)) : Int)) % 4294967296 = (val (tk tP (mixP A k 8)) : Int) := by omega
      rw [e]; rfl
end Go.Proofs.Ytciblmdpngnakaa.Mx
