/- fitted. -/
import Derived.Test.YtpifebapodfeaabPd
import Derived.Test.YtpifebapodfeaabPick
import Derived.Deep.OwnRows
namespace Go.Proofs.Ytpifebapodfeaab.Ft
set_option linter.unusedVariables false
open Go.RowKit Cb Fp Sm Pd
theorem made_zero (n : Nat) : madeCells #[.int .u8 0] n = byC n fun _ => 0 := by
  apply Array.ext_getElem?
  intro i
  by_cases hi : i < n
  · rw [byC_get n _ i hi]; simp [madeCells, hi, Nat.mod_one]
  · rw [Array.getElem?_eq_none (by simp [madeCells]; omega), Array.getElem?_eq_none (by rw [byC_size]; omega)]
theorem conv_by {P : Program} {w : World} {src dst e : TypeId} {g n : Nat} {v : Nat → Nat} {t : TypeId} {fr : Nat × Nat} (hv : ∀ i, i < n → v i < 256) (hs : P.underlying src = some (.slice e)) (he : P.underlying e = some (.int .u8)) (hd : P.underlying dst = some .string)
    (hg : w.heap[g]? = some (.cells (byC n v) t fr)) : (convert src dst (.slice (some ⟨g, 0, none⟩) n n)).run P w = .ok (.string ⟨((List.range n).map (fun i => UInt8.ofNat (v i))).toArray⟩) w := by
  have hl : ((List.range n).map (fun i => UInt8.ofNat (v i))).length = n := by simp
  have h := run_convert_bytes_back (P := P) w src dst e ⟨g, 0, none⟩ n ((List.range n).map (fun i => UInt8.ofNat (v i))) hs he hd (fun j hj => by
    rw [hl] at hj
    rw [show (⟨g, 0, none⟩ : Addr).add j = ⟨g, j, none⟩ by unfold Addr.add; split <;> simp_all, cell_of_row w g j _ t fr hg, byC_get _ _ _ hj]
    have := hv j hj
    simp; omega)
  rw [hl] at h
  exact h
theorem set_by {w : World} {g n : Nat} {v : Nat → Nat} {t : TypeId} (hg : w.heap[g]? = some (.cells (byC n v) t)) (hv : ∀ i, v i < 256) (j : Nat) (hj : j < n) (x : Int) (h0 : 0 ≤ x) (h1 : x < 256) :
    ∃ v' : Nat → Nat, (∀ i, v' i < 256) ∧ (w.setCell ⟨g, j, none⟩ (.int .u8 x)).heap[g]? = some (.cells (byC n v') t) := by
  refine ⟨updN v j x.toNat, fun i => ?_, ?_⟩
  · unfold updN
    split
    · omega
    · exact hv i
  · have h := setCell_heap hg j (.int .u8 ((x.toNat : Nat) : Int))
    rw [byC_set n v j x.toNat hj, show ((x.toNat : Nat) : Int) = x by omega] at h
    exact h
set_option maxRecDepth 100000 in
set_option maxHeartbeats 1600000 in
theorem fitted_any (s : ByteArray) (n : Nat) (hn : n ≤ 1000) (hs : s.size ≤ 9223372036854775807) (w : World) :
    Calls Try.prog 6 #[.string s, .int .i64 (n : Int)] w fun e w' => ∃ r : ByteArray, e = .returned (.string r) ∧ r.size = n ∧ Below w.heap.size w w' := by
  obtain ⟨i0, hi, hz0, hz1, hz2⟩ := info_parts info
  go_enter Try.func6, Try.ntmps6
  go_wp2_with (at_make; refine wpList_make_row _ rfl _ _ 32 rfl 5 i0 _ Try.underlying32 hi hz0 hz1 rfl _ _ n rfl rfl (by rw [hz2]; omega) (by omega) ?_)
  rw [made_zero]
  have h0 := h1_0 w (Obj.cells (byC n fun _ => 0) 5)
  have b0 := below_one w (Obj.cells (byC n fun _ => 0) 5)
  generalize w.alloc (Obj.cells (byC n fun _ => 0) 5) = W0 at *
  go_loopw [6] (fun c wr => ∃ (j : Nat) (v : Nat → Nat), j ≤ n ∧ c = .int .i64 (j : Int) ∧ (∀ i, v i < 256) ∧ wr.heap[w.heap.size]? = some (.cells (byC n v) 5) ∧ Below w.heap.size w wr) (fun c _ => n + 1 - (intOf c).toNat)
  case atStart => exact ⟨0, fun _ => 0, Nat.zero_le _, rfl, fun _ => (by decide : (0 : Nat) < 256), h0, b0⟩
  case round =>
    obtain ⟨j, v, hj, rfl, hv, hg, hb⟩ := hrel
    by_cases hlt : j < n
    · have q0 : (0 : Int) ≤ (j : Int) := by omega
      have q1 : (j : Int) < (n : Int) := by omega
      have q2 : (j : Int) ≤ 1000 := by omega
      have c0 : wr.cell? ⟨w.heap.size, j, none⟩ = some (.int .u8 ((v j : Nat) : Int)) := by rw [cell_of_row wr _ j _ _ _ hg, byC_get n v j hlt]
      have f0 := R_frozen hg j
      by_cases hz : 0 < s.size
      · have q3 : (s.size : Int) > 0 := by omega
        obtain ⟨v', hv', hg'⟩ := set_by hg hv j hlt (17 * (j : Int) % 256) (by omega) (by omega)
        have hb' := below_setCell hb (Nat.le_refl w.heap.size) j (.int .u8 (17 * (j : Int) % 256))
        have r0 : ¬ (s.size : Int) = 0 := by omega
        have r1 : 0 ≤ (j : Int) % (s.size : Int) := Int.emod_nonneg _ r0
        have r2 : (j : Int) % (s.size : Int) < (s.size : Int) := Int.emod_lt_of_pos _ (by omega)
        have r3 : 0 ≤ (j : Int) / (s.size : Int) := Int.ediv_nonneg q0 (by omega)
        have r4 : (j : Int) / (s.size : Int) ≤ 1000 := Int.le_trans (Int.ediv_le_self _ q0) q2
        go_wp2_with fail
        have c1 : (wr.setCell ⟨w.heap.size, j, none⟩ (.int .u8 (17 * (j : Int) % 256))).cell? ⟨w.heap.size, j, none⟩ = some (.int .u8 ((v' j : Nat) : Int)) := by rw [cell_of_row _ _ j _ _ _ hg', byC_get n v' j hlt]
        have f1 := R_frozen hg' j
        generalize wr.setCell ⟨w.heap.size, j, none⟩ (.int .u8 (17 * (j : Int) % 256)) = W1 at *
        go_region
        go_wp2
        obtain ⟨v2, hv2, hg2⟩ := set_by hg' hv' j hlt ((((s[j % s.size]'(Nat.mod_lt _ hz)).toNat : Int) + (j : Int) / (s.size : Int)) % 256) (Int.emod_nonneg _ (by decide)) (Int.emod_lt_of_pos _ (by decide))
        exact ⟨⟨j + 1, v2, hlt, by simp, hv2, hg2, (below_setCell hb' (Nat.le_refl _) j _).drew⟩, by simp only [intOf]; omega⟩
      · have q3 : ¬ (s.size : Int) > 0 := by omega
        obtain ⟨v', hv', hg'⟩ := set_by hg hv j hlt (17 * (j : Int) % 256) (by omega) (by omega)
        have hb' := below_setCell hb (Nat.le_refl w.heap.size) j (.int .u8 (17 * (j : Int) % 256))
        go_wp2
        exact ⟨⟨j + 1, v', hlt, by simp, hv', hg', hb'⟩, by simp only [intOf]; omega⟩
    · obtain rfl : j = n := by omega
      have q1 : ¬ (j : Int) < (j : Int) := by omega
      have cv := conv_by (P := Try.prog) (src := 32) (dst := 9) (e := 5) (n := j) (v := v) (fun i _ => hv i) Try.underlying32 Try.underlying5 Try.underlying9 hg
      obtain ⟨L, hL⟩ : ∃ L, L = ((List.range j).map (fun i => UInt8.ofNat (v i))).toArray := ⟨_, rfl⟩
      have hLs : Hid (L.size = j) := (by rw [hL]; simp : L.size = j)
      rw [← hL] at cv
      clear hL
      go_wp2
      go_ret
      exact ⟨_, rfl, hLs.out, hb⟩
theorem wf_i64 {a : Int} (h : (Lit.int .i64 a).wf = true) : -9223372036854775808 ≤ a ∧ a ≤ 9223372036854775807 := by
  simp [Lit.wf, IntKind.min, IntKind.max, IntKind.signed, IntKind.bits] at h; omega
/-- pick, as a natural number -/
theorem pick_nat (a : Int) (h : (Lit.int .i64 a).wf = true) (n : Nat) (hn : 0 < n) (hn2 : n ≤ 1000000) : ∃ p : Nat, p < n ∧ ∀ y, Calls Try.prog 5 #[.int .i64 a, .int .i64 (n : Int)] y fun e w' => e = .returned (.int .i64 (p : Int)) ∧ w' = y := by
  have hb := wf_i64 h
  have h1 := Pick.pick_lo a (n : Int) (by omega)
  have h2 := Pick.pick_hi a (n : Int) (by omega)
  refine ⟨(Pick.pickOf a (n : Int)).toNat, by omega, fun y => ?_⟩
  have := Pick.pick_any a (n : Int) y (by omega) (by omega) (by omega) (by omega)
  rw [show Pick.pickOf a (n : Int) = (((Pick.pickOf a (n : Int)).toNat : Nat) : Int) by omega] at this
  exact this
/-- the algorithm and the method that are picked -/
theorem pick_alg (a : Int) (h : (Lit.int .i64 a).wf = true) : ∃ (p : Int) (alg : Nat), 0 ≤ p ∧ p ≤ 1 ∧ (alg = 1 ∨ alg = 3) ∧ 1 + 2 * p = (alg : Int) ∧ ∀ y, Calls Try.prog 5 #[.int .i64 a, .int .i64 2] y fun e w' => e = .returned (.int .i64 p) ∧ w' = y := by
  obtain ⟨p, hp, C⟩ := pick_nat a h 2 (by decide) (by decide)
  exact ⟨p, 1 + 2 * p, by omega, by omega, by omega, by omega, C⟩
theorem pick_met (a : Int) (h : (Lit.int .i64 a).wf = true) : ∃ (p : Int) (m : Nat), 0 ≤ p ∧ p ≤ 1 ∧ (m = 1 ∨ m = 2) ∧ 1 + p = (m : Int) ∧ ∀ y, Calls Try.prog 5 #[.int .i64 a, .int .i64 2] y fun e w' => e = .returned (.int .i64 p) ∧ w' = y := by
  obtain ⟨p, hp, C⟩ := pick_nat a h 2 (by decide) (by decide)
  exact ⟨p, 1 + p, by omega, by omega, by omega, by omega, C⟩
end Go.Proofs.Ytpifebapodfeaab.Ft
