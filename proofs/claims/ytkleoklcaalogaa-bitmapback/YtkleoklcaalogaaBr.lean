/- The document's rows: RowOf, Halves. -/
import Derived.Test.YtkleoklcaalogaaBm
import Derived.Deep.WholeRow
namespace Go.Proofs.Ytkleoklcaalogaa.Br
set_option linter.unusedVariables false
open Go.RowKit Pla Bm
theorem zrow : (Try.prog.info? 30).map (fun i => (i.zero, i.size)) = some (some (.agg (rowC fun _ => false)), 129) := by kernel_rfl
theorem hsz (f : Nat → Bool) : (Try.prog.info? 30).map (·.size) = some (rowC f).size := by rw [rowC_size]; kernel_rfl
theorem setRow_at {w : World} {g : Nat} {c : Array Value} {t : TypeId} {fr : Nat × Nat} (h : w.heap[g]? = some (.cells c t fr)) (c' : Array Value) : (w.setRow g c').heap[g]? = some (.cells c' t fr) := by
  show (w.heap.modify g _)[g]? = _
  rw [Array.getElem?_modify]; simp [h]
theorem setRow_ne {w : World} {g k : Nat} (h : g ≠ k) (c' : Array Value) : (w.setRow g c').heap[k]? = w.heap[k]? := by
  show (w.heap.modify g _)[k]? = _
  rw [Array.getElem?_modify]; simp [h]
theorem below_setRow {B : Nat} {a w : World} (h : Below B a w) {g : Nat} (hg : B ≤ g) (c' : Array Value) : Below B a (w.setRow g c') :=
  ⟨h.os, h.tape, h.output, by have := h.size; simpa [World.setRow] using this, fun k hk => (setRow_ne (by omega) c').trans (h.block k hk)⟩
def rowUp (F S j : Nat) (i : Nat) : Bool := if (1 ≤ i ∧ i ≤ j) ∨ (65 ≤ i ∧ i ≤ 64 + j) then rowF F S i else false
theorem rowUp_zero (F S : Nat) : rowC (fun _ => false) = rowC (rowUp F S 0) := rowC_ext fun i _ => by
  rw [rowUp, if_neg (by omega)]
theorem rowUp_all (F S : Nat) : rowC (rowUp F S 64) = rowC (rowF F S) := rowC_ext fun i hi => by
  rw [rowUp]; split
  · rfl
  · rw [show i = 0 by omega]; rfl
theorem bit_is (F k : Nat) : (((F : Int) / 2 ^ k % 2) == 1) = F.testBit k := by
  rw [Nat.testBit_eq_decide_div_mod_eq]
  have : (F : Int) / 2 ^ k % 2 = ((F / 2 ^ k % 2 : Nat) : Int) := by simp
  rw [this]
  by_cases h : F / 2 ^ k % 2 = 1
  · rw [h]; rfl
  · rw [decide_eq_false h, beq_eq_false_iff_ne]; omega
theorem bit_tm (F k : Nat) : (((F : Int) / 2 ^ k).tmod 2 == 1) = F.testBit k := by
  rw [Int.tmod_eq_emod_of_nonneg (Int.ediv_nonneg (by omega) (Int.pow_nonneg (by decide))), bit_is]
theorem rowUp_step (F S j : Nat) (hj : j < 64) : ((rowC (rowUp F S j)).setIfInBounds (j + 1) (.bool (F.testBit (63 - j)))).setIfInBounds (64 + (j + 1)) (.bool (S.testBit (63 - j))) = rowC (rowUp F S (j + 1)) := by
  rw [rowC_set _ _ _ (by omega), rowC_set _ _ _ (by omega)]
  refine rowC_ext fun i hi => ?_
  by_cases e1 : i = 64 + (j + 1)
  · subst e1
    rw [upd_same, rowUp, if_pos (by omega), rowF_hi (by omega)]; congr 1; omega
  · rw [upd_ne _ _ e1]
    by_cases e2 : i = j + 1
    · subst e2
      rw [upd_same, rowUp, if_pos (by omega), rowF_lo (by omega) (by omega)]; congr 1; omega
    · rw [upd_ne _ _ e2, rowUp, rowUp]
      by_cases c : (1 ≤ i ∧ i ≤ j) ∨ (65 ≤ i ∧ i ≤ 64 + j)
      · rw [if_pos c, if_pos (by omega)]
      · rw [if_neg c, if_neg (by omega)]
set_option maxHeartbeats 1600000 in
theorem rowOf_any (F S : Nat) (hF : F < 18446744073709551616) (hS : S < 18446744073709551616) (w : World) :
    Calls Try.prog 27 #[.int .u64 (F : Int), .int .u64 (S : Int)] w fun e w' => e = .returned (.agg (rowC (rowF F S))) ∧ Below w.heap.size w w' := by
  have hz := (zero_of_info zrow).1
  go_enter Try.func27, Try.ntmps27
  go_wp2
  rw [rowUp_zero F S]
  go_loopw [6] (fun i wr => ∃ j : Nat, j ≤ 64 ∧ i = .int .i64 ((j : Int) + 1) ∧ wr = (w.alloc (Obj.cells (rowC (rowUp F S 0)) 30)).alloc (Obj.cells (rowC (rowUp F S j)) 30)) (fun i _ => 65 - (intOf i).toNat)
  case atStart => exact ⟨0, by omega, rfl, rfl⟩
  case round =>
    obtain ⟨j, hj, rfl, rfl⟩ := hrel
    by_cases hj2 : j < 64
    · have q : (j : Int) + 1 ≤ 64 := by omega
      have q0 : (0 : Int) ≤ (j : Int) := by omega
      have u1 := bit_tm F (63 - j)
      have u2 := bit_tm S (63 - j)
      have k1 := rowC_get (rowUp F S j) (j + 1) (by omega)
      have k2 := rowC_get (rowUp F S j) (64 + (j + 1)) (by omega)
      have HN : Hid (((rowC (rowUp F S j)).setIfInBounds (j + 1) (.bool (F.testBit (63 - j)))).setIfInBounds (64 + (j + 1)) (.bool (S.testBit (63 - j))) = rowC (rowUp F S (j + 1))) := rowUp_step F S j hj2
      go_wp2
      refine ⟨⟨j + 1, by omega, by simp, by rw [HN.out]⟩, ?_⟩
      simp only [intOf]; omega
    · obtain rfl : j = 64 := by omega
      have q : ¬ ((64 : Nat) : Int) + 1 ≤ 64 := by omega
      have g1 := h2_1 w (Obj.cells (rowC (rowUp F S 0)) 30) (Obj.cells (rowC (rowUp F S 64)) 30)
      have g0 := h2_0 w (Obj.cells (rowC (rowUp F S 0)) 30) (Obj.cells (rowC (rowUp F S 64)) 30)
      have b0 := below_two w (Obj.cells (rowC (rowUp F S 0)) 30) (Obj.cells (rowC (rowUp F S 64)) 30)
      go_wp2_with (first
        | (refine wpList_load_row rfl 30 _ rfl (w.heap.size + 1) rfl _ _ _ _ g1 Try.underlying30 rfl (hsz _) ?_)
        | (refine wpList_store_row rfl 30 _ _ rfl w.heap.size _ rfl rfl _ _ g0 (hsz _) (by rw [rowC_size, rowC_size]) (rowC_one _) ?_))
      refine bodyPost_ret (v := .agg (rowC (rowUp F S 64))) (results_cell_row rfl _ _ w.heap.size _ _ _ _ rfl (setRow_at g0 _) Try.underlying30 rfl (hsz _)) rfl ⟨by rw [rowUp_all], below_setRow b0 (Nat.le_refl _) _⟩
end Go.Proofs.Ytkleoklcaalogaa.Br
