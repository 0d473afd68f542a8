/- The document's And, Less, Numbers. -/
import Derived.Test.YtkleoklcaalogaaBw
import Derived.Test.YtkleoklcaalogaaBx
import Derived.Test.YtkleoklcaalogaaBn
import Derived.Test.YtkleoklcaalogaaNp
import Derived.Deep.AppendLies
import Derived.OwnWalk
namespace Go.Proofs.Ytkleoklcaalogaa.Nd
set_option linter.unusedVariables false
open Go.RowKit Pla Bm Br Bv Bw Bx
/-- like, of what is alike -/
theorem like_true {F S : Nat} {f : Nat → Bool} (h1 : F = halfN f 0 64) (h2 : S = halfN f 64 64) (w : World) :
    Calls Try.prog 8 #[.agg #[.int .u64 (F : Int), .int .u64 (S : Int)], .agg (rowC f)] w fun e w' => e = .returned (.bool true) ∧ Below w.heap.size w w' := by
  have h := like_any F S f w
  rw [h1, h2] at h ⊢
  simpa using h
/-- what a field's rule makes of two rows -/
def fieldUp (g : Nat → Bool) (j : Nat) (i : Nat) : Bool := decide (2 ≤ i) && (decide (i < j) && (!(i == 65) && g i))
theorem up_zero (g : Nat → Bool) : rowC (fun _ => false) = rowC (fieldUp g 2) := rowC_ext fun i _ => by
  rw [fieldUp]; by_cases h : 2 ≤ i <;> by_cases h' : i < 2 <;> simp [h, h'] <;> omega
theorem up_step (g : Nat → Bool) (j : Nat) (h2 : 2 ≤ j) (hj : j < 129) (b : Bool) (hb : b = (!(j == 65) && g j)) : (rowC (fieldUp g j)).setIfInBounds j (.bool b) = rowC (fieldUp g (j + 1)) := by
  rw [rowC_set _ _ _ hj]
  refine rowC_ext fun i hi => ?_
  by_cases e : i = j
  · subst e; rw [upd_same, hb, fieldUp]; simp [h2]
  · rw [upd_ne _ _ e, fieldUp, fieldUp]
    have : decide (i < j) = decide (i < j + 1) := by by_cases c : i < j <;> simp [c] <;> omega
    rw [this]
theorem up_first (g : Nat → Bool) (x : Nat) (hx : x < 18446744073709551616) (h : ∀ i, 1 ≤ i → i ≤ 64 → g i = x.testBit (64 - i)) : fld x = halfN (fieldUp g 129) 0 64 :=
  (half_first (fld_lt hx) fun i h1 h2 => by
    rw [fld_bit, fieldUp, h i h1 h2]
    by_cases e : i = 1
    · subst e; simp
    · simp only [show decide (2 ≤ i) = true by simp; omega, show decide (i < 129) = true by simp; omega, show (i == 65) = false by simp; omega, show decide (64 - i < 63) = true by simp; omega]; simp).symm
theorem up_second (g : Nat → Bool) (x : Nat) (hx : x < 18446744073709551616) (h : ∀ i, 65 ≤ i → i ≤ 128 → g i = x.testBit (128 - i)) : fld x = halfN (fieldUp g 129) 64 64 :=
  (half_second (fld_lt hx) fun i h1 h2 => by
    rw [fld_bit, fieldUp, h i h1 h2]
    by_cases e : i = 65
    · subst e; simp
    · simp only [show decide (2 ≤ i) = true by simp; omega, show decide (i < 129) = true by simp; omega, show (i == 65) = false by simp; omega, show decide (128 - i < 63) = true by simp; omega]; simp).symm
def andG (f g : Nat → Bool) : Nat → Bool := fun i => f i && g i
def lessG (f g : Nat → Bool) : Nat → Bool := fun i => f i && !g i
set_option maxRecDepth 100000 in
set_option maxHeartbeats 1600000 in
theorem refAnd_any (f g : Nat → Bool) (w : World) :
    Calls Try.prog 10 #[.agg (rowC f), .agg (rowC g)] w fun e w' => e = .returned (.agg (rowC (fieldUp (andG f g) 129))) ∧ Below w.heap.size w w' := by
  have hz := (zero_of_info zrow).1
  go_enter Try.func10, Try.ntmps10
  go_wp2
  rw [up_zero (andG f g)]
  go_loopw [6] (fun i wr => ∃ j : Nat, 2 ≤ j ∧ j ≤ 129 ∧ i = .int .i64 (j : Int) ∧ wr = (((w.alloc (Obj.cells (rowC f) 30)).alloc (Obj.cells (rowC g) 30)).alloc (Obj.cells (rowC (fieldUp (andG f g) 2)) 30)).alloc (Obj.cells (rowC (fieldUp (andG f g) j)) 30)) (fun i _ => 130 - (intOf i).toNat)
  case atStart => exact ⟨2, by omega, by omega, rfl, rfl⟩
  case round =>
    obtain ⟨j, h2, hj, rfl, rfl⟩ := hrel
    by_cases hj2 : j < 129
    · have q : (j : Int) ≤ 128 := by omega
      have q0 : (2 : Int) ≤ (j : Int) := by omega
      have k1 := rowC_get f j hj2
      have k2 := rowC_get g j hj2
      have k3 := rowC_get (fieldUp (andG f g) j) j hj2
      obtain ⟨b, hb⟩ : ∃ b, b = (!(j == 65) && andG f g j) := ⟨_, rfl⟩
      have HN : Hid ((rowC (fieldUp (andG f g) j)).setIfInBounds j (.bool b) = rowC (fieldUp (andG f g) (j + 1))) := up_step (andG f g) j h2 hj2 b hb
      have HB : Hid (b = (!(j == 65) && (f j && g j))) := hb
      have Hj : Hid (2 ≤ j ∧ j < 129) := ⟨h2, hj2⟩
      clear hb h2 hj hj2
      by_cases e65 : j = 65
      · subst e65
        have c : (((65 : Nat) : Int) != 65) = false := by decide
        go_wp2
        obtain ⟨h2, h129⟩ := Hj.out
        have hb : b = false := by rw [HB.out]; simp
        have e := HN.out
        rw [hb] at e
        exact ⟨⟨65 + 1, by omega, by omega, rfl, by rw [e]⟩, by simp only [intOf]; omega⟩
      · have c : ((j : Int) != 65) = true := by simp; omega
        have Hc : Hid ((j == 65) = false) := by show (j == 65) = false; simp; omega
        clear e65
        cases hf : f j
        · rw [hf] at k1
          go_wp2
          obtain ⟨h2, h129⟩ := Hj.out
          have hb : b = false := by rw [HB.out]; rw [hf, Hc.out]; rfl
          have e := HN.out
          rw [hb] at e
          exact ⟨⟨j + 1, by omega, by omega, by simp, by rw [e]⟩, by simp only [intOf]; omega⟩
        · rw [hf] at k1
          go_wp2
          obtain ⟨h2, h129⟩ := Hj.out
          have hb : b = g j := by rw [HB.out]; rw [hf, Hc.out]; simp
          have e := HN.out
          rw [hb] at e
          exact ⟨⟨j + 1, by omega, by omega, by simp, by rw [e]⟩, by simp only [intOf]; omega⟩
    · obtain rfl : j = 129 := by omega
      have q : ¬ ((129 : Nat) : Int) ≤ 128 := by omega
      have g3 := h1_0 (((w.alloc (Obj.cells (rowC f) 30)).alloc (Obj.cells (rowC g) 30)).alloc (Obj.cells (rowC (fieldUp (andG f g) 2)) 30)) (Obj.cells (rowC (fieldUp (andG f g) 129)) 30)
      simp only [World.size_alloc] at g3
      have g2 : ((((w.alloc (Obj.cells (rowC f) 30)).alloc (Obj.cells (rowC g) 30)).alloc (Obj.cells (rowC (fieldUp (andG f g) 2)) 30)).alloc (Obj.cells (rowC (fieldUp (andG f g) 129)) 30)).heap[w.heap.size + 1 + 1]? = some (Obj.cells (rowC (fieldUp (andG f g) 2)) 30) := (Below.heap_alloc _ _ _ (by simp)).trans (h3_2 w (Obj.cells (rowC f) 30) (Obj.cells (rowC g) 30) (Obj.cells (rowC (fieldUp (andG f g) 2)) 30))
      have b0 : Below w.heap.size w ((((w.alloc (Obj.cells (rowC f) 30)).alloc (Obj.cells (rowC g) 30)).alloc (Obj.cells (rowC (fieldUp (andG f g) 2)) 30)).alloc (Obj.cells (rowC (fieldUp (andG f g) 129)) 30)) := (below_three w (Obj.cells (rowC f) 30) (Obj.cells (rowC g) 30) (Obj.cells (rowC (fieldUp (andG f g) 2)) 30)).alloc (by simp; omega) _
      generalize ((((w.alloc (Obj.cells (rowC f) 30)).alloc (Obj.cells (rowC g) 30)).alloc (Obj.cells (rowC (fieldUp (andG f g) 2)) 30)).alloc (Obj.cells (rowC (fieldUp (andG f g) 129)) 30)) = x at *
      go_wp2_with (first
        | (refine wpList_load_row rfl 30 _ rfl (w.heap.size + 1 + 1 + 1) rfl _ _ _ _ g3 Try.underlying30 rfl (hsz _) ?_)
        | (refine wpList_store_row rfl 30 _ _ rfl (w.heap.size + 1 + 1) _ rfl rfl _ _ g2 (hsz _) (by rw [rowC_size, rowC_size]) (rowC_one _) ?_))
      refine bodyPost_ret (v := .agg (rowC (fieldUp (andG f g) 129))) (results_cell_row rfl _ _ (w.heap.size + 1 + 1) _ _ _ _ rfl (setRow_at g2 _) Try.underlying30 rfl (hsz _)) rfl ⟨rfl, below_setRow b0 (by omega) _⟩
set_option maxRecDepth 100000 in
set_option maxHeartbeats 1600000 in
theorem refLess_any (f g : Nat → Bool) (w : World) :
    Calls Try.prog 12 #[.agg (rowC f), .agg (rowC g)] w fun e w' => e = .returned (.agg (rowC (fieldUp (lessG f g) 129))) ∧ Below w.heap.size w w' := by
  have hz := (zero_of_info zrow).1
  go_enter Try.func12, Try.ntmps12
  go_wp2
  rw [up_zero (lessG f g)]
  go_loopw [6] (fun i wr => ∃ j : Nat, 2 ≤ j ∧ j ≤ 129 ∧ i = .int .i64 (j : Int) ∧ wr = (((w.alloc (Obj.cells (rowC f) 30)).alloc (Obj.cells (rowC g) 30)).alloc (Obj.cells (rowC (fieldUp (lessG f g) 2)) 30)).alloc (Obj.cells (rowC (fieldUp (lessG f g) j)) 30)) (fun i _ => 130 - (intOf i).toNat)
  case atStart => exact ⟨2, by omega, by omega, rfl, rfl⟩
  case round =>
    obtain ⟨j, h2, hj, rfl, rfl⟩ := hrel
    by_cases hj2 : j < 129
    · have q : (j : Int) ≤ 128 := by omega
      have q0 : (2 : Int) ≤ (j : Int) := by omega
      have k1 := rowC_get f j hj2
      have k2 := rowC_get g j hj2
      have k3 := rowC_get (fieldUp (lessG f g) j) j hj2
      obtain ⟨b, hb⟩ : ∃ b, b = (!(j == 65) && lessG f g j) := ⟨_, rfl⟩
      have HN : Hid ((rowC (fieldUp (lessG f g) j)).setIfInBounds j (.bool b) = rowC (fieldUp (lessG f g) (j + 1))) := up_step (lessG f g) j h2 hj2 b hb
      have HB : Hid (b = (!(j == 65) && (f j && !g j))) := hb
      have Hj : Hid (2 ≤ j ∧ j < 129) := ⟨h2, hj2⟩
      clear hb h2 hj hj2
      by_cases e65 : j = 65
      · subst e65
        have c : (((65 : Nat) : Int) != 65) = false := by decide
        go_wp2
        obtain ⟨h2, h129⟩ := Hj.out
        have hb : b = false := by rw [HB.out]; simp
        have e := HN.out
        rw [hb] at e
        exact ⟨⟨65 + 1, by omega, by omega, rfl, by rw [e]⟩, by simp only [intOf]; omega⟩
      · have c : ((j : Int) != 65) = true := by simp; omega
        have Hc : Hid ((j == 65) = false) := by show (j == 65) = false; simp; omega
        clear e65
        cases hf : f j
        · rw [hf] at k1
          go_wp2
          obtain ⟨h2, h129⟩ := Hj.out
          have hb : b = false := by rw [HB.out]; rw [hf, Hc.out]; rfl
          have e := HN.out
          rw [hb] at e
          exact ⟨⟨j + 1, by omega, by omega, by simp, by rw [e]⟩, by simp only [intOf]; omega⟩
        · rw [hf] at k1
          go_wp2
          obtain ⟨h2, h129⟩ := Hj.out
          have hb : b = !g j := by rw [HB.out]; rw [hf, Hc.out]; simp
          have e := HN.out
          rw [hb] at e
          exact ⟨⟨j + 1, by omega, by omega, by simp, by rw [e]⟩, by simp only [intOf]; omega⟩
    · obtain rfl : j = 129 := by omega
      have q : ¬ ((129 : Nat) : Int) ≤ 128 := by omega
      have g3 := h1_0 (((w.alloc (Obj.cells (rowC f) 30)).alloc (Obj.cells (rowC g) 30)).alloc (Obj.cells (rowC (fieldUp (lessG f g) 2)) 30)) (Obj.cells (rowC (fieldUp (lessG f g) 129)) 30)
      simp only [World.size_alloc] at g3
      have g2 : ((((w.alloc (Obj.cells (rowC f) 30)).alloc (Obj.cells (rowC g) 30)).alloc (Obj.cells (rowC (fieldUp (lessG f g) 2)) 30)).alloc (Obj.cells (rowC (fieldUp (lessG f g) 129)) 30)).heap[w.heap.size + 1 + 1]? = some (Obj.cells (rowC (fieldUp (lessG f g) 2)) 30) := (Below.heap_alloc _ _ _ (by simp)).trans (h3_2 w (Obj.cells (rowC f) 30) (Obj.cells (rowC g) 30) (Obj.cells (rowC (fieldUp (lessG f g) 2)) 30))
      have b0 : Below w.heap.size w ((((w.alloc (Obj.cells (rowC f) 30)).alloc (Obj.cells (rowC g) 30)).alloc (Obj.cells (rowC (fieldUp (lessG f g) 2)) 30)).alloc (Obj.cells (rowC (fieldUp (lessG f g) 129)) 30)) := (below_three w (Obj.cells (rowC f) 30) (Obj.cells (rowC g) 30) (Obj.cells (rowC (fieldUp (lessG f g) 2)) 30)).alloc (by simp; omega) _
      generalize ((((w.alloc (Obj.cells (rowC f) 30)).alloc (Obj.cells (rowC g) 30)).alloc (Obj.cells (rowC (fieldUp (lessG f g) 2)) 30)).alloc (Obj.cells (rowC (fieldUp (lessG f g) 129)) 30)) = x at *
      go_wp2_with (first
        | (refine wpList_load_row rfl 30 _ rfl (w.heap.size + 1 + 1 + 1) rfl _ _ _ _ g3 Try.underlying30 rfl (hsz _) ?_)
        | (refine wpList_store_row rfl 30 _ _ rfl (w.heap.size + 1 + 1) _ rfl rfl _ _ g2 (hsz _) (by rw [rowC_size, rowC_size]) (rowC_one _) ?_))
      refine bodyPost_ret (v := .agg (rowC (fieldUp (lessG f g) 129))) (results_cell_row rfl _ _ (w.heap.size + 1 + 1) _ _ _ _ rfl (setRow_at g2 _) Try.underlying30 rfl (hsz _)) rfl ⟨rfl, below_setRow b0 (by omega) _⟩
/-- a slice of numbers that lie in a row -/
def LiesI (w : World) (v : Value) (z : List Int) : Prop := ∃ o cap, v = .slice o z.length cap ∧ ∀ i (h : i < z.length), ∃ g, o = some ⟨g, 0, Option.none⟩ ∧ w.cell? ⟨g, i, Option.none⟩ = some (.int .i64 z[i])
theorem lies_own {w : World} {B e : Nat} {v : Value} {z : List Int} (h : w.ownsRow B e 1 v z.length (z.map fun x => Value.int .i64 x)) : LiesI w v z := by
  rcases h.2 with ⟨hv, h0⟩ | ⟨g, cap, cur, hv, hb, hg, h1, h2, h3, h4⟩
  · exact ⟨Option.none, 0, by rw [hv, h0], fun i hi => by omega⟩
  · refine ⟨some ⟨g, 0, Option.none⟩, cap, hv, fun i hi => ⟨g, rfl, ?_⟩⟩
    have e1 : cur[i]? = some (.int .i64 z[i]) := by
      have : (cur.toList.take (z.length * 1))[i]? = some (.int .i64 z[i]) := by rw [h4]; simp [hi]
      rw [List.getElem?_take_of_lt (by omega)] at this
      simpa using this
    rw [cell_of_row w g i _ e _ hg, e1]
theorem lies_below {w x : World} {v : Value} {z : List Int} (h : LiesI w v z) (hb : Below w.heap.size w x) : LiesI x v z := by
  obtain ⟨o, cap, e, hc⟩ := h
  refine ⟨o, cap, e, fun i hi => ?_⟩
  obtain ⟨g, eg, hg⟩ := hc i hi
  exact ⟨g, eg, (hb.cell (World.block_lt_of_cell? w _ hg)).trans hg⟩
theorem infoI : (Try.prog.info? 3).map (fun i => (i.zero, i.size, i.bytes)) = some (some (.int .i64 0), 1, 8) := by kernel_rfl
def numV (l : List Int) : List Value := l.map fun x => Value.int .i64 x
set_option maxRecDepth 100000 in
set_option maxHeartbeats 1600000 in
theorem refNumbers_any (f : Nat → Bool) (w : World) :
    Calls Try.prog 13 #[.agg (rowC f)] w fun e w' => ∃ v, e = .returned v ∧ LiesI w' v (Np.R f 129) ∧ Below w.heap.size w w' := by
  obtain ⟨ia, hia, hza0, hza1, hza2⟩ := info_parts infoI
  go_enter Try.func13, Try.ntmps13
  go_wp2
  go_loopw [3, 4] (fun v i wr => ∃ j n : Nat, 2 ≤ j ∧ j ≤ 129 ∧ i = .int .i64 (j : Int) ∧ n = (Np.R f j).length ∧ wr.ownsRow (w.heap.size + 1) 3 1 v n (numV (Np.R f j)) ∧ Below (w.heap.size + 1) (w.alloc (Obj.cells (rowC f) 30)) wr) (fun _ i _ => 130 - (intOf i).toNat)
  case atStart => exact ⟨2, 0, by omega, by omega, rfl, by rw [Np.R_start]; rfl, by rw [Np.R_start]; exact World.ownsRow_nil _ _ _ _, Below.refl _ _⟩
  case round =>
    obtain ⟨j, n, h2, hj, rfl, hn, own, hb⟩ := hrel
    by_cases hj2 : j < 129
    · have q : (j : Int) ≤ 128 := by omega
      have q0 : (2 : Int) ≤ (j : Int) := by omega
      have hrow : wr.heap[w.heap.size]? = some (Obj.cells (rowC f) 30) := (hb.block w.heap.size (by omega)).trans (h1_0 w _)
      have k1 := row_cell hrow j hj2
      have hl := Np.R_len f j
      have hsz : w.heap.size + 1 ≤ wr.heap.size := by have := hb.size; rwa [World.size_alloc] at this
      have n9 : n ≤ 129 := by omega
      have Hj : Hid (2 ≤ j ∧ j < 129 ∧ n = (Np.R f j).length) := ⟨h2, hj2, hn⟩
      clear h2 hj hj2 hn hl hrow
      by_cases e65 : j = 65
      · subst e65
        have c : (((65 : Nat) : Int) != 65) = false := by decide
        go_wp2
        obtain ⟨h2, h129, hn⟩ := Hj.out
        exact ⟨⟨65 + 1, n, by omega, by omega, rfl, by rw [Np.R_miss (.inl rfl)]; exact hn, by rw [Np.R_miss (.inl rfl)]; exact own, hb⟩, by simp only [intOf]; omega⟩
      · have c : ((j : Int) != 65) = true := by simp; omega
        have Hc : Hid (j ≠ 65) := e65
        clear e65
        cases hf : f j
        · rw [hf] at k1
          go_wp2
          obtain ⟨h2, h129, hn⟩ := Hj.out
          exact ⟨⟨j + 1, n, by omega, by omega, by simp, by rw [Np.R_miss (.inr hf)]; exact hn, by rw [Np.R_miss (.inr hf)]; exact own, hb⟩, by simp only [intOf]; omega⟩
        · rw [hf] at k1
          go_wp2_with (at_builtin; refine wpList_append_lies _ rfl _ _ _ rfl (w.heap.size + 1) 3 ia _ 1 8 Try.underlying35 hia hza0 hza1 hza2 rfl (by omega) _ n _ rfl (own.alloc _) ⟨wr.heap.size, 0, Option.none⟩ 1 1 _ rfl (by rfl) (World.news_of_block (heap_alloc_new wr _)) (by simp [Value.oneCell']) (by omega) (by unfold maxLen; omega) (by omega) (by first | omega | (simp <;> omega)) (wr.heap.size + 1) (by simp) ?_; intro ga ca wa own1 g1 hat hlt1)
          obtain ⟨h2, h129, hn⟩ := Hj.out
          have e := Np.R_hit h2 Hc.out hf
          refine ⟨⟨j + 1, n + 1, by omega, by omega, by simp, by rw [e]; simp [hn], by rw [e]; simpa [numV] using own1, ?_⟩, by simp only [intOf]; omega⟩
          refine (hb.alloc (by omega) _).grown g1 (by simp; omega) fun k hk => ?_
          rcases own.2 with ⟨rfl, _⟩ | ⟨g, cap, cur, rfl, hgb, _⟩
          · cases hk
          · have : g = k := Option.some.inj (show some g = some k from hk)
            omega
    · obtain rfl : j = 129 := by omega
      have q : ¬ ((129 : Nat) : Int) ≤ 128 := by omega
      go_wp2
      go_ret
      refine ⟨_, rfl, lies_own (by rw [← hn]; exact own), (below_one w _).trans (hb.mono (by omega))⟩
end Go.Proofs.Ytkleoklcaalogaa.Nd
