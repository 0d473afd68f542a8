import Derived.Test.YtgchdjjafgkcbaaQf03
import Derived.Test.YtgchdjjafgkcbaaQf04
import Derived.Shelf.Abstract
import Derived.Lib.SliceRun
/- The closures that tell timers apart; slices.IndexFunc, over *turnstile/pending.held. -/
namespace Go.Proofs.Ytgchdjjafgkcbaa.Ih
set_option linter.unusedVariables false
set_option linter.unusedSimpArgs false
open Go.RowKit Lib0 Kb Xp
attribute [local go_sem] Oper.semAt_some
abbrev tL : TypeId := 111
abbrev tI : TypeId := 3
/-- what a function value says of what is laid down, in whatever world -/
def Pred (g cb : Nat) (t : Int) (p : XT → Bool) : Prop := ∀ (W : World) (x : XT), x.2.2.oneCell' = true → W.heap[cb]? = some (.cells #[.int .i64 t] tI) → Calls Try.prog g #[agv x, .pointer (some ⟨cb, 0, none⟩)] W fun e w' => e = .returned (.bool (p x)) ∧ Below W.heap.size W w'
theorem tick_pred (cb : Nat) (t : Int) : Pred 43 cb t fun x => x.2.1 == t := by
  intro W x h1 hb
  have c0 : W.cell? ⟨cb, 0, none⟩ = some (.int .i64 t) := by simp [World.cell?, hb]
  have hlt : cb < W.heap.size := (Array.getElem?_eq_some_iff.1 hb).1
  obtain ⟨a, b, v⟩ := x
  have c1 : (W.alloc (.cells #[.int .i64 a, .int .i64 b, v] tL)).cell? ⟨cb, 0, none⟩ = some (.int .i64 t) := keepC (below_one _ _) c0 hlt
  clear hb hlt
  unfold agv
  go_enter Try.func43, Try.ntmps43
  go_wp2_with fail
  go_ret
  exact ⟨rfl, below_one _ _⟩
/-- the first that is meant, or -1 -/
def Hit (Z : LT) (p : XT → Bool) (r : Int) : Prop := (r = -1 ∧ ∀ x ∈ Z, p x = false) ∨ ∃ k, ∃ h : k < Z.length, r = (k : Nat) ∧ p Z[k] = true ∧ ∀ j (hj : j < Z.length), j < k → p Z[j] = false
set_option maxRecDepth 100000 in
set_option maxHeartbeats 1600000 in
theorem index_any (g cb : Nat) (t : Int) (p : XT → Bool) (eg : ∀ args w, (callFunc g args).run Try.prog w = .ok (.enter g args) w) (hp : Pred g cb t p) (w : World) (v : Value) (Z : LT) (hr : RowG w v Z) (ho : One Z) (hl : Z.length ≤ 4611686018427387904) (hcb : w.heap[cb]? = some (.cells #[.int .i64 t] tI)) :
    Calls Try.prog 63 #[v, .func (.func g) #[] #[.pointer (some ⟨cb, 0, none⟩)]] w fun e w' => (∃ r : Int, e = .returned (.int .i64 r) ∧ Hit Z p r) ∧ Below w.heap.size w w' := by
  obtain ⟨o, cap, rfl, hcell⟩ := hr
  have HC : Hid (∀ i (h : i < Z.length), ∃ a : Addr, o = some a ∧ w.cell? (a.add (i * 3)) = some (.int .i64 Z[i].1) ∧ w.cell? (a.add (i * 3 + 1)) = some (.int .i64 Z[i].2.1) ∧ w.cell? (a.add (i * 3 + 2)) = some Z[i].2.2) := hcell
  have HB : Hid (w.heap[cb]? = some (.cells #[.int .i64 t] tI)) := hcb
  have HO : Hid (One Z) := ho
  have HP : Hid (Pred g cb t p) := hp
  obtain ⟨N, HN⟩ : ∃ N, Hid (Z.length = N) := ⟨_, rfl⟩
  rw [HN.out] at hl
  rw [HN.out]
  clear hcell hcb hp ho
  go_enter Try.func63, Try.ntmps63
  go_wp2_with fail
  go_loopw [8, 5] (fun iv _ wr => ∃ i : Nat, iv = .int .i64 (i : Int) ∧ i ≤ N ∧ Hid (∀ j (h : j < Z.length), j < i → p Z[j] = false) ∧ Hid (Below w.heap.size w wr)) (fun iv _ _ => N + 1 - (intOf iv).toNat)
  case atStart => exact ⟨0, rfl, Nat.zero_le _, fun j h hj => absurd hj (Nat.not_lt_zero _), Below.refl _ _⟩
  case round =>
    obtain ⟨i, rfl, hi, HA, HW⟩ := hrel
    by_cases hlt : i < N
    · have hi2 : i < Z.length := by rw [HN.out]; exact hlt
      have HI : Hid (i < Z.length) := hi2
      obtain ⟨a, rfl, c0, c1, c2⟩ := HC.out i hi2
      have kk : ∀ q u, w.cell? q = some u → wr.cell? q = some u := fun q u hq => (HW.out.cell (World.block_lt_of_cell? w _ hq)).trans hq
      replace c0 := kk _ _ c0
      replace c1 := kk _ _ c1
      replace c2 := kk _ _ c2
      have q0 : (i : Int) < (N : Int) := by omega
      have q1 : (0 : Int) ≤ (i : Int) := by omega
      have q3 : (i : Int) + 1 ≤ 9223372036854775807 := by omega
      rw [add_field _ _ _ (by decide)] at c1 c2
      have hcall := HP.out wr (Z[i]'hi2) (HO.out _ (List.getElem_mem hi2)) (kept HW.out HB.out)
      obtain ⟨x, HX⟩ : ∃ x : XT, Hid (∀ h : i < Z.length, Z[i]'h = x) := ⟨Z[i]'hi2, fun _ => rfl⟩
      rw [HX.out hi2] at c0 c1 c2 hcall
      obtain ⟨x0, x1, x2⟩ := x
      unfold agv at hcall
      dsimp only at c0 c1 c2 hcall
      have hone : x2.oneCell' = true := by have := HO.out _ (List.getElem_mem hi2); rw [HX.out hi2] at this; exact this
      obtain ⟨pv, HPV⟩ : ∃ pv, Hid (p (x0, x1, x2) = pv) := ⟨_, rfl⟩
      rw [HPV.out] at hcall
      clear kk hi hi2
      cases pv
      · go_wp2_with (go_at_fn g; refine hcall.mono ?_; rintro e w' ⟨rfl, hw'⟩)
        have HW2 : Hid (Below w.heap.size w w') := keepB HW.out hw'
        refine ⟨⟨i + 1, by simp, by omega, ?_, HW2⟩, ?_⟩
        · intro j hj hji
          by_cases e : j = i
          · subst e
            rw [HX.out hj]; exact HPV.out
          · exact HA.out j hj (by omega)
        · simp only [intOf]; omega
      · go_wp2_with (go_at_fn g; refine hcall.mono ?_; rintro e w' ⟨rfl, hw'⟩)
        go_ret
        exact ⟨⟨_, rfl, .inr ⟨i, HI.out, rfl, by rw [HX.out HI.out]; exact HPV.out, HA.out⟩⟩, keepB HW.out hw'⟩
    · obtain rfl : i = N := by omega
      have HE : Hid (∀ x ∈ Z, p x = false) := fun x hx => by
        obtain ⟨j, hj, rfl⟩ := List.getElem_of_mem hx
        exact HA.out j hj (by rw [← HN.out]; exact hj)
      clear hi
      go_wp2_with fail
      go_ret
      exact ⟨⟨_, rfl, .inl ⟨rfl, HE.out⟩⟩, HW.out⟩
end Go.Proofs.Ytgchdjjafgkcbaa.Ih
/- slices.DeleteFunc over *turnstile/pending.held: the row holds what is not meant. -/
namespace Go.Proofs.Ytgchdjjafgkcbaa.Dh
set_option linter.unusedVariables false
set_option linter.unusedSimpArgs false
open Go.RowKit Lib0 Kb Xp Ih
attribute [local go_sem] Oper.semAt_some
/-- a row's block: what is laid down, then the spare -/
def Blk (w : World) (g : Nat) (Z : LT) (S : List Value) : Prop := w.heap[g]? = some (.cells (gc Z ++ S).toArray tL (0, 0))
theorem Blk.cell {w : World} {g : Nat} {Z : LT} {S : List Value} (h : Blk w g Z S) (i : Nat) (hi : i < Z.length) : w.cell? ⟨g, i * 3, none⟩ = some (.int .i64 Z[i].1) ∧ w.cell? ⟨g, i * 3 + 1, none⟩ = some (.int .i64 Z[i].2.1) ∧ w.cell? ⟨g, i * 3 + 2, none⟩ = some Z[i].2.2 := by
  obtain ⟨a, b, c⟩ := gc_at Z i hi
  have hl := gc_len Z
  refine ⟨?_, ?_, ?_⟩ <;> rw [cell_of_row w g _ _ _ _ h, List.getElem?_toArray, List.getElem?_append_left (by omega)] <;> assumption
theorem Blk.frozen {w : World} {g : Nat} {Z : LT} {S : List Value} (h : Blk w g Z S) (o : Nat) : w.frozen? ⟨g, o, none⟩ = false := frozen_of_row w g o _ _ h
theorem Blk.store {w : World} {g : Nat} {Z : LT} {S : List Value} (h : Blk w g Z S) (i : Nat) (hi : i < Z.length) (x : XT) : Blk (((w.setCell ⟨g, i * 3, none⟩ (.int .i64 x.1)).setCell ⟨g, i * 3 + 1, none⟩ (.int .i64 x.2.1)).setCell ⟨g, i * 3 + 2, none⟩ x.2.2) g (Z.set i x) S := by
  have hl := gc_len Z
  have := setCell_heap (setCell_heap (setCell_heap h (i * 3) (.int .i64 x.1)) (i * 3 + 1) (.int .i64 x.2.1)) (i * 3 + 2) x.2.2
  rw [Blk, this, gc_set Z i x hi]
  congr 2
  simp only [List.setIfInBounds_toArray]
  rw [List.set_append_left _ _ (by omega), List.set_append_left _ _ (by rw [List.length_set]; omega), List.set_append_left _ _ (by rw [List.length_set, List.length_set]; omega)]
theorem Blk.below {w x : World} {g : Nat} {Z : LT} {S : List Value} (h : Blk w g Z S) (k : Below w.heap.size w x) : Blk x g Z S := kept k h
/-- how far it has come: i are kept of the first j -/
structure Far (Z : LT) (p : XT → Bool) (i j : Nat) (Y : LT) : Prop where
  len : Y.length = Z.length
  lt : i < j
  le : j ≤ Z.length
  low : Y.take i = (Z.take j).filter fun x => !p x
  high : Y.drop j = Z.drop j
theorem Far.start {Z : LT} {p : XT → Bool} {k : Nat} (h : k < Z.length) (hk : p Z[k] = true) (hb : ∀ j (hj : j < Z.length), j < k → p Z[j] = false) : Far Z p k (k + 1) Z := by
  refine ⟨rfl, Nat.lt_succ_self _, h, ?_, rfl⟩
  rw [List.take_succ_eq_append_getElem h, List.filter_append, List.filter_eq_self.2]
  · simp [hk]
  · intro x hx
    obtain ⟨i, hi, rfl⟩ := List.getElem_of_mem hx
    rw [List.length_take] at hi
    rw [List.getElem_take]
    rw [hb i (by omega) (by omega)]; rfl
theorem Far.at_ {Z : LT} {p : XT → Bool} {i j : Nat} {Y : LT} (h : Far Z p i j Y) (hj : j < Z.length) : ∃ hy : j < Y.length, Y[j] = Z[j] := by
  have hy : j < Y.length := by rw [h.len]; exact hj
  refine ⟨hy, ?_⟩
  have e := h.high
  have a1 : (Y.drop j)[0]? = some Y[j] := by simp [hy]
  have a2 : (Z.drop j)[0]? = some Z[j] := by simp [hj]
  rw [e, a2] at a1
  simpa using a1.symm
theorem Far.skip {Z : LT} {p : XT → Bool} {i j : Nat} {Y : LT} (h : Far Z p i j Y) (hj : j < Z.length) (hp : p Z[j] = true) : Far Z p i (j + 1) Y := by
  refine ⟨h.len, by have := h.lt; omega, hj, ?_, ?_⟩
  · rw [h.low, List.take_succ_eq_append_getElem hj, List.filter_append]; simp [hp]
  · rw [← List.drop_drop, h.high, List.drop_drop]
theorem Far.keep {Z : LT} {p : XT → Bool} {i j : Nat} {Y : LT} (h : Far Z p i j Y) (hj : j < Z.length) (hp : p Z[j] = false) : Far Z p (i + 1) (j + 1) (Y.set i Z[j]) := by
  have hi : i < Y.length := by have := h.lt; rw [h.len]; omega
  have hlt := h.lt
  refine ⟨by rw [List.length_set, h.len], by omega, hj, ?_, ?_⟩
  · rw [List.take_succ_eq_append_getElem (by rw [List.length_set]; exact hi), List.getElem_set_self, List.take_set_of_le (Nat.le_refl _), h.low, List.take_succ_eq_append_getElem hj, List.filter_append]; simp [hp]
  · rw [List.drop_set_of_lt (by omega), ← List.drop_drop, h.high, List.drop_drop]
theorem Far.done {Z : LT} {p : XT → Bool} {i : Nat} {Y : LT} (h : Far Z p i Z.length Y) : Y.take i = Z.filter (fun x => !p x) ∧ i = (Z.filter fun x => !p x).length := by
  have e := h.low
  rw [List.take_length] at e
  refine ⟨e, ?_⟩
  rw [← e, List.length_take, h.len]
  have := h.lt
  omega
end Go.Proofs.Ytgchdjjafgkcbaa.Dh
