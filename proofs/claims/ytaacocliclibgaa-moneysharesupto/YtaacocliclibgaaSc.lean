/- What the sort calls: the comparing, the exchanging. -/
import Derived.Test.YtaacocliclibgaaSo
import Derived.Test.YtaacocliclibgaaSl
import Derived.Test.YtaacocliclibgaaKb
import Derived.Deep.QuietTactic
import Derived.BigRegion
namespace Go.Proofs.Ytaacocliclibgaa.Sc
set_option linter.unusedVariables false
open Go.RowKit Sl Kb So
def cf (key : Nat → Int) (x y : Nat) : Int := if key y < key x then -1 else if key x < key y then 1 else 0
theorem cf_neg (key : Nat → Int) (x y : Nat) : cf key x y < 0 ↔ key y < key x := by
  unfold cf; split
  · simp [*]
  · split <;> simp [*]
set_option maxRecDepth 100000 in
set_option maxHeartbeats 400000 in
theorem nan_any (x : Int) (w : World) : Calls Try.prog 31 #[.int .i64 x] w fun e w' => e = .returned (.bool false) ∧ w' = w := by
  go_enter Try.func31, Try.ntmps31
  go_wp2
  go_ret
  exact ⟨rfl, rfl⟩
set_option maxRecDepth 100000 in
set_option maxHeartbeats 400000 in
theorem compare_any (x y : Int) (w : World) : Calls Try.prog 27 #[.int .i64 x, .int .i64 y] w fun e w' => e = .returned (.int .i64 (if x < y then -1 else if y < x then 1 else 0)) ∧ w' = w := by
  by_cases h1 : x < y
  · rw [if_pos h1]
    go_enter Try.func27, Try.ntmps27
    go_wp2_with (go_at_call 31; refine (nan_any _ _).mono ?_; rintro e z ⟨rfl, rfl⟩)
    go_ret
    exact ⟨rfl, rfl⟩
  · rw [if_neg h1]
    by_cases h2 : y < x
    · rw [if_pos h2]
      go_enter Try.func27, Try.ntmps27
      go_wp2_with (go_at_call 31; refine (nan_any _ _).mono ?_; rintro e z ⟨rfl, rfl⟩)
      go_ret
      exact ⟨rfl, rfl⟩
    · rw [if_neg h2]
      go_enter Try.func27, Try.ntmps27
      go_wp2_with (go_at_call 31; refine (nan_any _ _).mono ?_; rintro e z ⟨rfl, rfl⟩)
      go_ret
      exact ⟨rfl, rfl⟩
/-- the numbers by which places are put in order: a box with their slice, and their row -/
structure Env (w : World) (g n nb rb : Nat) (key : Nat → Int) : Prop where
  ng : nb ≠ g
  rg : rb ≠ g
  box : w.heap[nb]? = some (.cells #[.slice (some ⟨rb, 0, none⟩) n n] 32 (0, 0))
  row : w.heap[rb]? = some (.cells (inC n key) 3 (0, 0))
  small : n ≤ 1048576
def Only (g : Nat) (w x : World) : Prop := Below g w x ∧ ∀ k, k ≠ g → x.heap[k]? = w.heap[k]?
theorem Only.refl (g : Nat) (w : World) : Only g w w := ⟨Below.refl _ _, fun _ _ => rfl⟩
theorem Only.trans {g : Nat} {w x y : World} (h : Only g w x) (k : Only g x y) : Only g w y := ⟨h.1.trans k.1, fun j hj => (k.2 j hj).trans (h.2 j hj)⟩
theorem only_dr {g : Nat} {w x : World} (h : Only g w x) (q : Nat) : Only g w (x.drewN q) := by
  refine ⟨?_, fun k hk => ?_⟩
  · induction q with
    | zero => exact h.1
    | succ q ih => exact ih.drew
  · rw [World.heap_drewN]; exact h.2 k hk
theorem only_set {g : Nat} {w x : World} (h : Only g w x) (o : Nat) (v : Value) : Only g w (x.setCell ⟨g, o, none⟩ v) :=
  ⟨h.1.setCell (Nat.le_refl _) _, fun k hk => (Below.heap_setCell x ⟨g, o, none⟩ v k hk).trans (h.2 k hk)⟩
theorem Env.keep {w x : World} {g n nb rb : Nat} {key : Nat → Int} (h : Env w g n nb rb key) (ho : Only g w x) : Env x g n nb rb key :=
  ⟨h.ng, h.rg, (ho.2 _ h.ng).trans h.box, (ho.2 _ h.rg).trans h.row, h.small⟩
theorem cell_row {w : World} {g i : Nat} {c : Array Value} {t : TypeId} {v : Value} (h : w.heap[g]? = some (.cells c t (0, 0))) (hi : c[i]? = some v) : w.cell? ⟨g, i, none⟩ = some v := by
  simp [World.cell?, h, hi]
theorem frozen_row {w : World} {g i : Nat} {c : Array Value} {t : TypeId} (h : w.heap[g]? = some (.cells c t (0, 0))) : w.frozen? ⟨g, i, none⟩ = false := by
  simp [World.frozen?, h]
abbrev cmpV (nb : Nat) : Value := .func (.func 26) #[] #[.pointer (some ⟨nb, 0, none⟩)]
set_option maxRecDepth 100000 in
set_option maxHeartbeats 400000 in
theorem cmp_any {w : World} {g n nb rb : Nat} {key : Nat → Int} (E : Env w g n nb rb key) (x y : Nat) (hx : x < n) (hy : y < n) :
    Calls Try.prog 26 #[.int .i64 (x : Int), .int .i64 (y : Int), .pointer (some ⟨nb, 0, none⟩)] w fun e w' => e = .returned (.int .i64 (cf key x y)) ∧ ∃ q, w' = w.drewN q := by
  have c0 : w.cell? ⟨nb, 0, none⟩ = some (.slice (some ⟨rb, 0, none⟩) n n) := cell_row E.box rfl
  have c1 : w.cell? ⟨rb, x, none⟩ = some (.int .i64 (key x)) := cell_row E.row (inC_get _ _ _ hx)
  have c2 : w.cell? ⟨rb, y, none⟩ = some (.int .i64 (key y)) := cell_row E.row (inC_get _ _ _ hy)
  have x1 : (x : Int) < (n : Int) := by omega
  have y1 : (y : Int) < (n : Int) := by omega
  have pc := fun w => compare_any (key y) (key x) w
  have hc : cf key x y = if key y < key x then -1 else if key x < key y then 1 else 0 := rfl
  rw [← hc] at pc
  generalize cf key x y = c at *
  generalize key x = kx at *
  generalize key y = ky at *
  clear hc
  go_enter Try.func26, Try.ntmps26
  go_wp2_with fail
  go_quiet ((go_at_call 27; exact Calls.quiet_of_same (pc _)))
  go_wp2_with fail
  go_ret
  exact ⟨rfl, _, rfl⟩
/-! the row that is put in order -/
def Row (w : World) (g n : Nat) (f : Nat → Nat) : Prop := w.heap[g]? = some (.cells (inC n (fun i => (f i : Int))) 3 (0, 0))
theorem Row.cell {w : World} {g n : Nat} {f : Nat → Nat} (h : Row w g n f) {i : Nat} (hi : i < n) : w.cell? ⟨g, i, none⟩ = some (.int .i64 (f i : Int)) := cell_row h (inC_get _ _ _ hi)
theorem Row.frozen {w : World} {g n : Nat} {f : Nat → Nat} (h : Row w g n f) (i : Nat) : w.frozen? ⟨g, i, none⟩ = false := frozen_row h
theorem Row.dr {w : World} {g n : Nat} {f : Nat → Nat} (h : Row w g n f) (q : Nat) : Row (w.drewN q) g n f := by unfold Row; rw [World.heap_drewN]; exact h
theorem setCell_heap {w : World} {g : Nat} {c : Array Value} {t : TypeId} {fr : Nat × Nat} (h : w.heap[g]? = some (.cells c t fr)) (o : Nat) (v : Value) : (w.setCell ⟨g, o, none⟩ v).heap[g]? = some (.cells (c.setIfInBounds o v) t fr) := by
  show (w.heap.modify g _)[g]? = _
  rw [Array.getElem?_modify]; simp [h]
theorem row_swap {w : World} {g n : Nat} {f : Nat → Nat} (h : Row w g n f) {x y : Nat} (hx : x < n) (hy : y < n) :
    Row ((w.setCell ⟨g, x, none⟩ (.int .i64 (f y : Int))).setCell ⟨g, y, none⟩ (.int .i64 (f x : Int))) g n (swp f x y) := by
  unfold Row
  rw [setCell_heap (setCell_heap h x _) y _, inC_set _ _ _ _ hx, inC_set _ _ _ _ hy]
  congr 2
  refine inC_ext fun i _ => ?_
  simp only [updI, swp]
  by_cases e1 : i = y
  · rw [if_pos e1]
    by_cases e2 : i = x
    · rw [if_pos e2, ← e1, e2]
    · rw [if_neg e2, if_pos e1]
  · rw [if_neg e1]
    by_cases e2 : i = x
    · rw [if_pos e2, if_pos e2]
    · rw [if_neg e2, if_neg e2, if_neg e1]
set_option maxRecDepth 100000 in
set_option maxHeartbeats 400000 in
theorem swapRange_any (g n : Nat) (hn : n ≤ 1048576) (cv : Value) (a b m : Nat) (hab : a + m ≤ b) (hb : b + m ≤ n) (f : Nat → Nat) (w : World) (hR : Row w g n f) :
    Calls Try.prog 53 #[.slice (some ⟨g, 0, none⟩) n n, .int .i64 (a : Int), .int .i64 (b : Int), .int .i64 (m : Int), cv] w fun e w' => e = .returned (.tuple #[]) ∧ Only g w w' ∧ Row w' g n (swR f a b m) := by
  have HR : Hid (Row w g n f) := hR
  have m1 : (m : Int) ≤ 1048576 := by omega
  have b1 : (b : Int) + (m : Int) ≤ (n : Int) := by omega
  have a1 : (a : Int) + (m : Int) ≤ (b : Int) := by omega
  have n1 : (n : Int) ≤ 1048576 := by omega
  clear hR
  go_enter Try.func53, Try.ntmps53
  go_wp2_with fail
  go_loopw [10] (fun ii wr => ∃ i : Nat, i ≤ m ∧ ii = .int .i64 (i : Int) ∧ Hid (Only g w wr ∧ Row wr g n (swR f a b i))) (fun ii _ => m + 1 - (intOf ii).toNat)
  case atStart => exact ⟨0, Nat.zero_le _, rfl, Only.refl _ _, by rw [swR_zero]; exact HR.out⟩
  case round =>
    obtain ⟨i, hi, rfl, HI⟩ := hrel
    by_cases hlt : i < m
    · have q : (i : Int) < (m : Int) := by omega
      obtain ⟨X, hX⟩ : ∃ X, X = a + i := ⟨_, rfl⟩
      obtain ⟨Y, hY⟩ : ∃ Y, Y = b + i := ⟨_, rfl⟩
      have eX : (a : Int) + (i : Int) = (X : Int) := by omega
      have eY : (b : Int) + (i : Int) = (Y : Int) := by omega
      have x1 : (X : Int) < (n : Int) := by omega
      have y1 : (Y : Int) < (n : Int) := by omega
      have cx := HI.out.2.cell (i := X) (by omega)
      have cy := HI.out.2.cell (i := Y) (by omega)
      have fx := HI.out.2.frozen X
      have fy := HI.out.2.frozen Y
      have HX : Hid (X = a + i ∧ Y = b + i) := ⟨hX, hY⟩
      generalize hfx : (swR f a b i X : Int) = vx at *
      generalize hfy : (swR f a b i Y : Int) = vy at *
      have HF : Hid ((swR f a b i X : Int) = vx ∧ (swR f a b i Y : Int) = vy) := ⟨hfx, hfy⟩
      clear hfx hfy hX hY
      go_wp2_with fail
      go_region
      go_wp2_with fail
      refine ⟨⟨i + 1, by omega, by go_num, ?_⟩, by simp only [intOf]; omega⟩
      obtain ⟨h1, h2⟩ := HI.out
      obtain ⟨h3, h4⟩ := HX.out
      have hs := row_swap h2 (x := X) (y := Y) (by omega) (by omega)
      rw [HF.out.1, HF.out.2, h3, h4, swR_step f a b m i hab hlt] at hs
      rw [← h3, ← h4] at hs
      exact ⟨only_set (only_set (only_dr h1 1) _ _) _ _, hs⟩
    · obtain rfl : i = m := by omega
      go_wp2_with fail
      go_end0
      exact ⟨rfl, HI.out⟩
end Go.Proofs.Ytaacocliclibgaa.Sc
