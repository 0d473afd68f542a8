/- The currencies in their order: rising. -/
import Derived.Test.YtaacocliclibgaaPc
import Derived.Test.YtaacocliclibgaaNm
import Derived.Maps.RangeWalk
import Derived.Maps.AppendAt
import Derived.OwnWalk
import Derived.Sort.KeysCollected
import Derived.Sort.OwnSorted
import Derived.Sort.EncStr
namespace Go.Proofs.Ytaacocliclibgaa.Ri
set_option linter.unusedVariables false
set_option linter.unusedSimpArgs false
open Go.RowKit Go.Maps Go.Sort Kb Pp Pc Nm
theorem info_str : (Try.prog.info? 9).map (fun i => (i.zero, i.size, i.bytes)) = some (some (.string ⟨#[]⟩), 1, 16) := by kernel_rfl
/-- the library's sort at texts -/
def SortS : Prop := ∀ (blk off cap : Nat) (ss : List (List UInt8)) (w : World), Holds encStr w blk off ss.toArray → blk < w.heap.size → ss.length < 4611686018427387904 →
  Calls Try.prog 24 #[.slice (some ⟨blk, off, none⟩) ss.length cap] w fun e w' =>
    e = .returned (.tuple #[]) ∧ ∃ n os, w' = grow (putRow encStr (Sort.ahead w n) blk off (ss.mergeSort fun x y => decide (x ≤ y)).toArray) os
theorem keys_names {H : Type} : strKeys (D0 H) = names := by
  simp only [D0, strKeys, names, List.map_map]
  rfl
theorem names_sorted {ss : List (List UInt8)} (h : ss.Perm names) : (ss.mergeSort fun x y => decide (x ≤ y)) = names := by
  have h1 := mergeSort_of_perm h
  have h2 : names.mergeSort leB = names := List.mergeSort_of_pairwise (by decide)
  exact (show ss.mergeSort leB = names from h1.trans h2)
theorem size_D0 {H : Type} : Maps.size (D0 H) = 27 := rfl
set_option maxRecDepth 100000 in
set_option maxHeartbeats 1000000 in
theorem rising_any {H : Type} (hsort : SortS) (b n : Nat) (w : World) (hown : w.ownsMap (H := H) Try.prog 9 (plainElem Try.prog 3) b n (D0 H)) :
    Calls Try.prog 18 #[.map (some b)] w fun e w' => ∃ (g cap : Nat), e = .returned (.slice (some ⟨g, 0, none⟩) 27 cap) ∧
      w'.ownsRow w.heap.size 9 1 (.slice (some ⟨g, 0, none⟩) 27 cap) 27 (names.map encStr) ∧ Below w.heap.size w w' := by
  obtain ⟨i0, hi, hz0, hz1, hz2⟩ := info_parts info_str
  have hbl := hown.lt
  have hmax : Maps.size (D0 H) ≤ maxLen := by rw [size_D0]; decide
  go_enter Try.func18, Try.ntmps18
  go_wp2_with (first
    | (at_len; refine wpList_len_own _ rfl _ 46 rfl 9 3 Try.underlying46 _ b n _ rfl hown ?_)
    | (at_make; refine wpList_make_own _ rfl _ _ 25 rfl w.heap.size 9 i0 (.string ⟨#[]⟩) 1 Try.underlying25 hi hz0 hz1 _ _ _ (Maps.size (D0 H)) rfl rfl rfl (by rw [hz2, size_D0]; decide) hmax (Nat.le_refl _) ?_; intro w1 hrow1 hg1)
    | (at_range; refine wpList_range_own _ rfl _ 46 rfl 9 3 law Try.underlying46 _ b n _ rfl (hown.kept hg1 (by simp)) ?_; intro w0 hrg0 hg0 hs0)
    | go_in)
  go_frame
  go_loopw [3] (fun v wr => ∃ (left : Lit → Bool) (cnt : Nat) (ss : List (List UInt8)), wr.ranges Try.prog 9 (plainElem Try.prog 3) b w1.heap.size n (D0 H) left cnt ∧ ss.length + cnt ≤ Maps.size (D0 H) ∧
      wr.ownsRow w.heap.size 9 1 v ss.length (ss.map encStr) ∧ v ≠ .slice none 0 0 ∧ Collected (D0 H) left ss ∧ Below w.heap.size w wr)
    (fun _ wr => wr.rangeLeft b w1.heap.size)
  case atStart =>
    exact ⟨_, _, [], hrg0, by simp, hrow1.kept hg0 (Or.inr (by simp [Value.ownBlock])), by simp, Collected.start (D0 H),
      ((Below.refl _ _).grown hg1 (Nat.le_refl _) (fun j hj => by cases hj)).grown hg0 hg1.size (fun j hj => by cases hj)⟩
  case round =>
    obtain ⟨left, cnt, ss, hrg, hcs, hrow, hnn, hC, hnx⟩ := hrel
    rename World => wr
    go_wp2_with (first
      | (at_next; refine wpList_next_ranges _ rfl _ rfl 9 law (plainElem Try.prog 3) encStr (Value.int .i64) (fun key kl hk => by obtain ⟨x, hx, _⟩ := Maps.keyOf_str Try.underlying9 hk; exact ⟨x, hx⟩) (fun v y hv => by obtain ⟨c, rfl, _⟩ := plainElem_int_inv Try.underlying3 hv; exact ⟨c, rfl⟩) b w1.heap.size n _ _ _ rfl hrg ?_ ?_)
      | go_in)
    · intro hc0 hl0
      rcases hrow.2 with ⟨hnil, _⟩ | ⟨g, cap, cur, rfl, hbase, hb, h1, h2, h3, h4⟩
      · exact absurd hnil hnn
      have hH : Holds encStr wr g 0 ss.toArray := holds_of_block hb (by simpa using h4)
      have hgl : g < wr.heap.size := (Array.getElem?_eq_some_iff.1 hb).1
      have hc := hsort g 0 cap ss wr hH hgl (by rw [size_D0] at hcs; omega)
      have hP := hC.perm hown law Try.underlying9 hl0
      rw [keys_names] at hP
      have hl27 : ss.length = 27 := by rw [hP.length_eq]; rfl
      have hS := names_sorted hP
      rw [hS] at hc
      have HO := fun nn os => ownsRow_sorted (ss := ss) (ts := names) (n := nn) (os := os) (by rw [hl27]; rfl) hbase hb h1 h2 h3
      clear hS hP hC hrg hcs hH
      replace HO : Hid (∀ (nn : Nat) (os : Array Obj), _) := HO
      replace hl27 : Hid (ss.length = 27) := hl27
      obtain ⟨n27, e27⟩ : ∃ n27, ss.length = n27 := ⟨_, rfl⟩
      rw [e27] at hc HO hl27 ⊢
      clear e27 h1 h2 h3 h4 hrow
      generalize names.toArray = NA at *
      go_wp2_with (go_at_call 24; refine hc.mono ?_; rintro e w' ⟨rfl, nn, os, rfl⟩)
      go_ret
      refine ⟨g, cap, by rw [hl27.out]; rfl, ?_, hnx.grown (grownBy_sorted _) hnx.size (fun j hj => by cases hj; exact hbase)⟩
      have := HO.out nn os
      rw [hl27.out] at this
      exact this
    · intro x c kl yd yp w2 cnt2 hkey hlk hv hat hrg2 hlt hg2 hs2 hen
      obtain ⟨x', ex, rfl, _⟩ := Maps.keyOf_str Try.underlying9 hkey
      obtain rfl : x = x' := encStr_inj ex
      have hrow2 := hrow.kept hg2 (Or.inr (row_ne_iter hrow hrg).symm)
      rw [size_D0] at hcs
      clear hs2
      go_wp2_with (first
        | (at_builtin; refine wpList_append_own _ rfl _ _ 25 rfl w.heap.size 9 i0 (.string ⟨#[]⟩) 1 16 Try.underlying25 hi hz0 hz1 hz2 rfl (by decide) _ _ _ rfl (hrow2.alloc _) ⟨w2.heap.size, 0, none⟩ 1 1 [encStr x] rfl rfl (cell_one_new _ _ _) (by simp [Value.oneCell', encStr]) (by unfold maxLen at *; omega) (by omega) (by have := hnx.size; have := hg2.size; simp; omega) ?_; intro v' w3 hown' hg3 hnil3)
        | go_in)
      have hrg3 := (hrg2.alloc _).kept hg3 (row_ne_low hrow2 hbl) (row_ne_iter hrow2 hrg2)
      go_roundw
      case rel =>
        refine ⟨_, cnt2, ss ++ [x], hrg3, by rw [size_D0]; simp; omega, by simpa using hown', fun hv' => by have := (hnil3.1 hv').2; omega, hC.step hlk hat, ?_⟩
        exact ((hnx.grown hg2 hnx.size (fun j hj => by cases hj; exact hg1.size)).alloc (by have := hnx.size; have := hg2.size; omega) _).grown hg3 (by have := hnx.size; have := hg2.size; simp; omega) (fun j hj => (hrow2.lt j hj).1)
      case measure => rw [hrg3.left_eq, hrg.left_eq]; exact hlt
end Go.Proofs.Ytaacocliclibgaa.Ri
