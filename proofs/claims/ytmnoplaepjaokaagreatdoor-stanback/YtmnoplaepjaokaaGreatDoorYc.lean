/- Numbers in memory: the program's. -/
import Derived.Test.YtmnoplaepjaokaaGreatDoorYb
import Derived.Test.YtmnoplaepjaokaaGreatDoorKb
import Derived.Test.YtmnoplaepjaokaaGreatDoorTz
import Derived.Test.YtmnoplaepjaokaaGreatDoorXp
import Derived.BigQuiet
import Derived.Deep.OwnRows
import Derived.Laws.Bits64
import Derived.Laws.Bits64b
namespace Go.Proofs.YtmnoplaepjaokaaGreatDoor.Yc
set_option linter.unusedVariables false
set_option linter.unusedSimpArgs false
open Go.RowKit Lib0 Kb Xp Ya Yb
abbrev tN : TypeId := 67
abbrev tU : TypeId := 104
def uC (n : Nat) (v : Nat → Nat) : Array Value := ((List.range n).map fun i => Value.int .u64 ((v i : Nat) : Int)).toArray
theorem uC_size (n : Nat) (v : Nat → Nat) : (uC n v).size = n := by simp [uC]
theorem uC_get (n : Nat) (v : Nat → Nat) (i : Nat) (h : i < n) : (uC n v)[i]? = some (.int .u64 ((v i : Nat) : Int)) := by simp [uC, h]
theorem uC_set (n : Nat) (v : Nat → Nat) (k b : Nat) (h : k < n) : (uC n v).setIfInBounds k (.int .u64 (b : Int)) = uC n (upN v k b) := by
  apply Array.ext_getElem?
  intro i
  by_cases hi : i < n
  · rw [uC_get _ _ _ hi, Array.getElem?_setIfInBounds]
    by_cases e : k = i
    · subst e; simp [upN, uC_size, h]
    · rw [if_neg e, uC_get _ _ _ hi, upN, if_neg (fun x => e x.symm)]
  · rw [Array.getElem?_eq_none (by simp [uC_size]; omega), Array.getElem?_eq_none (by simp [uC_size]; omega)]
theorem uC_zero (n : Nat) : Array.replicate n (Value.int .u64 0) = uC n (fun _ => 0) := by
  apply Array.ext_getElem?
  intro i
  by_cases hi : i < n
  · rw [uC_get _ _ _ hi]; simp [hi]
  · rw [Array.getElem?_eq_none (by simp; omega), Array.getElem?_eq_none (by simp [uC_size]; omega)]
structure Nm (w : World) (b d : Nat) (S : St) (W : Nat → Nat) : Prop where
  blk : w.heap[b]? = some (.cells #[.slice (some ⟨d, 0, none⟩) (S.mo / 64 + 1) (S.mo / 64 + 1), .int .i64 (S.mo : Int), .int .i64 (S.many : Int), .int .i64 (S.last : Int)] tN)
  row : w.heap[d]? = some (.cells (uC (S.mo / 64 + 1) W) tU)
  wd : Wd S.mo S.out W
theorem ty_ne {w : World} {g k : Nat} {c d : Array Value} {s t : TypeId} {x y : Nat × Nat} (h : w.heap[g]? = some (.cells c s x)) (h2 : w.heap[k]? = some (.cells d t y)) (hne : s ≠ t) : g ≠ k := fun e => by
  rw [e, h2] at h
  injection h with h
  injection h with _ h
  exact hne h.symm
theorem Nm.ne {w : World} {b d : Nat} {S : St} {W : Nat → Nat} (h : Nm w b d S W) : b ≠ d := ty_ne h.blk h.row (by decide)
theorem Nm.lt {w : World} {b d : Nat} {S : St} {W : Nat → Nat} (h : Nm w b d S W) : b < w.heap.size ∧ d < w.heap.size := ⟨(Array.getElem?_eq_some_iff.1 h.blk).1, (Array.getElem?_eq_some_iff.1 h.row).1⟩
theorem pow_cast (i : Nat) (h : i < 64) : IntKind.u64.wrap (2 ^ i) = ((2 ^ i : Nat) : Int) := by
  have h2 := pow_lt i h
  have e : (2 ^ i : Int) = ((2 ^ i : Nat) : Int) := by simp
  rw [IntKind.wrap_u64, e]
  generalize 2 ^ i = x at *
  omega
theorem bitOf_any (n : Nat) (hn : n ≤ 1000000) (w : World) : Calls Tryz.prog 60 #[.int .i64 (n : Int)] w fun e w' => e = .returned (.int .u64 ((2 ^ (n % 64) : Nat) : Int)) ∧ w' = w := by
  have hm : n % 64 < 64 := Nat.mod_lt _ (by decide)
  have HP := pow_cast (n % 64) hm
  have e1 : ((n : Int) % 64) = ((n % 64 : Nat) : Int) := by omega
  have h0 : (0 : Int) ≤ (n : Int) := by omega
  generalize n % 64 = i at *
  generalize (n : Int) = N at *
  have g0 : (0 : Int) ≤ (i : Int) := by omega
  have g1 : (i : Int) ≤ 64 := by omega
  clear hn hm
  generalize ((2 ^ i : Nat) : Int) = X at *
  go_enter Tryz.func60, Tryz.ntmps60
  go_wp2_with fail
  go_ret
  exact ⟨rfl, rfl⟩
theorem set3 {z : World} {g : Nat} {a b c u v t : Value} {ty : TypeId} (h : z.heap[g]? = some (.cells #[a, b, c] ty)) : (((z.setCell ⟨g, 0, none⟩ u).setCell ⟨g, 1, none⟩ v).setCell ⟨g, 2, none⟩ t).heap[g]? = some (.cells #[u, v, t] ty) :=
  setCell_heap (setCell_heap (setCell_heap h 0 u) 1 v) 2 t
def isNum (n : Int) : Bool := decide (1 ≤ n) && decide (n ≤ 999999)
theorem isNumber_any (n : Int) (w : World) : Calls Tryz.prog 38 #[.int .i64 n] w fun e w' => e = .returned (.bool (isNum n)) ∧ w' = w := by
  by_cases h1 : 1 ≤ n
  · go_enter Tryz.func38, Tryz.ntmps38
    go_wp2
    go_ret
    exact ⟨by simp [isNum, h1], rfl⟩
  · have h2 : decide (1 ≤ n) = false := by simpa using h1
    go_enter Tryz.func38, Tryz.ntmps38
    go_wp2
    go_ret
    exact ⟨by simp [isNum, h2], rfl⟩
theorem infoU : (Tryz.prog.info? tU).map (fun i => (i.zero, i.size, i.bytes)) = some (some (.int .u64 0), 1, 8) := by kernel_rfl
abbrev tM : TypeId := 65
theorem infoM : (Tryz.prog.info? tM).map (·.size) = some 3 := by kernel_rfl
theorem top_cast (mo I : Nat) (h : mo % 64 = I) : IntKind.u64.wrap (18446744073709551615 * 2 ^ (I + 1)) = ((top mo : Nat) : Int) := by
  subst h
  rw [IntKind.wrap_u64, top]
  simp
theorem made_cell (x : World) (n J : Nat) (h : J < n) : (x.alloc (.cells (madeCells #[Value.int .u64 0] n) tU)).cell? ⟨x.heap.size, J, none⟩ = some (.int .u64 0) := by
  rw [cell_of_row _ _ J _ _ _ (h1_0 x _)]
  simp [madeCells, h, Nat.mod_one]
set_option maxRecDepth 100000 in
theorem newMarks_any (mo : Nat) (h1 : 1 ≤ mo) (h2 : mo ≤ 999999) (w : World) : Calls Tryz.prog 39 #[.int .i64 (mo : Int)] w fun e w' => e = .returned (.agg #[.slice (some ⟨w.heap.size + 1, 0, none⟩) (mo / 64 + 1) (mo / 64 + 1), .int .i64 (mo : Int), .int .i64 0]) ∧ w'.heap[w.heap.size + 1]? = some (.cells (uC (mo / 64 + 1) (new mo)) tU) ∧ Below w.heap.size w w' := by
  have hJ : (mo : Int) / 64 = ((mo / 64 : Nat) : Int) := by omega
  have hI : (mo : Int) % 64 = ((mo % 64 : Nat) : Int) := by omega
  have hI2 : mo % 64 < 64 := Nat.mod_lt _ (by decide)
  have HT : Hid (IntKind.u64.wrap (18446744073709551615 * 2 ^ (mo % 64 + 1)) = ((top mo : Nat) : Int)) := top_cast mo _ rfl
  obtain ⟨J, HJ⟩ : ∃ J, Hid (mo / 64 = J) := ⟨_, rfl⟩
  obtain ⟨I, HI⟩ : ∃ I, Hid (mo % 64 = I) := ⟨_, rfl⟩
  rw [HJ.out] at hJ ⊢
  rw [HI.out] at hI HT hI2
  have HJ2 : Hid (J ≤ 15624) := by have := HJ.out; show J ≤ 15624; omega
  have hmk := run_make_row' (P := Tryz.prog) 63 tU (.int .u64 0) 8 Tryz.underlying63 infoU rfl .i64 .i64 (J + 1) (by have := HJ2.out; omega) (by have := HJ2.out; omega)
  have g0 : (0 : Int) ≤ (mo : Int) := by omega
  have g1 : (0 : Int) ≤ (I : Int) + 1 := by omega
  have g2 : (I : Int) + 1 ≤ 64 := by omega
  have g3 : (J : Int) + 1 ≤ 9223372036854775807 := by have := HJ2.out; omega
  have g4 : IntKind.u64.wrap (18446744073709551615 * 2 ^ ((I : Int) + 1).toNat) = ((top mo : Nat) : Int) := by rw [show ((I : Int) + 1).toNat = I + 1 by omega]; exact HT.out
  obtain ⟨T, HTT⟩ : ∃ T : Int, Hid (((top mo : Nat) : Int) = T) := ⟨_, rfl⟩
  rw [HTT.out] at g4
  have g5 : (mo : Int) ≤ 999999 := by omega
  rw [show ((J + 1 : Nat) : Int) = (J : Int) + 1 from rfl] at hmk
  generalize (mo : Int) = M at *
  clear hI2
  obtain ⟨B, HB⟩ : ∃ B, Hid (w.heap.size = B) := ⟨_, rfl⟩
  have hy0 := h2_0 w (Obj.cells #[Value.slice none 0 0, Value.int IntKind.i64 0, Value.int IntKind.i64 0] tM) (.cells (madeCells #[Value.int .u64 0] (J + 1)) tU)
  have hy1 := h2_1 w (Obj.cells #[Value.slice none 0 0, Value.int IntKind.i64 0, Value.int IntKind.i64 0] tM) (.cells (madeCells #[Value.int .u64 0] (J + 1)) tU)
  have hyb := below_two w (Obj.cells #[Value.slice none 0 0, Value.int IntKind.i64 0, Value.int IntKind.i64 0] tM) (.cells (madeCells #[Value.int .u64 0] (J + 1)) tU)
  have hmk2 := hmk (w.alloc (Obj.cells #[Value.slice none 0 0, Value.int IntKind.i64 0, Value.int IntKind.i64 0] tM))
  clear hmk
  generalize HY : (w.alloc (Obj.cells #[Value.slice none 0 0, Value.int IntKind.i64 0, Value.int IntKind.i64 0] tM)).alloc (.cells (madeCells #[Value.int .u64 0] (J + 1)) tU) = y at *
  clear HY
  rw [World.size_alloc] at hmk2
  have c0 : y.cell? ⟨w.heap.size, 0, none⟩ = some (Value.slice none 0 0) := by simp [World.cell?, hy0]
  have c1 : y.cell? ⟨w.heap.size, 1, none⟩ = some (Value.int IntKind.i64 0) := by simp [World.cell?, hy0]
  have c2 : y.cell? ⟨w.heap.size, 2, none⟩ = some (Value.int IntKind.i64 0) := by simp [World.cell?, hy0]
  have f0 : ∀ k, y.frozen? ⟨w.heap.size, k, none⟩ = false := fun k => frozen_of_row y _ k _ _ hy0
  have d0 : y.cell? ⟨w.heap.size + 1, J, none⟩ = some (Value.int IntKind.u64 0) := by
    rw [cell_of_row _ _ J _ _ _ hy1]; simp [madeCells, Nat.mod_one]
  have f1 : y.frozen? ⟨w.heap.size + 1, J, none⟩ = false := frozen_of_row y _ _ _ _ hy1
  have H0 : Hid _ := hy0
  have H1 : Hid _ := hy1
  have HYB : Hid (Below w.heap.size w y) := hyb
  clear hy0 hy1 hyb
  go_enter Tryz.func39, Tryz.ntmps39
  go_wp2_with fail
  rw [HT.out, HTT.out]
  have k1 : (y.setCell ⟨w.heap.size + 1, J, none⟩ (.int .u64 T)).heap[w.heap.size + 1]? = some (.cells (uC (J + 1) (new mo)) tU) := by
    rw [setCell_heap H1.out]
    have e : madeCells #[Value.int .u64 0] (J + 1) = uC (J + 1) (fun _ => 0) := by
      apply Array.ext
      · simp [madeCells, uC]
      · intro i a1 a2; simp [madeCells, uC, Nat.mod_one]
    rw [e, ← HTT.out, uC_set _ _ _ _ (by omega)]
    have := HJ.out
    subst this
    rfl
  have k0 : (y.setCell ⟨w.heap.size + 1, J, none⟩ (.int .u64 T)).heap[w.heap.size]? = some (.cells #[Value.slice none 0 0, Value.int IntKind.i64 0, Value.int IntKind.i64 0] tM) := (setCell_ne (p := ⟨w.heap.size + 1, J, none⟩) (by show w.heap.size + 1 ≠ w.heap.size; omega) _).trans H0.out
  have k2 : Below w.heap.size w (y.setCell ⟨w.heap.size + 1, J, none⟩ (.int .u64 T)) := HYB.out.setCell (by show w.heap.size ≤ w.heap.size + 1; omega) _
  generalize y.setCell ⟨w.heap.size + 1, J, none⟩ (.int .u64 T) = z at *
  refine bodyPost_ret (v := .agg #[.slice (some ⟨w.heap.size + 1, 0, none⟩) (J + 1) (J + 1), .int .i64 M, .int .i64 0]) (results_cell_row rfl _ _ w.heap.size tM _ _ _ rfl (set3 k0) Tryz.underlying65 rfl infoM) rfl ⟨rfl, ?_, ?_⟩
  · rw [setCell_ne (p := ⟨w.heap.size, 2, none⟩) (by show w.heap.size ≠ w.heap.size + 1; omega), setCell_ne (p := ⟨w.heap.size, 1, none⟩) (by show w.heap.size ≠ w.heap.size + 1; omega), setCell_ne (p := ⟨w.heap.size, 0, none⟩) (by show w.heap.size ≠ w.heap.size + 1; omega)]
    exact k1
  · exact ((k2.setCell (Nat.le_refl _) _).setCell (Nat.le_refl _) _).setCell (Nat.le_refl _) _
end Go.Proofs.YtmnoplaepjaokaaGreatDoor.Yc
