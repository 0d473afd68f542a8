import Derived.Test.YtciblmdpngnakaaQv05
import Derived.Deep.MidRow
import Derived.Test.YtciblmdpngnakaaQv02
/- Rows of cells in the middle of a block. -/
namespace Go.Proofs.Ytciblmdpngnakaa.Sm
set_option linter.unusedVariables false
open Go.RowKit Pla Cb Tk
def putL (c : Array Value) (o : Nat) : List Value → Array Value
  | [] => c
  | v :: r => putL (c.setIfInBounds o v) (o + 1) r
theorem putL_size : ∀ (vs : List Value) (c : Array Value) (o : Nat), (putL c o vs).size = c.size
  | [], c, o => rfl
  | v :: r, c, o => by rw [putL, putL_size r]; simp
theorem putL_get : ∀ (vs : List Value) (c : Array Value) (o i : Nat), i < c.size → (putL c o vs)[i]? = if o ≤ i ∧ i < o + vs.length then vs[i - o]? else c[i]?
  | [], c, o, i, hi => by rw [putL, if_neg (by intro h; simp only [List.length_nil] at h; omega)]
  | v :: r, c, o, i, hi => by
    rw [putL, putL_get r _ (o + 1) i (by simpa using hi)]
    by_cases h1 : o + 1 ≤ i ∧ i < o + 1 + r.length
    · rw [if_pos h1, if_pos (by simp; omega)]
      rw [show i - o = (i - (o + 1)) + 1 by omega]; simp
    · rw [if_neg h1, Array.getElem?_setIfInBounds]
      by_cases h2 : o = i
      · subst h2; rw [if_pos rfl, if_pos hi, if_pos (by simp)]; simp
      · rw [if_neg h2, if_neg (by simp; omega)]
theorem setCell_heap {w : World} {g : Nat} {c : Array Value} {t : TypeId} {fr : Nat × Nat} (h : w.heap[g]? = some (.cells c t fr)) (o : Nat) (v : Value) : (w.setCell ⟨g, o, none⟩ v).heap[g]? = some (.cells (c.setIfInBounds o v) t fr) := by
  show (w.heap.modify g _)[g]? = _
  rw [Array.getElem?_modify]; simp [h]
theorem setCell_ne {w : World} {g k : Nat} (h : g ≠ k) (o : Nat) (v : Value) : (w.setCell ⟨g, o, none⟩ v).heap[k]? = w.heap[k]? := by
  show (w.heap.modify g _)[k]? = _
  rw [Array.getElem?_modify]; simp [h]
theorem below_setCell {B : Nat} {a w : World} (h : Below B a w) {g : Nat} (hg : B ≤ g) (o : Nat) (v : Value) : Below B a (w.setCell ⟨g, o, none⟩ v) :=
  ⟨h.os, h.tape, h.output, by have := h.size; simpa [World.setCell] using this, fun k hk => (setCell_ne (by omega) o v).trans (h.block k hk)⟩
theorem setCells_heap {g : Nat} {t : TypeId} {fr : Nat × Nat} : ∀ (vs : List Value) (o : Nat) {w : World} {c : Array Value}, w.heap[g]? = some (.cells c t fr) → (w.setCells g o vs).heap[g]? = some (.cells (putL c o vs) t fr)
  | [], o, w, c, h => h
  | v :: r, o, w, c, h => by rw [World.setCells, putL]; exact setCells_heap r (o + 1) (setCell_heap h o v)
theorem setCells_ne {g k : Nat} (hk : g ≠ k) : ∀ (vs : List Value) (o : Nat) (w : World), (w.setCells g o vs).heap[k]? = w.heap[k]?
  | [], o, w => rfl
  | v :: r, o, w => by rw [World.setCells, setCells_ne hk r, setCell_ne hk]
theorem below_setCells {B : Nat} {a : World} {g : Nat} (hg : B ≤ g) : ∀ (vs : List Value) (o : Nat) {w : World}, Below B a w → Below B a (w.setCells g o vs)
  | [], o, w, h => h
  | v :: r, o, w, h => by rw [World.setCells]; exact below_setCells hg r (o + 1) (below_setCell h hg o v)
theorem setCells_size {g : Nat} : ∀ (vs : List Value) (o : Nat) (w : World), (w.setCells g o vs).heap.size = w.heap.size
  | [], o, w => rfl
  | v :: r, o, w => by rw [World.setCells, setCells_size r]; simp [World.setCell]
theorem there_of {w : World} {g : Nat} {c : Array Value} {t : TypeId} (h : w.heap[g]? = some (.cells c t (0, 0))) (o n : Nat) (hn : o + n ≤ c.size) : w.there g o n := by
  intro j hj
  refine ⟨?_, ?_⟩
  · rw [cell_of_row w g _ _ _ (0, 0) h, Array.getElem?_eq_getElem (by omega)]; rfl
  · simp [World.frozen?, h]
theorem range_of {w : World} {g : Nat} {c : Array Value} {t : TypeId} {fr : Nat × Nat} (h : w.heap[g]? = some (.cells c t fr)) (o : Nat) (cs : List Value) (hc : ∀ j v, cs[j]? = some v → c[o + j]? = some v) : w.rangeAt g o cs := by
  intro j v hv
  rw [cell_of_row w g _ _ _ fr h]; exact hc j v hv
theorem range_sub {w : World} {g o n m : Nat} {v : Nat → Nat} (h : w.rangeAt g o (byC n v).toList) (s : Nat) (hs : s + m ≤ n) : w.rangeAt g (o + s) (byC m fun i => v (s + i)).toList := by
  intro j x hx
  have hj : j < m := by have := (List.getElem?_eq_some_iff.1 hx).1; simpa [byC_size] using this
  have := h (s + j) (.int .u8 ((v (s + j) : Nat) : Int)) (by rw [Array.getElem?_toList, byC_get n v _ (by omega)])
  rw [Array.getElem?_toList, byC_get m _ j hj] at hx
  cases hx
  rw [Nat.add_assoc]; exact this
theorem range_keep {a x : World} {g o : Nat} {cs : List Value} (h : Below a.heap.size a x) (hg : g < a.heap.size) (hr : a.rangeAt g o cs) : x.rangeAt g o cs := by
  intro j v hv
  have := hr j v hv
  rw [← this]
  exact h.cell hg
/-- a piece of a row is put in its place -/
theorem put_up (n m j : Nat) (v : Nat → Nat) (h : m * j + m ≤ n) : putL (byC n (up v (m * j))) (m * j) (byC m fun i => v (m * j + i)).toList = byC n (up v (m * (j + 1))) := by
  apply Array.ext_getElem?
  intro i
  have e : m * (j + 1) = m * j + m := Nat.mul_succ m j
  by_cases hi : i < n
  · rw [putL_get _ _ _ _ (by rw [byC_size]; exact hi), byC_get n (up v (m * (j + 1))) i hi, byC_get n (up v (m * j)) i hi]
    simp only [Array.length_toList, byC_size]
    by_cases c : m * j ≤ i ∧ i < m * j + m
    · rw [if_pos c, Array.getElem?_toList, byC_get m _ (i - m * j) (by omega)]
      show some (Value.int .u8 ((v (m * j + (i - m * j)) : Nat) : Int)) = some (Value.int .u8 (((if i < m * (j + 1) then v i else 0) : Nat) : Int))
      rw [if_pos (by omega), show m * j + (i - m * j) = i by omega]
    · rw [if_neg c]
      show some (Value.int .u8 (((if i < m * j then v i else 0) : Nat) : Int)) = some (Value.int .u8 (((if i < m * (j + 1) then v i else 0) : Nat) : Int))
      by_cases c2 : i < m * j
      · rw [if_pos c2, if_pos (by omega)]
      · rw [if_neg c2, if_neg (by omega)]
  · rw [Array.getElem?_eq_none (by rw [putL_size, byC_size]; omega), Array.getElem?_eq_none (by rw [byC_size]; omega)]
theorem run_sc {P : Program} {w : World} {b o : Nat} {cells : Array Value} (ht : w.there b o cells.size) (h1 : cells.all (·.oneCell') = true) :
    (storeCells ⟨b, o, none⟩ cells.toList).run P w = .ok () (w.setCells b o cells.toList) := by
  have := run_storeCells_cells (P := P) b o cells.toList 0 w (fun j hj => by simpa using (ht j (by simpa using hj)).1) (fun j hj => by simpa using (ht j (by simpa using hj)).2)
    (fun v hv => (Array.all_eq_true_iff_forall_mem.1 h1) v (by simpa using hv))
  simpa only [Nat.add_zero] using this
end Go.Proofs.Ytciblmdpngnakaa.Sm
/- Words: eight bytes as a row of bits, and the small functions. -/
namespace Go.Proofs.Ytciblmdpngnakaa.Wd
set_option linter.unusedVariables false
open Go.RowKit Pla Cb
theorem bitsS_snoc (l : List UInt8) (c : UInt8) : val (bitsS (l ++ [c])) = 256 * val (bitsS l) + c.toNat := by
  simp only [bitsS, List.flatMap_append, List.flatMap_cons, List.flatMap_nil, List.append_nil]
  rw [val_append, bitsN_len, val_bitsN 8 _ c.toNat_lt]; omega
theorem take_snoc (s : ByteArray) (k : Nat) (h : k < s.size) : s.data.toList.take (k + 1) = s.data.toList.take k ++ [s[k]] := by
  rw [List.take_succ_eq_append_getElem (by simpa using h)]; rfl
theorem or_low (x y : Nat) (hx : x < 72057594037927936) (hy : y < 256) : bits .or .u64 ((x : Int) * 256) (y : Int) = ((256 * x + y : Nat) : Int) := by
  have h := u64_or_nat (256 * x) y (by omega) (by omega)
  have e : 256 * x ||| y = 256 * x + y := by
    have := @Nat.two_pow_add_eq_or_of_lt 8 y hy x
    exact this.symm
  rw [e] at h
  rw [← h]
  congr 1
  simp; omega
set_option maxRecDepth 100000 in
set_option maxHeartbeats 1600000 in
theorem word_any (s : ByteArray) (hs : 8 ≤ s.size) (w : World) :
    Calls Try.prog 50 #[.string s] w fun e w' => e = .returned (.int .u64 (val (bitsS (s.data.toList.take 8)) : Int)) ∧ w' = w := by
  go_enter Try.func50, Try.ntmps50
  go_wp2
  go_loopw [3, 4, 5] (fun a i c wr => ∃ j : Nat, j ≤ 8 ∧ c = .int .i64 (j : Int) ∧ a = .int .u64 (val (bitsS (s.data.toList.take j)) : Int) ∧ wr = w) (fun _ _ c _ => 9 - (intOf c).toNat)
  case atStart => exact ⟨0, by omega, rfl, rfl, rfl⟩
  case round =>
    obtain ⟨j, hj, rfl, rfl, rfl⟩ := hrel
    by_cases hj2 : j < 8
    · have q : (j : Int) < 8 := by omega
      have q0 : (0 : Int) ≤ (j : Int) := by omega
      have q1 : (j : Int) < (s.size : Int) := by omega
      have lt := val_lt (bitsS (s.data.toList.take j))
      have lt2 : val (bitsS (s.data.toList.take j)) < 72057594037927936 := Nat.lt_of_lt_of_le lt (by rw [bitsS_len]; exact Nat.pow_le_pow_right (n := 2) (by decide) (show 8 * (s.data.toList.take j).length ≤ 56 by simp; omega))
      have HE : Hid (val (bitsS (s.data.toList.take (j + 1))) = 256 * val (bitsS (s.data.toList.take j)) + (s[j]'(by omega)).toNat) := (by rw [take_snoc s j (by omega), bitsS_snoc] : val (bitsS (s.data.toList.take (j + 1))) = 256 * val (bitsS (s.data.toList.take j)) + (s[j]'(by omega)).toNat)
      have u1 := or_low (val (bitsS (s.data.toList.take j))) (s[j]'(by omega)).toNat lt2 (s[j]'(by omega)).toNat_lt
      have h3 : ((s[j]'(by omega)).toNat : Int) < 256 := toNat_lt _
      have i1 : (val (bitsS (s.data.toList.take j)) : Int) ≤ 72057594037927935 := by omega
      generalize val (bitsS (s.data.toList.take j)) = x at *
      clear lt lt2
      go_wp2
      refine ⟨⟨j + 1, by omega, by simp, by rw [HE.out]; simp, trivial⟩, ?_⟩
      simp only [intOf]; omega
    · obtain rfl : j = 8 := by omega
      go_wp2
      go_ret
      exact ⟨rfl, rfl⟩
def kindN (n : Nat) : Nat := if n = 8 then 1 else if n = 16 then 2 else if n = 24 then 3 else 0
theorem kind_any (s : ByteArray) (w : World) : Calls Try.prog 48 #[.string s] w fun e w' => e = .returned (.int .i64 (kindN s.size : Int)) ∧ w' = w := by
  cases h1 : ((s.size : Int) == 8)
  · have e1 : ¬ s.size = 8 := fun h => by rw [h] at h1; simp at h1
    cases h2 : ((s.size : Int) == 16)
    · have e2 : ¬ s.size = 16 := fun h => by rw [h] at h2; simp at h2
      cases h3 : ((s.size : Int) == 24)
      · have e3 : ¬ s.size = 24 := fun h => by rw [h] at h3; simp at h3
        rw [kindN, if_neg e1, if_neg e2, if_neg e3]
        clear e1 e2 e3
        go_enter Try.func48, Try.ntmps48
        go_wp2
        go_ret
        exact ⟨rfl, rfl⟩
      · have e3 : s.size = 24 := by have := eq_of_beq h3; omega
        rw [kindN, if_neg e1, if_neg e2, if_pos e3]
        clear e1 e2 e3
        go_enter Try.func48, Try.ntmps48
        go_wp2
        go_ret
        exact ⟨rfl, rfl⟩
    · have e2 : s.size = 16 := by have := eq_of_beq h2; omega
      rw [kindN, if_neg e1, if_pos e2]
      clear e1 e2
      go_enter Try.func48, Try.ntmps48
      go_wp2
      go_ret
      exact ⟨rfl, rfl⟩
  · have e1 : s.size = 8 := by have := eq_of_beq h1; omega
    rw [kindN, if_pos e1]
    clear e1
    go_enter Try.func48, Try.ntmps48
    go_wp2
    go_ret
    exact ⟨rfl, rfl⟩
theorem part_any (s : ByteArray) (i : Nat) (h : 8 * i + 8 ≤ s.size) (hi : i < 3) (w : World) : Calls Try.prog 51 #[.string s, .int .i64 (i : Int)] w fun e w' => e = .returned (.string (s.extract (8 * i) (8 * i + 8))) ∧ w' = w := by
  have q0 : (0 : Int) ≤ (i : Int) := by omega
  have q1 : (i : Int) < 3 := by omega
  have q2 : ((i : Int) + 1) * 8 ≤ (s.size : Int) := by omega
  go_enter Try.func51, Try.ntmps51
  go_wp2
  go_ret
  exact ⟨by rw [Nat.mul_comm i 8, show (i + 1) * 8 = 8 * i + 8 by omega]; rfl, rfl⟩
theorem and_mask (x m k : Nat) (hx : x < 18446744073709551616) (hm : m = 2 ^ k - 1) (hk : m < 18446744073709551616) : bits .and .u64 (x : Int) (m : Int) = ((x % 2 ^ k : Nat) : Int) := by
  rw [u64_and_nat x m hx hk, hm, Nat.and_two_pow_sub_one_eq_mod]
set_option maxRecDepth 100000 in
set_option maxHeartbeats 1600000 in
theorem cut32 (x y : Nat) (hx : x < 4294967296) (hy : y < 4294967296) (w : World) : Calls Try.prog 65 #[.int .u64 ((x * 4294967296 + y : Nat) : Int), .int .i64 32] w fun e w' => e = .returned (.agg #[.int .u32 (x : Int), .int .u32 (y : Int)]) ∧ Below w.heap.size w w' := by
  have r1 : (((x * 4294967296 + y : Nat) : Int)) / 4294967296 = (x : Int) := by omega
  have r2 : bits .and .u64 ((x * 4294967296 + y : Nat) : Int) 4294967295 = (y : Int) := by
    have := and_mask (x * 4294967296 + y) 4294967295 32 (by omega) (by decide) (by decide)
    rw [show (x * 4294967296 + y) % 2 ^ 32 = y by omega] at this
    exact this
  have r3 : IntKind.u32.wrap (x : Int) = x := by rw [IntKind.wrap_u32']; omega
  have r4 : IntKind.u32.wrap (y : Int) = y := by rw [IntKind.wrap_u32']; omega
  generalize ((x * 4294967296 + y : Nat) : Int) = R at *
  go_enter Try.func65, Try.ntmps65
  go_wp2
  go_region
  go_wp2
  exact bodyPost_ret (v := .agg #[.int .u32 (x : Int), .int .u32 (y : Int)]) (by simp [results, Try.results65, go_sem]) rfl ⟨rfl, (below_one w _).drew⟩
theorem or32 (x y : Nat) (hx : x < 4294967296) (hy : y < 4294967296) : bits .or .u64 ((x : Int) * 4294967296) (y : Int) = ((x * 4294967296 + y : Nat) : Int) := by
  have h := u64_or_nat (4294967296 * x) y (by omega) (by omega)
  have e : 4294967296 * x ||| y = 4294967296 * x + y := by
    have := @Nat.two_pow_add_eq_or_of_lt 32 y hy x
    exact this.symm
  rw [e, Nat.mul_comm 4294967296 x] at h
  rw [← h]
  congr 1
set_option maxRecDepth 100000 in
set_option maxHeartbeats 1600000 in
theorem join32 (x y : Nat) (hx : x < 4294967296) (hy : y < 4294967296) (w : World) : Calls Try.prog 71 #[.agg #[.int .u32 (x : Int), .int .u32 (y : Int)], .int .i64 32] w fun e w' => e = .returned (.int .u64 ((x * 4294967296 + y : Nat) : Int)) ∧ Below w.heap.size w w' := by
  have i1 : (x : Int) ≤ 4294967295 := by omega
  have i2 : (y : Int) ≤ 4294967295 := by omega
  have u1 := or32 x y hx hy
  generalize ((x * 4294967296 + y : Nat) : Int) = R at *
  go_enter Try.func71, Try.ntmps71
  go_wp2
  go_region
  go_wp2
  go_ret
  exact ⟨rfl, (below_one w _).drew⟩
set_option maxRecDepth 100000 in
set_option maxHeartbeats 1600000 in
theorem cut28 (x y : Nat) (hx : x < 268435456) (hy : y < 268435456) (w : World) : Calls Try.prog 65 #[.int .u64 ((x * 268435456 + y : Nat) : Int), .int .i64 28] w fun e w' => e = .returned (.agg #[.int .u32 (x : Int), .int .u32 (y : Int)]) ∧ Below w.heap.size w w' := by
  have r1 : (((x * 268435456 + y : Nat) : Int)) / 268435456 = (x : Int) := by omega
  have r2 : bits .and .u64 ((x * 268435456 + y : Nat) : Int) 268435455 = (y : Int) := by
    have := and_mask (x * 268435456 + y) 268435455 28 (by omega) (by decide) (by decide)
    rw [show (x * 268435456 + y) % 2 ^ 28 = y by omega] at this
    exact this
  have r3 : IntKind.u32.wrap (x : Int) = x := by rw [IntKind.wrap_u32']; omega
  have r4 : IntKind.u32.wrap (y : Int) = y := by rw [IntKind.wrap_u32']; omega
  generalize ((x * 268435456 + y : Nat) : Int) = R at *
  go_enter Try.func65, Try.ntmps65
  go_wp2
  go_region
  go_wp2
  exact bodyPost_ret (v := .agg #[.int .u32 (x : Int), .int .u32 (y : Int)]) (by simp [results, Try.results65, go_sem]) rfl ⟨rfl, (below_one w _).drew⟩
theorem or28 (x y : Nat) (hx : x < 268435456) (hy : y < 268435456) : bits .or .u64 ((x : Int) * 268435456) (y : Int) = ((x * 268435456 + y : Nat) : Int) := by
  have h := u64_or_nat (268435456 * x) y (by omega) (by omega)
  have e : 268435456 * x ||| y = 268435456 * x + y := by
    have := @Nat.two_pow_add_eq_or_of_lt 28 y hy x
    exact this.symm
  rw [e, Nat.mul_comm 268435456 x] at h
  rw [← h]
  congr 1
set_option maxRecDepth 100000 in
set_option maxHeartbeats 1600000 in
theorem join28 (x y : Nat) (hx : x < 268435456) (hy : y < 268435456) (w : World) : Calls Try.prog 71 #[.agg #[.int .u32 (x : Int), .int .u32 (y : Int)], .int .i64 28] w fun e w' => e = .returned (.int .u64 ((x * 268435456 + y : Nat) : Int)) ∧ Below w.heap.size w w' := by
  have i1 : (x : Int) ≤ 268435455 := by omega
  have i2 : (y : Int) ≤ 268435455 := by omega
  have u1 := or28 x y hx hy
  generalize ((x * 268435456 + y : Nat) : Int) = R at *
  go_enter Try.func71, Try.ntmps71
  go_wp2
  go_region
  go_wp2
  go_ret
  exact ⟨rfl, (below_one w _).drew⟩
theorem run_half0 (a b : Value) (w : World) : (Instr.index 88 (.agg #[a, b]) (.int .i64 0)).run Try.prog w = .ok a w := by
  simp [Instr.index, asIntOf, run_underlying Try.underlying88, part]
theorem run_half1 (a b : Value) (w : World) : (Instr.index 88 (.agg #[a, b]) (.int .i64 1)).run Try.prog w = .ok b w := by
  simp [Instr.index, asIntOf, run_underlying Try.underlying88, part]
def rotN (t x : Nat) : Nat := (x * 2 ^ t) % 268435456 + x / 2 ^ (28 - t)
theorem rotN_val (l : List Bool) (t : Nat) (hl : l.length = 28) (ht : t ≤ 28) : rotN t (val l) = val (rot l t) := by
  have e : val l = val (l.take t) * 2 ^ (28 - t) + val (l.drop t) := by
    have := val_append (l.take t) (l.drop t)
    rw [List.take_append_drop, List.length_drop, hl] at this
    exact this
  have h1 := val_lt (l.drop t)
  have h2 := val_lt (l.take t)
  rw [List.length_drop, hl] at h1
  rw [List.length_take, hl, Nat.min_eq_left ht] at h2
  have p : (268435456 : Nat) = 2 ^ (28 - t) * 2 ^ t := by rw [← Nat.pow_add, show 28 - t + t = 28 by omega]
  rw [rot, val_append, List.length_take, hl, Nat.min_eq_left ht, rotN, e, p, Nat.mul_mod_mul_right]
  generalize val (l.take t) = a at *
  generalize val (l.drop t) = b at *
  have hp : 0 < 2 ^ (28 - t) := Nat.pow_pos (by decide)
  rw [Nat.mul_comm a, Nat.mul_add_mod, Nat.mod_eq_of_lt h1, Nat.mul_add_div hp, Nat.div_eq_of_lt h1]; omega
theorem rotN_lt (t x : Nat) (hx : x < 268435456) (ht : t ≤ 28) : rotN t x < 268435456 := by
  have e := rotN_val (bitsN 28 x) t (bitsN_len _ _) ht
  rw [val_bitsN 28 x hx] at e
  rw [e]
  have := val_lt (rot (bitsN 28 x) t)
  rwa [rot_len _ _ (by rw [bitsN_len]; omega), bitsN_len] at this
theorem turn1 (x : Nat) (hx : x < 268435456) : bits .and .u32 (bits .or .u32 ((x : Int) * 2) ((x : Int) / 134217728)) 268435455 = ((rotN 1 x : Nat) : Int) := by
  have h1 := u32_or_nat (x * 2) (x / 134217728) (by omega) (by omega)
  have e : x * 2 ||| x / 134217728 = x * 2 + x / 134217728 := by
    have := @Nat.two_pow_add_eq_or_of_lt 1 (x / 134217728) (by omega) x
    rw [Nat.mul_comm] at this
    exact this.symm
  rw [e] at h1
  have h2 := u32_and_nat (x * 2 + x / 134217728) 268435455 (by omega) (by decide)
  rw [show (268435455 : Nat) = 2 ^ 28 - 1 by decide, Nat.and_two_pow_sub_one_eq_mod] at h2
  have h3 : (x * 2 + x / 134217728) % 2 ^ 28 = rotN 1 x := by unfold rotN; omega
  rw [h3] at h2
  rw [← h2, ← h1]
  congr 2
set_option maxRecDepth 100000 in
set_option maxHeartbeats 1600000 in
theorem turned1 (x y : Nat) (hx : x < 268435456) (hy : y < 268435456) (w : World) : Calls Try.prog 68 #[.agg #[.int .u32 (x : Int), .int .u32 (y : Int)], .int .i64 1, .int .i64 28] w fun e w' => e = .returned (.agg #[.int .u32 (rotN 1 x : Int), .int .u32 (rotN 1 y : Int)]) ∧ Below w.heap.size w w' := by
  have i1 : (x : Int) ≤ 268435455 := by omega
  have i2 : (y : Int) ≤ 268435455 := by omega
  have u1 := turn1 x hx
  have u2 := turn1 y hy
  generalize rotN 1 x = x' at *
  generalize rotN 1 y = y' at *
  go_enter Try.func68, Try.ntmps68
  go_wp2
  have k0 := run_half0 (.int .u32 (x : Int)) (.int .u32 (y : Int))
  have k1 := run_half1 (.int .u32 (x : Int)) (.int .u32 (y : Int))
  go_loopw [7, 8, 10] (fun i v c wr => (c = .int .i64 0 ∧ wr = (w.alloc (Obj.cells #[.int .u32 (x : Int), .int .u32 (y : Int)] 88)).alloc (Obj.cells #[.int .u32 0, .int .u32 0] 88)) ∨ (c = .int .i64 1 ∧ wr = ((w.alloc (Obj.cells #[.int .u32 (x' : Int), .int .u32 (y : Int)] 88)).alloc (Obj.cells #[.int .u32 0, .int .u32 0] 88)).drew) ∨ (c = .int .i64 2 ∧ wr = ((w.alloc (Obj.cells #[.int .u32 (x' : Int), .int .u32 (y' : Int)] 88)).alloc (Obj.cells #[.int .u32 0, .int .u32 0] 88)).drew.drew)) (fun _ _ c _ => 3 - (intOf c).toNat)
  case atStart => exact .inl ⟨rfl, rfl⟩
  case round =>
    rcases hrel with ⟨rfl, rfl⟩ | ⟨rfl, rfl⟩ | ⟨rfl, rfl⟩
    · go_wp2
      go_region
      go_wp2
      exact ⟨.inr (.inl ⟨rfl, trivial⟩), by decide⟩
    · go_wp2
      go_region
      go_wp2
      exact ⟨.inr (.inr ⟨rfl, trivial⟩), by decide⟩
    · go_wp2
      exact bodyPost_ret (v := .agg #[.int .u32 (x' : Int), .int .u32 (y' : Int)]) (by simp [results, Try.results68, go_sem]) rfl ⟨rfl, (below_two w _ _).drew.drew⟩
theorem turn2 (x : Nat) (hx : x < 268435456) : bits .and .u32 (bits .or .u32 ((x : Int) * 4) ((x : Int) / 67108864)) 268435455 = ((rotN 2 x : Nat) : Int) := by
  have h1 := u32_or_nat (x * 4) (x / 67108864) (by omega) (by omega)
  have e : x * 4 ||| x / 67108864 = x * 4 + x / 67108864 := by
    have := @Nat.two_pow_add_eq_or_of_lt 2 (x / 67108864) (by omega) x
    rw [Nat.mul_comm] at this
    exact this.symm
  rw [e] at h1
  have h2 := u32_and_nat (x * 4 + x / 67108864) 268435455 (by omega) (by decide)
  rw [show (268435455 : Nat) = 2 ^ 28 - 1 by decide, Nat.and_two_pow_sub_one_eq_mod] at h2
  have h3 : (x * 4 + x / 67108864) % 2 ^ 28 = rotN 2 x := by unfold rotN; omega
  rw [h3] at h2
  rw [← h2, ← h1]
  congr 2
set_option maxRecDepth 100000 in
set_option maxHeartbeats 1600000 in
theorem turned2 (x y : Nat) (hx : x < 268435456) (hy : y < 268435456) (w : World) : Calls Try.prog 68 #[.agg #[.int .u32 (x : Int), .int .u32 (y : Int)], .int .i64 2, .int .i64 28] w fun e w' => e = .returned (.agg #[.int .u32 (rotN 2 x : Int), .int .u32 (rotN 2 y : Int)]) ∧ Below w.heap.size w w' := by
  have i1 : (x : Int) ≤ 268435455 := by omega
  have i2 : (y : Int) ≤ 268435455 := by omega
  have u1 := turn2 x hx
  have u2 := turn2 y hy
  generalize rotN 2 x = x' at *
  generalize rotN 2 y = y' at *
  go_enter Try.func68, Try.ntmps68
  go_wp2
  have k0 := run_half0 (.int .u32 (x : Int)) (.int .u32 (y : Int))
  have k1 := run_half1 (.int .u32 (x : Int)) (.int .u32 (y : Int))
  go_loopw [7, 8, 10] (fun i v c wr => (c = .int .i64 0 ∧ wr = (w.alloc (Obj.cells #[.int .u32 (x : Int), .int .u32 (y : Int)] 88)).alloc (Obj.cells #[.int .u32 0, .int .u32 0] 88)) ∨ (c = .int .i64 1 ∧ wr = ((w.alloc (Obj.cells #[.int .u32 (x' : Int), .int .u32 (y : Int)] 88)).alloc (Obj.cells #[.int .u32 0, .int .u32 0] 88)).drew) ∨ (c = .int .i64 2 ∧ wr = ((w.alloc (Obj.cells #[.int .u32 (x' : Int), .int .u32 (y' : Int)] 88)).alloc (Obj.cells #[.int .u32 0, .int .u32 0] 88)).drew.drew)) (fun _ _ c _ => 3 - (intOf c).toNat)
  case atStart => exact .inl ⟨rfl, rfl⟩
  case round =>
    rcases hrel with ⟨rfl, rfl⟩ | ⟨rfl, rfl⟩ | ⟨rfl, rfl⟩
    · go_wp2
      go_region
      go_wp2
      exact ⟨.inr (.inl ⟨rfl, trivial⟩), by decide⟩
    · go_wp2
      go_region
      go_wp2
      exact ⟨.inr (.inr ⟨rfl, trivial⟩), by decide⟩
    · go_wp2
      exact bodyPost_ret (v := .agg #[.int .u32 (x' : Int), .int .u32 (y' : Int)]) (by simp [results, Try.results68, go_sem]) rfl ⟨rfl, (below_two w _ _).drew.drew⟩
theorem places_any (n : Nat) (w : World) : Calls Try.prog 69 #[.int .i64 (n : Int)] w fun e w' => e = .returned (.int .i64 (turns n : Int)) ∧ w' = w := by
  by_cases h : n = 1 ∨ n = 2 ∨ n = 9 ∨ n = 16
  · rw [turns, if_pos h]
    rcases h with rfl | rfl | rfl | rfl
    all_goals
      go_enter Try.func69, Try.ntmps69
      go_wp2
      go_ret
      exact ⟨rfl, rfl⟩
  · rw [turns, if_neg h]
    have q1 : ((n : Int) == 1) = false := beq_eq_false_iff_ne.mpr (by omega)
    have q2 : ((n : Int) == 2) = false := beq_eq_false_iff_ne.mpr (by omega)
    have q3 : ((n : Int) == 9) = false := beq_eq_false_iff_ne.mpr (by omega)
    have q4 : ((n : Int) == 16) = false := beq_eq_false_iff_ne.mpr (by omega)
    clear h
    go_enter Try.func69, Try.ntmps69
    go_wp2
    go_ret
    exact ⟨rfl, rfl⟩
end Go.Proofs.Ytciblmdpngnakaa.Wd
