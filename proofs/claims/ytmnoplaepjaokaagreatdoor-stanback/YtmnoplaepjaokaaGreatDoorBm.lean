/- The program's maps: what the small functions answer. -/
import Derived.Test.YtmnoplaepjaokaaGreatDoorPla
import Derived.WalkLawsBesides
import Derived.WalkSpells
import Derived.Laws.ResultCell
import Derived.Below
import Derived.Deep.RegionHeld3
import Derived.WalkSmall
namespace Go.Proofs.YtmnoplaepjaokaaGreatDoor.Bm
set_option linter.unusedVariables false
open Go.RowKit Pla
theorem andNot_hi (F : Nat) (h : F < 18446744073709551616) : bits .andNot .u64 (F : Int) 9223372036854775808 = (fld F : Int) := by
  have := u64_andNot_nat F 9223372036854775808 h (by decide)
  exact this
theorem below_one (w : World) (a : Obj) : Below w.heap.size w (w.alloc a) := (Below.refl _ w).alloc (Nat.le_refl _) _
theorem below_two (w : World) (a b : Obj) : Below w.heap.size w ((w.alloc a).alloc b) := ((Below.refl _ w).alloc (Nat.le_refl _) _).alloc (by simp) _
theorem below_three (w : World) (a b c : Obj) : Below w.heap.size w (((w.alloc a).alloc b).alloc c) := (below_two w a b).alloc (by simp; omega) _
theorem keepB {a y x : World} (h : Below a.heap.size a y) (k : Below y.heap.size y x) : Below a.heap.size a x := h.trans (k.mono h.size)
theorem keepC {a x : World} {p : Addr} {v : Value} (h : Below a.heap.size a x) (k : a.cell? p = some v) (hp : p.block < a.heap.size) : x.cell? p = some v := (h.cell hp).trans k
theorem held2 {a x : World} {b : Nat} {u v : Value} {t : TypeId} (h : Below a.heap.size a x) (hb : a.heap[b]? = some (Obj.cells #[u, v] t)) :
    x.cell? ⟨b, 0, none⟩ = some u ∧ x.cell? ⟨b, 1, none⟩ = some v ∧ x.frozen? ⟨b, 0, none⟩ = false ∧ x.frozen? ⟨b, 1, none⟩ = false := by
  have hx : x.heap[b]? = some (Obj.cells #[u, v] t) := (h.block b (Array.getElem?_eq_some_iff.1 hb).1).trans hb
  refine ⟨?_, ?_, ?_, ?_⟩ <;> simp [World.cell?, World.frozen?, hx]
theorem kept {a x : World} {b : Nat} {o : Obj} (h : Below a.heap.size a x) (hb : a.heap[b]? = some o) : x.heap[b]? = some o := (h.block b (Array.getElem?_eq_some_iff.1 hb).1).trans hb
theorem held2a {a x : World} {b : Nat} {u v : Value} {t : TypeId} (h : Below a.heap.size a x) (hb : a.heap[b]? = some (Obj.cells #[u, v] t)) (o : Obj) :
    (x.alloc o).cell? ⟨b, 0, none⟩ = some u ∧ (x.alloc o).cell? ⟨b, 1, none⟩ = some v ∧ (x.alloc o).frozen? ⟨b, 0, none⟩ = false ∧ (x.alloc o).frozen? ⟨b, 1, none⟩ = false :=
  held2 (h.alloc h.size o) hb
theorem h1_0 (w : World) (a : Obj) : (w.alloc a).heap[w.heap.size]? = some a := by
  show (w.heap.push a)[w.heap.size]? = some a
  simp
theorem h2_0 (w : World) (a b : Obj) : ((w.alloc a).alloc b).heap[w.heap.size]? = some a := (Below.heap_alloc _ b _ (by simp)).trans (h1_0 w a)
theorem h2_1 (w : World) (a b : Obj) : ((w.alloc a).alloc b).heap[w.heap.size + 1]? = some b := by
  have := h1_0 (w.alloc a) b
  rwa [World.size_alloc] at this
theorem h3_0 (w : World) (a b c : Obj) : (((w.alloc a).alloc b).alloc c).heap[w.heap.size]? = some a := (Below.heap_alloc _ c _ (by simp; omega)).trans (h2_0 w a b)
theorem h3_1 (w : World) (a b c : Obj) : (((w.alloc a).alloc b).alloc c).heap[w.heap.size + 1]? = some b := (Below.heap_alloc _ c _ (by simp)).trans (h2_1 w a b)
theorem h3_2 (w : World) (a b c : Obj) : (((w.alloc a).alloc b).alloc c).heap[w.heap.size + 1 + 1]? = some c := by
  have := h1_0 ((w.alloc a).alloc b) c
  rwa [World.size_alloc, World.size_alloc] at this
theorem isField_any (n : Int) (w : World) : Calls Tryz.prog 166 #[.int .i64 n] w fun e w' => e = .returned (.bool (field n)) ∧ w' = w := by
  go_enter Tryz.func166, Tryz.ntmps166
  go_wp2
  all_goals
    go_ret
    refine ⟨?_, rfl⟩
    congr 2
    simp [field, bne, *]
    try omega
set_option maxHeartbeats 1600000 in
theorem or_any (F S F' S' : Nat) (hF : F < 18446744073709551616) (hS : S < 18446744073709551616) (hF' : F' < 18446744073709551616) (hS' : S' < 18446744073709551616) (w : World) :
    Calls Tryz.prog 167 #[.agg #[.int .u64 (F : Int), .int .u64 (S : Int)], .agg #[.int .u64 (F' : Int), .int .u64 (S' : Int)]] w fun e w' => e = .returned (.agg #[.int .u64 ((F ||| F' : Nat) : Int), .int .u64 ((S ||| S' : Nat) : Int)]) ∧ Below w.heap.size w w' := by
  have e1 := u64_or_nat F F' hF hF'
  have e2 := u64_or_nat S S' hS hS'
  go_enter Tryz.func167, Tryz.ntmps167
  go_wp2
  exact bodyPost_ret (v := .agg #[.int .u64 ((F ||| F' : Nat) : Int), .int .u64 ((S ||| S' : Nat) : Int)]) (by simp [results, Tryz.results167, go_sem]) rfl ⟨rfl, below_three w _ _ _⟩
theorem shr_hi (n : Nat) (h : n ≤ 63) : (9223372036854775808 : Int) / 2 ^ n = ((2 ^ (63 - n) : Nat) : Int) := by
  have e : (9223372036854775808 : Nat) = 2 ^ (63 - n) * 2 ^ n := by rw [← Nat.pow_add, show 63 - n + n = 63 by omega]
  have : (9223372036854775808 : Nat) / 2 ^ n = 2 ^ (63 - n) := by rw [e, Nat.mul_div_cancel _ (Nat.pow_pos (by decide))]
  rw [← this]; simp only [Int.natCast_ediv, Int.natCast_pow]
  rfl
set_option maxHeartbeats 1600000 in
theorem only_any (n : Int) (h1 : -9223372036854775808 ≤ n) (h2 : n ≤ 9223372036854775807) (w : World) :
    Calls Tryz.prog 168 #[.int .i64 n] w fun e w' => e = .returned (.agg #[.int .u64 (onlyF n : Int), .int .u64 (onlyS n : Int)]) ∧ Below w.heap.size w w' := by
  cases hf : field n
  · go_enter Tryz.func168, Tryz.ntmps168
    go_wp2_with (go_at_call 166; refine (isField_any _ _).mono ?_; rintro e x ⟨rfl, rfl⟩; rw [hf])
    have e1 : onlyF n = 0 := by simp only [field, Bool.and_eq_false_iff, decide_eq_false_iff_not, Bool.not_eq_false', beq_iff_eq] at hf; unfold onlyF; rw [if_neg (by omega)]
    have e2 : onlyS n = 0 := by simp only [field, Bool.and_eq_false_iff, decide_eq_false_iff_not, Bool.not_eq_false', beq_iff_eq] at hf; unfold onlyS; rw [if_neg (by omega)]
    exact bodyPost_ret (v := .agg #[.int .u64 0, .int .u64 0]) (by simp [results, Tryz.results168, go_sem]) rfl ⟨by rw [e1, e2]; rfl, below_one w _⟩
  · have hf' := hf
    simp only [field, Bool.and_eq_true, decide_eq_true_eq, Bool.not_eq_true', beq_eq_false_iff_ne] at hf'
    obtain ⟨⟨b1, b2⟩, b3⟩ := hf'
    by_cases h64 : n ≤ 64
    · have q := shr_hi (n - 1).toNat (by omega)
      have e1 : onlyF n = 2 ^ (63 - (n - 1).toNat) := by unfold onlyF; rw [if_pos (by omega)]; congr 1; omega
      have e2 : onlyS n = 0 := by unfold onlyS; rw [if_neg (by omega)]
      go_enter Tryz.func168, Tryz.ntmps168
      go_wp2_with (go_at_call 166; refine (isField_any _ _).mono ?_; rintro e x ⟨rfl, rfl⟩; rw [hf])
      have q' : (9223372036854775808 : Int) / 2 ^ (n.toNat - 1) = ((2 ^ (63 - (n - 1).toNat) : Nat) : Int) := by rw [← q]; congr 2; omega
      rw [q']
      exact bodyPost_ret (v := .agg #[.int .u64 ((2 ^ (63 - (n - 1).toNat) : Nat) : Int), .int .u64 0]) (by simp [results, Tryz.results168, go_sem]) rfl ⟨by rw [e1, e2]; rfl, below_one w _⟩
    · have q := shr_hi (n - 64 - 1).toNat (by omega)
      have e1 : onlyF n = 0 := by unfold onlyF; rw [if_neg (by omega)]
      have e2 : onlyS n = 2 ^ (63 - (n - 64 - 1).toNat) := by unfold onlyS; rw [if_pos (by omega)]; congr 1; omega
      go_enter Tryz.func168, Tryz.ntmps168
      go_wp2_with (go_at_call 166; refine (isField_any _ _).mono ?_; rintro e x ⟨rfl, rfl⟩; rw [hf])
      have q' : (9223372036854775808 : Int) / 2 ^ ((n - 64).toNat - 1) = ((2 ^ (63 - (n - 64 - 1).toNat) : Nat) : Int) := by rw [← q]; congr 2; omega
      rw [q']
      exact bodyPost_ret (v := .agg #[.int .u64 0, .int .u64 ((2 ^ (63 - (n - 64 - 1).toNat) : Nat) : Int)]) (by simp [results, Tryz.results168, go_sem]) rfl ⟨by rw [e1, e2]; rfl, below_one w _⟩
end Go.Proofs.YtmnoplaepjaokaaGreatDoor.Bm
