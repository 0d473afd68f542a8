/- filled, Pad. -/
import Derived.Test.YtpifebapodfeaabFp
import Derived.Test.YtpifebapodfeaabSm
import Derived.Deep.OwnRows
import Derived.Lib.BufferWrite
import Derived.Lib.SlBuf
namespace Go.Proofs.Ytpifebapodfeaab.Pd
set_option linter.unusedVariables false
open Go.RowKit Cb Fp Sm
def R (l : List UInt8) : Array Value := (Lib.byteCells l).toArray
theorem R_size (l : List UInt8) : (R l).size = l.length := by simp [R, Lib.byteCells]
theorem R_made (n : Nat) : madeCells #[.int .u8 0] n = R (List.replicate n 0) := by
  apply Array.ext_getElem?
  intro i
  by_cases hi : i < n
  · simp [madeCells, R, Lib.byteCells, hi, Nat.mod_one]
  · rw [Array.getElem?_eq_none (by simp [madeCells]; omega), Array.getElem?_eq_none (by rw [R_size]; simp; omega)]
theorem R_copy (s : ByteArray) (k : Nat) : ((R (List.replicate (s.size + k) 0)).toList.take 0 ++ Lib.byteCells s.data.toList ++ (R (List.replicate (s.size + k) 0)).toList.drop (0 + s.size)).toArray = R (s.data.toList ++ List.replicate k 0) := by
  simp [R, Lib.byteCells]
theorem R_at (l r : List UInt8) (x : UInt8) : (R (l ++ x :: r))[l.length]? = some (.int .u8 (x.toNat : Int)) := by simp [R, Lib.byteCells]
theorem R_set (l : List UInt8) (k : Nat) : (R (l ++ List.replicate (k + 1) 0)).setIfInBounds l.length (.int .u8 128) = R (l ++ 128 :: List.replicate k 0) := by
  simp [R, Lib.byteCells, List.replicate_succ]
theorem R_str {P : Program} {w : World} {src dst e : TypeId} {g : Nat} {l : List UInt8} {t : TypeId} {fr : Nat × Nat} (hs : P.underlying src = some (.slice e)) (he : P.underlying e = some (.int .u8)) (hd : P.underlying dst = some .string)
    (hg : w.heap[g]? = some (.cells (R l) t fr)) (C : Nat) : (convert src dst (.slice (some ⟨g, 0, none⟩) l.length C)).run P w = .ok (.string ⟨l.toArray⟩) w :=
  run_convert_bytes_back (P := P) w src dst e ⟨g, 0, none⟩ C l hs he hd (fun j hj => by
    rw [show (⟨g, 0, none⟩ : Addr).add j = ⟨g, j, none⟩ by unfold Addr.add; split <;> simp_all, cell_of_row w g j _ t fr hg]
    simp [R, Lib.byteCells, hj])
theorem info : (Try.prog.info? 5).map (fun i => (i.zero, i.size, i.bytes)) = some (some (.int .u8 0), 1, 1) := by kernel_rfl
theorem info1 : (Try.prog.info? 5).map (·.size) = some 1 := by kernel_rfl
theorem R_frozen {w : World} {g : Nat} {A : Array Value} {t : TypeId} (h : w.heap[g]? = some (.cells A t (0, 0))) (j : Nat) : w.frozen? ⟨g, j, none⟩ = false := by simp [World.frozen?, h]
set_option maxRecDepth 100000 in
set_option maxHeartbeats 1600000 in
theorem filled_two (s : ByteArray) (hs : s.size ≤ 140737488400000) (w : World) :
    Calls Try.prog 41 #[.int .i64 2, .string s] w fun e w' => e = .returned (.string (fillB 2 s)) ∧ Below w.heap.size w w' := by
  obtain ⟨i0, hi, hz0, hz1, hz2⟩ := info_parts info
  obtain ⟨k, hk⟩ : ∃ k, 8 * nb (s.size + 1) = s.size + (k + 1) := ⟨8 * nb (s.size + 1) - s.size - 1, by have := nb_ge (s.size + 1); omega⟩
  have hk2 : k ≤ 8 := by have := nb_le (s.size + 1); omega
  have e1 : Hid (((s.size : Int) + 1 + 8 - 1) / 8 * 8 = ((s.size + (k + 1) : Nat) : Int)) := (by unfold nb at hk; omega : ((s.size : Int) + 1 + 8 - 1) / 8 * 8 = ((s.size + (k + 1) : Nat) : Int))
  have eF' : fillB 2 s = (⟨(s.data.toList ++ 128 :: List.replicate k 0).toArray⟩ : ByteArray) := by rw [fillB, fill2, len_size, hk, show s.size + (k + 1) - (s.size + 1) = k by omega]
  have eF : Hid (fillB 2 s = (⟨(s.data.toList ++ 128 :: List.replicate k 0).toArray⟩ : ByteArray)) := eF'
  clear eF'
  clear hk
  go_enter Try.func41, Try.ntmps41
  go_wp2_with (at_make; refine wpList_make_row _ rfl _ _ 32 rfl 5 i0 _ Try.underlying32 hi hz0 hz1 rfl _ _ (s.size + (k + 1)) (congrArg (Value.int .i64) e1.out) (congrArg (Value.int .i64) e1.out) (by rw [hz2]; omega) (by omega) ?_)
  rw [R_made]
  have h1 := h1_0 w (Obj.cells (R (List.replicate (s.size + (k + 1)) 0)) 5)
  have b1 := below_one w (Obj.cells (R (List.replicate (s.size + (k + 1)) 0)) 5)
  generalize w.alloc (Obj.cells (R (List.replicate (s.size + (k + 1)) 0)) 5) = W1 at *
  have hr := fun ty => Lib.run_copy_row_string (P := Try.prog) W1 32 9 ty 5 w.heap.size 0 (s.size + (k + 1)) (s.size + (k + 1)) s _ 5 Try.underlying32 info1 h1 (by omega) (by rw [R_size]; simp)
  rw [R_copy] at hr
  have h2 := setRow_at h1 (R (s.data.toList ++ List.replicate (k + 1) 0))
  have b2 := below_setRow b1 (Nat.le_refl _) (R (s.data.toList ++ List.replicate (k + 1) 0))
  generalize W1.setRow w.heap.size (R (s.data.toList ++ List.replicate (k + 1) 0)) = W2 at *
  have c0 : W2.cell? ⟨w.heap.size, s.size, none⟩ = some (.int .u8 0) := by
    have e := R_at s.data.toList (List.replicate k 0) 0
    rw [len_size] at e
    rw [cell_of_row W2 _ _ _ _ _ h2, List.replicate_succ, e]
    rfl
  have f0 := R_frozen h2 s.size
  have q0 : (0 : Int) ≤ (s.size : Int) := by omega
  have q1 : (s.size : Int) < ((s.size + (k + 1) : Nat) : Int) := by omega
  have h3 := setCell_heap h2 s.size (.int .u8 128)
  have b3 := below_setCell b2 (Nat.le_refl w.heap.size) s.size (.int .u8 128)
  rw [show (R (s.data.toList ++ List.replicate (k + 1) 0)).setIfInBounds s.size (.int .u8 128) = R (s.data.toList ++ 128 :: List.replicate k 0) by rw [← R_set, len_size]] at h3
  have cv := R_str (P := Try.prog) (src := 32) (dst := 9) (e := 5) Try.underlying32 Try.underlying5 Try.underlying9 h3 (s.size + (k + 1))
  rw [show (s.data.toList ++ (128 : UInt8) :: List.replicate k 0).length = s.size + (k + 1) by simp, ← eF.out] at cv
  rw [hr]
  go_wp2
  go_ret
  exact ⟨rfl, b3⟩
set_option maxRecDepth 100000 in
set_option maxHeartbeats 1600000 in
theorem filled_one (s : ByteArray) (hs : s.size ≤ 140737488400000) (w : World) :
    Calls Try.prog 41 #[.int .i64 1, .string s] w fun e w' => e = .returned (.string (fillB 1 s)) ∧ Below w.heap.size w w' := by
  obtain ⟨i0, hi, hz0, hz1, hz2⟩ := info_parts info
  obtain ⟨k, hk⟩ : ∃ k, 8 * nb s.size = s.size + k := ⟨8 * nb s.size - s.size, by have := nb_ge s.size; omega⟩
  have hk2 : k ≤ 8 := by have := nb_le s.size; omega
  have e1 : Hid ((max (s.size : Int) 1 + 8 - 1) / 8 * 8 = ((s.size + k : Nat) : Int)) := (by unfold nb at hk; omega : (max (s.size : Int) 1 + 8 - 1) / 8 * 8 = ((s.size + k : Nat) : Int))
  have eF' : fillB 1 s = (⟨(s.data.toList ++ List.replicate k 0).toArray⟩ : ByteArray) := by rw [fillB, fillL, if_neg (by decide), padL, len_size, hk, show s.size + k - s.size = k by omega]
  have eF : Hid (fillB 1 s = (⟨(s.data.toList ++ List.replicate k 0).toArray⟩ : ByteArray)) := eF'
  clear eF'
  have m1 : max (s.size : Int) 1 ≤ 140737488400001 := by omega
  have m2 : 1 ≤ max (s.size : Int) 1 := by omega
  clear hk
  go_enter Try.func41, Try.ntmps41
  go_wp2_with (at_make; refine wpList_make_row _ rfl _ _ 32 rfl 5 i0 _ Try.underlying32 hi hz0 hz1 rfl _ _ (s.size + k) (congrArg (Value.int .i64) e1.out) (congrArg (Value.int .i64) e1.out) (by rw [hz2]; omega) (by omega) ?_)
  rw [R_made]
  have h1 := h1_0 w (Obj.cells (R (List.replicate (s.size + k) 0)) 5)
  have b1 := below_one w (Obj.cells (R (List.replicate (s.size + k) 0)) 5)
  generalize w.alloc (Obj.cells (R (List.replicate (s.size + k) 0)) 5) = W1 at *
  have hr := fun ty => Lib.run_copy_row_string (P := Try.prog) W1 32 9 ty 5 w.heap.size 0 (s.size + k) (s.size + k) s _ 5 Try.underlying32 info1 h1 (by omega) (by rw [R_size]; simp)
  rw [R_copy] at hr
  have h2 := setRow_at h1 (R (s.data.toList ++ List.replicate k 0))
  have b2 := below_setRow b1 (Nat.le_refl _) (R (s.data.toList ++ List.replicate k 0))
  generalize W1.setRow w.heap.size (R (s.data.toList ++ List.replicate k 0)) = W2 at *
  have cv := R_str (P := Try.prog) (src := 32) (dst := 9) (e := 5) Try.underlying32 Try.underlying5 Try.underlying9 h2 (s.size + k)
  rw [show (s.data.toList ++ List.replicate k (0 : UInt8)).length = s.size + k by simp, ← eF.out] at cv
  rw [hr]
  go_wp2
  go_ret
  exact ⟨rfl, b2⟩
end Go.Proofs.Ytpifebapodfeaab.Pd
