/- A half, read: readBytes, readHalf. -/
import Derived.Test.YtkleoklcaalogaaRs
import Derived.Lib.LazyBuf
namespace Go.Proofs.Ytkleoklcaalogaa.Rb
set_option linter.unusedVariables false
open Go.RowKit Pla Bm Br Bv Bw Bx Hf Wr Wt Rd Rs
def bv (s : ByteArray) : Nat → Nat := fun k => (s.data[k]!).toNat
theorem one8 : (Try.prog.info? 5).map (·.size) = some 1 := by kernel_rfl
theorem sz8 (w : World) : (Go.sizeOf 5).run Try.prog w = .ok 1 w := by
  have h := one8
  cases hi : Try.prog.info? 5 with
  | none => rw [hi] at h; cases h
  | some i => rw [hi] at h; simp at h; simp [Go.sizeOf, Go.typeInfo, hi, h]
/-- readBytes' answer -/
def rbV (s : ByteArray) : (Nat → Nat) × Int × Nat := if s.size < 8 then (fun _ => 0, 10, s.size) else (bv s, 0, 0)
theorem setCells_row {g : Nat} {t : TypeId} {n : Nat} : ∀ (L : List UInt8) (o : Nat) (u : Nat → Nat) (w : World), o + L.length ≤ n → w.heap[g]? = some (.cells (byC n u) t (0, 0)) →
    (w.setCells g o (L.map fun x => Value.int .u8 (x.toNat : Int))).heap[g]? = some (.cells (byC n (fun k => if o ≤ k ∧ k < o + L.length then (L[k - o]!).toNat else u k)) t (0, 0))
  | [], o, u, w, _, h => by
    rw [List.map_nil, World.setCells, h]
    congr 2
    exact byC_ext fun k _ => by rw [if_neg (by simp)]
  | a :: L, o, u, w, hl, h => by
    rw [List.map_cons, World.setCells]
    have h1 : (w.setCell ⟨g, o, none⟩ (.int .u8 (a.toNat : Int))).heap[g]? = some (.cells (byC n (updN u o a.toNat)) t (0, 0)) := by
      rw [heap_setCell_same w g _ _ t _ h, byC_set _ _ _ _ (by simp at hl; omega)]
    rw [setCells_row L (o + 1) _ _ (by simp at hl; omega) h1]
    congr 2
    refine byC_ext fun k hk => ?_
    simp only [updN, List.length_cons]
    by_cases e : k = o
    · subst e
      rw [if_neg (by omega), if_pos rfl, if_pos (by omega), Nat.sub_self]; rfl
    · by_cases e2 : o + 1 ≤ k ∧ k < o + 1 + L.length
      · rw [if_pos e2, if_pos (by omega), show k - o = (k - (o + 1)) + 1 by omega]; rfl
      · rw [if_neg e2, if_neg e, if_neg (by omega)]
theorem setCells_other {g k : Nat} (hne : k ≠ g) : ∀ (vs : List Value) (o : Nat) (w : World), (w.setCells g o vs).heap[k]? = w.heap[k]?
  | [], _, _ => rfl
  | v :: r, o, w => by rw [World.setCells, setCells_other hne r]; exact setCell_ne _ hne
theorem run_copy_str {P : Program} (w : World) (dT sT ty elem : TypeId) (b dLen dCap : Nat) (t : ByteArray)
    (hu : P.underlying dT = some (.slice elem)) (hz : ∀ w, (Go.sizeOf elem).run P w = .ok 1 w)
    (hc : ∀ j, j < dLen → (w.cell? ⟨b, 0 + j, none⟩).isSome = true) (hf : ∀ j, j < dLen → w.frozen? ⟨b, 0 + j, none⟩ = false) :
    (Builtin.copy_ #[dT, sT] ty #[.slice (some ⟨b, 0, none⟩) dLen dCap, .string t]).run P w = .ok (goInt (Nat.min t.size dLen)) (w.setCells b 0 ((t.data.toList.take (Nat.min t.size dLen)).map fun x => Value.int .u8 (x.toNat : Int))) := by
  have hl : ((t.data.toList.take (Nat.min t.size dLen)).map fun x => Value.int .u8 (x.toNat : Int)).length ≤ dLen := by
    rw [List.length_map, List.length_take]; exact Nat.le_trans (Nat.min_le_left _ _) (Nat.min_le_right _ _)
  have hst := run_storeCells_cells (P := P) b 0 ((t.data.toList.take (Nat.min t.size dLen)).map fun x => Value.int .u8 (x.toNat : Int)) 0 w (fun j hj => by simpa using hc j (by omega)) (fun j hj => by simpa using hf j (by omega)) (by
    intro v hv
    obtain ⟨x, _, rfl⟩ := List.mem_map.1 hv
    rfl)
  simp [Builtin.copy_, run_underlying hu, Builtin.lenOf, Builtin.firstCells, hz]
  rw [← List.map_take, hst]
  rfl
set_option maxRecDepth 100000 in
set_option maxHeartbeats 800000 in
theorem readBytes_any (s : ByteArray) (hs : s.size ≤ maxLen) (w : World) :
    Calls Try.prog 40 #[.string s] w fun e w' => e = .returned (.tuple #[.agg (byC 8 (rbV s).1), .int .i64 (rbV s).2.1, .int .i64 ((rbV s).2.2 : Int)]) ∧ Below w.heap.size w w' := by
  have hz := (zero_of_info z8).1
  unfold maxLen at hs
  have G1 := h2_1 w (Obj.cells (byC 8 fun _ => 0) 59) (Obj.cells (byC 8 fun _ => 0) 59)
  have G0 := h2_0 w (Obj.cells (byC 8 fun _ => 0) 59) (Obj.cells (byC 8 fun _ => 0) 59)
  have b0 := below_two w (Obj.cells (byC 8 fun _ => 0) 59) (Obj.cells (byC 8 fun _ => 0) 59)
  have cp := run_copy_str (P := Try.prog) _ 66 9 3 5 (w.heap.size + 1) 8 8 s Try.underlying66 sz8 (fun j hj => by rw [Nat.zero_add, cell_of_row _ _ _ _ _ _ G1, byC_get _ _ _ hj]; rfl) (fun j hj => by rw [Nat.zero_add]; exact frozen_of_row _ _ _ _ _ G1)
  have B1 := below_setCells (b := w.heap.size + 1) (show w.heap.size ≤ w.heap.size + 1 by omega) ((s.data.toList.take (Nat.min s.size 8)).map fun x => Value.int .u8 (x.toNat : Int)) 0 _ b0
  have R0 := (setCells_other (g := w.heap.size + 1) (show w.heap.size ≠ w.heap.size + 1 by omega) ((s.data.toList.take (Nat.min s.size 8)).map fun x => Value.int .u8 (x.toNat : Int)) 0 _).trans G0
  by_cases h8 : s.size < 8
  · have e : Nat.min s.size 8 = s.size := Nat.min_eq_left (by omega)
    have HR : Hid (rbV s = (fun _ => 0, 10, s.size)) := by show _ = _; rw [rbV, if_pos h8]
    rw [e] at cp B1 R0
    generalize ((w.alloc (Obj.cells (byC 8 fun _ => 0) 59)).alloc (Obj.cells (byC 8 fun _ => 0) 59)).setCells (w.heap.size + 1) 0 ((s.data.toList.take s.size).map fun x => Value.int .u8 (x.toNat : Int)) = W1 at *
    have q : (s.size : Int) < 8 := by omega
    have R : Hid _ := R0
    clear G1 G0 b0 e R0 h8
    go_enter Try.func40, Try.ntmps40
    go_wp2_with (first
      | (refine wpList_z8 rfl rfl ?_)
      | (refine wpList_store_row rfl 59 _ _ rfl w.heap.size (byC 8 fun _ => 0) rfl rfl _ _ R.out (Hf.h8 _) rfl (byC_one _ _) ?_))
    exact bodyPost_ret (v := .tuple #[.agg (byC 8 fun _ => 0), .int .i64 10, .int .i64 (s.size : Int)]) (res_row_tmp2 (fn := Try.f40) (p := 2) (u := 3) (u2 := 4) rfl _ _ w.heap.size _ _ _ _ rfl (setRow_at R.out _) Try.underlying59 rfl (Hf.h8 _)) rfl ⟨by rw [HR.out], below_setRow B1 (Nat.le_refl _) _⟩
  · have e : Nat.min s.size 8 = 8 := Nat.min_eq_right (by omega)
    have HR : Hid (rbV s = (bv s, 0, 0)) := by show _ = _; rw [rbV, if_neg h8]
    rw [e] at cp B1 R0
    have hlen : (s.data.toList.take 8).length = 8 := by rw [List.length_take, Array.length_toList]; exact Nat.min_eq_left (by have : s.data.size = s.size := rfl; omega)
    have R1 := setCells_row (n := 8) (s.data.toList.take 8) 0 (fun _ => 0) _ (by omega) G1
    rw [show byC 8 (fun k => if 0 ≤ k ∧ k < 0 + (s.data.toList.take 8).length then ((s.data.toList.take 8)[k - 0]!).toNat else 0) = byC 8 (bv s) from byC_ext fun k hk => by
      rw [if_pos (by omega), bv, Nat.sub_zero]
      have hks : k < s.data.size := by have : s.data.size = s.size := rfl; omega
      rw [getElem!_pos (s.data.toList.take 8) k (by omega), getElem!_pos s.data k hks]
      simp] at R1
    generalize ((w.alloc (Obj.cells (byC 8 fun _ => 0) 59)).alloc (Obj.cells (byC 8 fun _ => 0) 59)).setCells (w.heap.size + 1) 0 ((s.data.toList.take 8).map fun x => Value.int .u8 (x.toNat : Int)) = W1 at *
    have R : Hid (W1.heap[w.heap.size]? = some (Obj.cells (byC 8 fun _ => 0) 59)) := R0
    have RR : Hid (W1.heap[w.heap.size + 1]? = some (Obj.cells (byC 8 (bv s)) 59)) := R1
    clear G1 G0 b0 e R0 h8 R1 hlen
    go_enter Try.func40, Try.ntmps40
    go_wp2_with (first
      | (refine wpList_load_row rfl 59 _ rfl (w.heap.size + 1) rfl _ _ _ _ RR.out Try.underlying59 rfl (Hf.h8 _) ?_)
      | (refine wpList_store_row rfl 59 _ _ rfl w.heap.size (byC 8 (bv s)) rfl rfl _ _ R.out (Hf.h8 _) (by rw [byC_size, byC_size]) (byC_one _ _) ?_))
    exact bodyPost_ret (v := .tuple #[.agg (byC 8 (bv s)), .int .i64 0, .int .i64 0]) (res_row_tmp2 (fn := Try.f40) (p := 2) (u := 3) (u2 := 4) rfl _ _ w.heap.size _ _ _ _ rfl (setRow_at R.out _) Try.underlying59 rfl (Hf.h8 _)) rfl ⟨by rw [HR.out]; rfl, below_setRow B1 (Nat.le_refl _) _⟩
/-- readHalf's answer -/
def rhV (enc : Int) (s : ByteArray) : (Nat → Nat) × Int × Nat := if enc = 5 then rbV s else rsV enc s
set_option maxRecDepth 100000 in
set_option maxHeartbeats 800000 in
theorem readHalf_any (enc : Int) (s : ByteArray) (hs : s.size ≤ maxLen) (w : World) :
    Calls Try.prog 36 #[.int .i64 enc, .string s] w fun e w' => e = .returned (.tuple #[.agg (byC 8 (rhV enc s).1), .int .i64 (rhV enc s).2.1, .int .i64 ((rhV enc s).2.2 : Int)]) ∧ Below w.heap.size w w' := by
  have hz := (zero_of_info z8).1
  by_cases h5 : enc = 5
  · subst h5
    rw [rhV, if_pos rfl]
    have p1 := fun w => readBytes_any s hs w
    generalize rbV s = r at *
    go_enter Try.func36, Try.ntmps36
    go_wp2_with (first
      | (go_at_call 40; refine (p1 _).mono ?_; rintro e x ⟨rfl, hb⟩; have g0 := kept hb (h1_0 w _))
      | (refine wpList_store_row rfl 59 _ _ rfl w.heap.size (byC 8 r.fst) rfl rfl _ _ g0 (Hf.h8 _) (by rw [byC_size, byC_size]) (byC_one _ _) ?_))
    exact bodyPost_ret (v := .tuple #[.agg (byC 8 r.fst), .int .i64 r.snd.fst, .int .i64 (r.snd.snd : Int)]) (res_row_tmp2 (fn := Try.f36) (p := 4) (u := 5) (u2 := 6) rfl _ _ w.heap.size _ _ _ _ rfl (setRow_at g0 _) Try.underlying59 rfl (Hf.h8 _)) rfl ⟨rfl, below_setRow (keepB (below_one w _) hb) (Nat.le_refl _) _⟩
  · have q5 : (enc == 5) = false := beq_eq_false_iff_ne.mpr h5
    rw [rhV, if_neg h5]
    have p1 := fun w => readSix_any enc s hs w
    have p2 := fun w => sixteenthsOf_any enc w
    generalize rsV enc s = r at *
    generalize byC 16 (chr enc) = C at *
    clear h5
    go_enter Try.func36, Try.ntmps36
    go_wp2_with (first
      | (go_at_call 39; refine (p2 _).mono ?_; rintro e x ⟨rfl, hb⟩)
      | (go_at_call 41; refine (p1 _).mono ?_; rintro e y ⟨rfl, hc⟩; have g0 := kept hc (kept hb (h1_0 w _)))
      | (refine wpList_store_row rfl 59 _ _ rfl w.heap.size (byC 8 r.fst) rfl rfl _ _ g0 (Hf.h8 _) (by rw [byC_size, byC_size]) (byC_one _ _) ?_))
    exact bodyPost_ret (v := .tuple #[.agg (byC 8 r.fst), .int .i64 r.snd.fst, .int .i64 (r.snd.snd : Int)]) (res_row_tmp2 (fn := Try.f36) (p := 4) (u := 5) (u2 := 6) rfl _ _ w.heap.size _ _ _ _ rfl (setRow_at g0 _) Try.underlying59 rfl (Hf.h8 _)) rfl ⟨rfl, below_setRow (keepB (keepB (below_one w _) hb) hc) (Nat.le_refl _) _⟩
end Go.Proofs.Ytkleoklcaalogaa.Rb
