import Derived.Shelf.SlicesQ.Reverse
import Derived.Test.YtciblmdpngnakaaQv09
/- slices.Reverse over sixteen round keys: the library's contract, laid at this dump; and decrypt. -/
namespace Go.Proofs.Ytciblmdpngnakaa.Rv
set_option linter.unusedVariables false
open Go.RowKit Pla Cb Tk Sm Rk En
open Go.Shelf
def ren : Go.Shelf.Ren := ⟨fun | 35 => 89 | n => n, fun | 22 => 120 | 23 => 70 | n => n, fun n => n⟩
theorem lays : Go.Proofs.SlLaysE0.n35 Try.prog ren := {
  mixed := by kernel_rfl
  f35 := ⟨"slices.Reverse[[]turnstile/cipher.roundKey,turnstile/cipher.roundKey]", by decide, Try.func89.trans (congrArg some (by kernel_rfl))⟩
  t0 := Try.underlying0
  a0 := Try.isAgg0
  z0 := Try.sizeOf0
  v0 := Try.zeroValue0
  t3 := Try.underlying3
  a3 := Try.isAgg3
  z3 := Try.sizeOf3
  v3 := Try.zeroValue3
  t4 := Try.underlying4
  a4 := Try.isAgg4
  z4 := Try.sizeOf4
  v4 := Try.zeroValue4
  t22 := Try.underlying120
  a22 := Try.isAgg120
  z22 := Try.sizeOf120
  v22 := Try.zeroValue120 }
def encK (k : List Bool) : List Value := (byC 8 fun j => val (grp k j)).toList
theorem encK_len (k : List Bool) : (encK k).length = 8 := by simp [encK, byC_size]
theorem encK_one (k : List Bool) : ∀ v ∈ encK k, v.oneCell' = true := fun v hv => (Array.all_eq_true_iff_forall_mem.1 (byC_one 8 _)) v (by simpa [encK] using hv)
theorem flat_at (ks : List (List Bool)) (n t : Nat) (h : ks.length = n) (ht : t < n * 8) : (Go.Sort.flatK encK 8 ks.toArray)[t]! = .int .u8 (kfl ks t : Int) := by
  rw [Go.Sort.get_flatK encK 8 _ t (by simpa [h] using ht)]
  have h1 : t / 8 < ks.length := by omega
  have e : ks.toArray[t / 8]! = ks.getD (t / 8) [] := by
    rw [getElem!_pos ks.toArray (t / 8) (by simpa using h1), List.getD_eq_getElem?_getD, List.getElem?_eq_getElem h1]; rfl
  rw [e]
  have h2 : t % 8 < 8 := Nat.mod_lt _ (by decide)
  rw [getElem!_pos (encK (ks.getD (t / 8) [])) (t % 8) (by rw [encK_len]; exact h2)]
  have := byC_get 8 (fun j => val (grp (ks.getD (t / 8) []) j)) (t % 8) h2
  rw [← Array.getElem?_toList] at this
  have h3 := (List.getElem?_eq_some_iff.1 this).2
  exact h3
theorem rev_any (ks : List (List Bool)) (hks : ks.length = 16) (b : Nat) (w : World) (hb : w.heap[b]? = some (.cells (byC 128 (kfl ks)) 72)) :
    Calls Try.prog 89 #[.slice (some ⟨b, 0, none⟩) 16 16] w fun e w' => e = .returned (.tuple #[]) ∧ w'.rangeAt b 0 (byC 128 (kfl ks.reverse)).toList ∧ Below b w w' ∧ w'.heap.size = w.heap.size := by
  have hH : Go.Sort.HoldsK encK 8 w b 0 ks.toArray := fun t ht => by
    have ht' : t < 128 := by have := ht; simp only [Go.Sort.size_flatK, List.size_toArray, hks] at this; exact this
    rw [flat_at ks 16 t hks ht']
    refine ⟨?_, ?_⟩
    · rw [Nat.zero_add, cell_of_row w b _ _ _ (0, 0) hb]; exact byC_get 128 _ t ht'
    · simp [World.frozen?, hb]
  have R := Go.Proofs.AnyQ.slices_Reverse lays 8 Try.isAgg70 Try.sizeOf70 encK encK_len encK_one b 0 16 ks.toArray w hH (by simp [hks])
  rw [show ks.toArray.size = 16 by simp [hks]] at R
  refine R.mono ?_
  rintro e w' ⟨rfl, n, rfl⟩
  have hr : ks.toArray.reverse = ks.reverse.toArray := by simp
  rw [hr]
  have hH2 := Go.Sort.holdsK_putRowK encK 8 (Go.Sort.ahead w n) b 0 ks.toArray ks.reverse.toArray (Go.Sort.holdsK_ahead encK 8 w n b 0 ks.toArray hH) (by simp)
  refine ⟨rfl, ?_, ?_, ?_⟩
  · intro j v hv
    have hj : j < 128 := by have := (List.getElem?_eq_some_iff.1 hv).1; simpa [byC_size] using this
    have := (hH2 j (by simp [hks, hj])).1
    rw [this, flat_at ks.reverse 16 j (by simp [hks]) hj]
    rw [Array.getElem?_toList, byC_get 128 _ j hj] at hv
    exact hv
  · refine ⟨rfl, rfl, rfl, ?_, fun k hk => ?_⟩
    · show w.heap.size ≤ ((Go.Sort.ahead w n).heap.modify b _).size
      simp [Go.Sort.ahead]
    · show ((Go.Sort.ahead w n).heap.modify b _)[k]? = w.heap[k]?
      rw [Array.getElem?_modify, if_neg (by omega)]; rfl
  · show ((Go.Sort.ahead w n).heap.modify b _).size = w.heap.size
    simp [Go.Sort.ahead]
set_option maxRecDepth 100000 in
set_option maxHeartbeats 3200000 in
theorem dec_any (ks : List (List Bool)) (hks : Hid (ks.length = 16)) (hkl : Hid (∀ n, n < 16 → (ks.getD n []).length = 48)) (x : List Bool) (hx : Hid (x.length = 64)) (g o : Nat) (w : World) (hg : g < w.heap.size) (hr : w.rangeAt g o (byC 128 (kfl ks)).toList) :
    Calls Try.prog 76 #[.pointer (some ⟨g, o, none⟩), .int .u64 (val x : Int)] w fun e w' => e = .returned (.int .u64 (val (des ks.reverse x) : Int)) ∧ Below w.heap.size w w' := by
  have hz := (zero_of_info z48).1
  have hkr : Hid (∀ n, n < 16 → (ks.reverse.getD n []).length = 48) := by
    show ∀ n, _ → _
    intro n hn
    have h := hkl.out (15 - n) (by omega)
    rw [List.getD_eq_getElem?_getD, List.getElem?_reverse (by rw [hks.out]; exact hn), hks.out]
    rw [List.getD_eq_getElem?_getD] at h
    exact h
  go_enter Try.func76, Try.ntmps76
  go_wp2_with (first
    | (refine wpList_load_mid rfl 72 _ rfl g o rfl _ _ hr Try.underlying72 rfl (by rw [Array.length_toList]; exact h48 _) ?_; rw [Array.toArray_toList])
    | (refine wpList_store_row rfl 72 _ _ rfl w.heap.size (byC 128 (kfl ks)) rfl rfl _ _ (h1_0 w _) (h48 _) (by rw [byC_size, byC_size]) (byC_one _ _) ?_; rw [World.setRow_alloc_new])
    | (go_at_call 89; refine (rev_any ks hks.out w.heap.size _ (h1_0 w _)).mono ?_; rintro e y ⟨rfl, hy1, hy2, hy3⟩; have hyl : w.heap.size < y.heap.size := by rw [hy3]; simp)
    | (go_at_call 74; refine (enc_any ks.reverse (by rw [List.length_reverse]; exact hks) hkr x hx w.heap.size 0 y hyl hy1).mono ?_; rintro e z ⟨rfl, hz1⟩))
  go_ret
  exact ⟨rfl, ((below_one w _).trans hy2).trans (hz1.mono (by omega))⟩
end Go.Proofs.Ytciblmdpngnakaa.Rv
/- New. -/
namespace Go.Proofs.Ytciblmdpngnakaa.Nw
set_option linter.unusedVariables false
open Go.RowKit Pla Cb Tk Sm Wd Rk En Rv
/-- a key's cells -/
def bkC (K : Nat) (f : Nat → Nat) : Array Value := #[.int .i64 (K : Int)] ++ byC 384 f
theorem bkC_size (K : Nat) (f : Nat → Nat) : (bkC K f).size = 385 := by simp [bkC, byC_size]
theorem bkC_zero (K : Nat) (f : Nat → Nat) : (bkC K f)[0]? = some (.int .i64 (K : Int)) := by rw [bkC, Array.getElem?_append_left (by simp)]; rfl
theorem bkC_get (K : Nat) (f : Nat → Nat) (i : Nat) (h : i < 384) : (bkC K f)[1 + i]? = some (.int .u8 ((f i : Nat) : Int)) := by
  rw [bkC, Array.getElem?_append_right (by simp)]
  simpa using byC_get 384 f i h
theorem put_bk (K j : Nat) (v : Nat → Nat) (hj : j < 3) : putL (bkC K (up v (128 * j))) (1 + 128 * j) (byC 128 fun i => v (128 * j + i)).toList = bkC K (up v (128 * (j + 1))) := by
  apply Array.ext_getElem?
  intro i
  by_cases hi : i < 385
  · rw [putL_get _ _ _ _ (by rw [bkC_size]; exact hi)]
    simp only [Array.length_toList, byC_size]
    by_cases h0 : i = 0
    · subst h0; rw [if_neg (by omega), bkC_zero, bkC_zero]
    · obtain ⟨m, rfl⟩ : ∃ m, i = 1 + m := ⟨i - 1, by omega⟩
      rw [bkC_get _ _ m (by omega), bkC_get _ _ m (by omega)]
      by_cases c : 1 + 128 * j ≤ 1 + m ∧ 1 + m < 1 + 128 * j + 128
      · rw [if_pos c, Array.getElem?_toList, byC_get 128 _ (1 + m - (1 + 128 * j)) (by omega)]
        show some (Value.int .u8 ((v (128 * j + (1 + m - (1 + 128 * j))) : Nat) : Int)) = some (Value.int .u8 (((if m < 128 * (j + 1) then v m else 0) : Nat) : Int))
        rw [if_pos (by omega), show 128 * j + (1 + m - (1 + 128 * j)) = m by omega]
      · rw [if_neg c]
        show some (Value.int .u8 (((if m < 128 * j then v m else 0) : Nat) : Int)) = some (Value.int .u8 (((if m < 128 * (j + 1) then v m else 0) : Nat) : Int))
        by_cases c2 : m < 128 * j
        · rw [if_pos c2, if_pos (by omega)]
        · rw [if_neg c2, if_neg (by omega)]
  · rw [Array.getElem?_eq_none (by rw [putL_size, bkC_size]; omega), Array.getElem?_eq_none (by rw [bkC_size]; omega)]
theorem ext_pt (s : ByteArray) (j : Nat) : (s.extract (8 * j) (8 * j + 8)).data.toList.take 8 = pt s.data.toList j := by
  rw [pt, ByteArray.data_extract, Array.toList_extract, List.extract_eq_take_drop, show 8 * j + 8 - 8 * j = 8 by omega, List.take_take, Nat.min_self]
theorem pt_len (s : ByteArray) (j : Nat) (h : 8 * j + 8 ≤ s.size) : (pt s.data.toList j).length = 8 := by
  have : s.data.toList.length = s.size := by simp
  rw [pt, List.length_take, List.length_drop, this]; omega
/-- the cells of a key's parts -/
def bf (l : List UInt8) (i : Nat) : Nat := kfl (sc l (i / 128)) (i % 128)
theorem put_blk {l : List UInt8} {K j b : Nat} {y : World} {t : TypeId} {fr : Nat × Nat} (h : y.heap[b]? = some (.cells (bkC K (up (bf l) (128 * j))) t fr)) (hj : j < 3) :
    (y.setCells b (1 + j * 128) (byC 128 fun i => bf l (128 * j + i)).toList).heap[b]? = some (.cells (bkC K (up (bf l) (128 * (j + 1)))) t fr) := by
  have := setCells_heap (byC 128 fun i => bf l (128 * j + i)).toList (1 + 128 * j) h
  rw [put_bk K j (bf l) hj] at this
  rw [Nat.mul_comm j 128]; exact this
theorem bkC_one (K : Nat) (f : Nat → Nat) : (bkC K f).all (·.oneCell') = true := by
  rw [bkC, Array.all_append, byC_one]; simp [Value.oneCell']
theorem bfill (K : Nat) : Try.zeroCells75.setIfInBounds 0 (.int .i64 (K : Int)) = bkC K fun _ => 0 := by kernel_rfl
theorem h51 (K : Nat) (f : Nat → Nat) : (Try.prog.info? 75).map (·.size) = some (bkC K f).size := by rw [bkC_size]; kernel_rfl
set_option maxRecDepth 100000 in
set_option maxHeartbeats 1600000 in
theorem new_bad (s : ByteArray) (h : kindN s.size = 0) (w : World) : Calls Try.prog 21 #[.string s] w fun e w' => e = .returned (.tuple #[.pointer none, .int .i64 30]) ∧ w' = w := by
  go_enter Try.func21, Try.ntmps21
  go_wp2_with (go_at_call 48; refine (kind_any s _).mono ?_; rintro e x ⟨rfl, rfl⟩; rw [h])
  exact bodyPost_ret (v := .tuple #[.pointer none, .int .i64 30]) (by simp [results, Try.results21, go_sem]) rfl ⟨rfl, rfl⟩
set_option maxRecDepth 100000 in
set_option maxHeartbeats 1600000 in
theorem new_good (s : ByteArray) (K : Nat) (h : Hid (kindN s.size = K)) (h1 : 1 ≤ K) (h3 : K ≤ 3) (w : World) : Calls Try.prog 21 #[.string s] w fun e w' => ∃ g, e = .returned (.tuple #[.pointer (some ⟨g, 0, none⟩), .int .i64 0]) ∧ w.heap.size ≤ g ∧ w'.heap[g]? = some (.cells (bkC K (up (bf s.data.toList) (128 * K))) 75) ∧ Below w.heap.size w w' := by
  have qK : ((K : Int) == 0) = false := beq_eq_false_iff_ne.mpr (by omega)
  have q1 : (1 : Int) ≤ (K : Int) := by omega
  have q3 : (K : Int) ≤ 3 := by omega
  go_enter Try.func21, Try.ntmps21
  go_wp2_with (first
    | (go_at_call 48; refine (kind_any s _).mono ?_; rintro e x ⟨rfl, hx⟩; rw [h.out, hx]))
  clear hx
  rw [bfill K]
  have e0 : bkC K (fun _ => 0) = bkC K (up (bf s.data.toList) (128 * 0)) := by rw [bkC, bkC, Nat.mul_zero, ← up_zero]
  have hsz : 8 * K ≤ s.size := by
    have := h.out
    unfold kindN at this
    split at this
    · omega
    · split at this
      · omega
      · split at this <;> omega
  go_loopw [6, 15] (fun i c wr => ∃ j : Nat, j ≤ K ∧ c = .int .i64 (j : Int) ∧ wr.heap[w.heap.size]? = some (.cells (bkC K (up (bf s.data.toList) (128 * j))) 75) ∧ Below w.heap.size w wr) (fun _ c _ => 4 - (intOf c).toNat)
  case atStart => exact ⟨0, by omega, rfl, by rw [e0]; exact h1_0 _ _, below_one w _⟩
  case round =>
    obtain ⟨j, hj, rfl, g1, hb⟩ := hrel
    clear e0 h
    have hbs := hb.size
    by_cases hj2 : j < K
    · have q : (j : Int) < (K : Int) := by omega
      have q0 : (0 : Int) ≤ (j : Int) := by omega
      have qj : (j : Int) < 3 := by omega
      have PA := fun y => part_any s j (by omega) (by omega) y
      have hps : 8 ≤ (s.extract (8 * j) (8 * j + 8)).size := by rw [ByteArray.size_extract]; omega
      have WO := fun y => word_any (s.extract (8 * j) (8 * j + 8)) hps y
      have ept : (s.extract (8 * j) (8 * j + 8)).data.toList.take 8 = pt s.data.toList j := ext_pt s j
      rw [ept] at WO
      have hlen : Hid ((bitsS (pt s.data.toList j)).length = 64) := (by rw [bitsS_len, pt_len s j (by omega)] : (bitsS (pt s.data.toList j)).length = 64)
      have KE := fun y => keys_any (bitsS (pt s.data.toList j)) hlen y
      have HKJ : Hid (byC 128 (kf (bitsS (pt s.data.toList j))) = byC 128 fun i => bf s.data.toList (128 * j + i)) := (by
        rw [← kfl_sched]
        refine byC_ext fun i hi => ?_
        rw [bf, show (128 * j + i) / 128 = j by omega, show (128 * j + i) % 128 = i by omega]; rfl : byC 128 (kf (bitsS (pt s.data.toList j))) = byC 128 fun i => bf s.data.toList (128 * j + i))
      clear ept hps
      go_wp2_with fail
      refine Ql.region_lastL (C := Ql.Cl wr) (by kernel_rfl) rfl (by kernel_rfl) (by kernel_rfl) (by kernel_rfl) rfl ((Below.refl _ _).drew) ?_
      repeat (refine wpQuiet_step (fun K hK => ?_); first
        | (go_simp; apply Exists.intro; refine ⟨fun y hy => ?_, hK _ ?_⟩; (first | (go_at_call 51; exact Ql.cl_same hy (PA y)) | (go_at_call 50; exact Ql.cl_same hy (WO y)) | (go_at_call 49; exact Ql.cl_of hy (KE y))); clear hK K)
        | (go_simp; refine hK _ ?_; clear hK K)
        | (go_simp; refine ⟨_, fun _ _ => rfl, hK _ ?_⟩; clear hK K)
        | (go_simp; refine ⟨_, fun _ _ => ⟨rfl, rfl⟩, hK _ ?_⟩; clear hK K))
      refine wpQuiet_nil ?_
      intro y1 hy1
      rw [HKJ.out]
      have m1 := kept hy1 g1
      refine wp_store_mid 72 _ _ rfl w.heap.size (1 + j * 128) (byC 128 fun i => bf s.data.toList (128 * j + i)) rfl rfl (there_of m1 _ _ (by rw [bkC_size, byC_size]; omega)) (h48 _) (byC_one _ _) ?_
      have m2 := put_blk m1 (show j < 3 by omega)
      have m3 := below_setCells (Nat.le_refl w.heap.size) (byC 128 fun i => bf s.data.toList (128 * j + i)).toList (1 + j * 128) (keepB hb hy1)
      generalize y1.setCells w.heap.size (1 + j * 128) (byC 128 fun i => bf s.data.toList (128 * j + i)).toList = W5 at *
      clear hy1 m1 g1 hb PA WO KE HKJ hlen
      go_wp2
      exact ⟨⟨j + 1, by omega, by simp, m2, m3⟩, by simp only [intOf]; omega⟩
    · obtain rfl : j = K := by omega
      go_wp2
      exact bodyPost_ret (v := .tuple #[.pointer (some ⟨w.heap.size, 0, none⟩), .int .i64 0]) (by simp [results, Try.results21, go_sem]) rfl ⟨w.heap.size, rfl, Nat.le_refl _, g1, hb⟩
theorem sc_len (l : List UInt8) (i : Nat) : (sc l i).length = 16 := by simp [sc, sched]
theorem sc_lens (l : List UInt8) (i : Nat) : ∀ n, n < 16 → ((sc l i).getD n []).length = 48 := by
  intro n hn
  rw [sc, sched, List.getD_eq_getElem?_getD, List.getElem?_map, List.getElem?_range hn]
  exact rk_len _ _
/-- a part's cells within a key's -/
theorem part_range {w : World} {g K p : Nat} {l : List UInt8} {t : TypeId} {fr : Nat × Nat} (h : w.heap[g]? = some (.cells (bkC K (up (bf l) (128 * K))) t fr)) (hp : p < K) (hK : K ≤ 3) : w.rangeAt g (1 + 128 * p) (byC 128 (kfl (sc l p))).toList := by
  refine range_of h _ _ fun j v hv => ?_
  have hj : j < 128 := by have := (List.getElem?_eq_some_iff.1 hv).1; simpa [byC_size] using this
  rw [Array.getElem?_toList, byC_get 128 _ j hj] at hv
  rw [Nat.add_assoc, bkC_get _ _ _ (by omega), ← hv]
  show some (Value.int .u8 (((if 128 * p + j < 128 * K then bf l (128 * p + j) else 0) : Nat) : Int)) = _
  rw [if_pos (by omega), bf, show (128 * p + j) / 128 = p by omega, show (128 * p + j) % 128 = j by omega]
end Go.Proofs.Ytciblmdpngnakaa.Nw
