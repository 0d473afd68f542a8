/- slices.Reverse over sixteen round keys: the library's contract, laid at this dump; and decrypt. -/
import Derived.Shelf.SlicesQ.Reverse
import Derived.Test.YtciblmdpngnakabEn
namespace Go.Proofs.Ytciblmdpngnakab.Rv
set_option linter.unusedVariables false
open Go.RowKit Pla Cb Tk Sm Rk En
open Go.Shelf
def ren : Go.Shelf.Ren := ⟨fun | 35 => 73 | n => n, fun | 22 => 108 | 23 => 74 | n => n, fun n => n⟩
theorem lays : Go.Proofs.SlLaysE0.n35 Try.prog ren := {
  mixed := by kernel_rfl
  f35 := ⟨"slices.Reverse[[]turnstile/cipher.roundKey,turnstile/cipher.roundKey]", by decide, Try.func73.trans (congrArg some (by kernel_rfl))⟩
  t0 := Try.underlying0
  a0 := Try.isAgg0
  z0 := Try.sizeOf0
  v0 := Try.zeroValue0
  t3 := Try.underlying3
  a3 := Try.isAgg3
  z3 := Try.sizeOf3
  v3 := Try.zeroValue3
  t4 := Try.underlying4
  a4 := Try.isAgg4
  z4 := Try.sizeOf4
  v4 := Try.zeroValue4
  t22 := Try.underlying108
  a22 := Try.isAgg108
  z22 := Try.sizeOf108
  v22 := Try.zeroValue108 }
def encK (k : List Bool) : List Value := (byC 8 fun j => val (grp k j)).toList
theorem encK_len (k : List Bool) : (encK k).length = 8 := by simp [encK, byC_size]
theorem encK_one (k : List Bool) : ∀ v ∈ encK k, v.oneCell' = true := fun v hv => (Array.all_eq_true_iff_forall_mem.1 (byC_one 8 _)) v (by simpa [encK] using hv)
theorem flat_at (ks : List (List Bool)) (n t : Nat) (h : ks.length = n) (ht : t < n * 8) : (Go.Sort.flatK encK 8 ks.toArray)[t]! = .int .u8 (kfl ks t : Int) := by
  rw [Go.Sort.get_flatK encK 8 _ t (by simpa [h] using ht)]
  have h1 : t / 8 < ks.length := by omega
  have e : ks.toArray[t / 8]! = ks.getD (t / 8) [] := by
    rw [getElem!_pos ks.toArray (t / 8) (by simpa using h1), List.getD_eq_getElem?_getD, List.getElem?_eq_getElem h1]; rfl
  rw [e]
  have h2 : t % 8 < 8 := Nat.mod_lt _ (by decide)
  rw [getElem!_pos (encK (ks.getD (t / 8) [])) (t % 8) (by rw [encK_len]; exact h2)]
  have := byC_get 8 (fun j => val (grp (ks.getD (t / 8) []) j)) (t % 8) h2
  rw [← Array.getElem?_toList] at this
  have h3 := (List.getElem?_eq_some_iff.1 this).2
  exact h3
theorem rev_any (ks : List (List Bool)) (hks : ks.length = 16) (b : Nat) (w : World) (hb : w.heap[b]? = some (.cells (byC 128 (kfl ks)) 76)) :
    Calls Try.prog 73 #[.slice (some ⟨b, 0, none⟩) 16 16] w fun e w' => e = .returned (.tuple #[]) ∧ w'.rangeAt b 0 (byC 128 (kfl ks.reverse)).toList ∧ Below b w w' ∧ w'.heap.size = w.heap.size := by
  have hH : Go.Sort.HoldsK encK 8 w b 0 ks.toArray := fun t ht => by
    have ht' : t < 128 := by have := ht; simp only [Go.Sort.size_flatK, List.size_toArray, hks] at this; exact this
    rw [flat_at ks 16 t hks ht']
    refine ⟨?_, ?_⟩
    · rw [Nat.zero_add, cell_of_row w b _ _ _ (0, 0) hb]; exact byC_get 128 _ t ht'
    · simp [World.frozen?, hb]
  have R := Go.Proofs.AnyQ.slices_Reverse lays 8 Try.isAgg74 Try.sizeOf74 encK encK_len encK_one b 0 16 ks.toArray w hH (by simp [hks])
  rw [show ks.toArray.size = 16 by simp [hks]] at R
  refine R.mono ?_
  rintro e w' ⟨rfl, n, rfl⟩
  have hr : ks.toArray.reverse = ks.reverse.toArray := by simp
  rw [hr]
  have hH2 := Go.Sort.holdsK_putRowK encK 8 (Go.Sort.ahead w n) b 0 ks.toArray ks.reverse.toArray (Go.Sort.holdsK_ahead encK 8 w n b 0 ks.toArray hH) (by simp)
  refine ⟨rfl, ?_, ?_, ?_⟩
  · intro j v hv
    have hj : j < 128 := by have := (List.getElem?_eq_some_iff.1 hv).1; simpa [byC_size] using this
    have := (hH2 j (by simp [hks, hj])).1
    rw [this, flat_at ks.reverse 16 j (by simp [hks]) hj]
    rw [Array.getElem?_toList, byC_get 128 _ j hj] at hv
    exact hv
  · refine ⟨rfl, rfl, rfl, ?_, fun k hk => ?_⟩
    · show w.heap.size ≤ ((Go.Sort.ahead w n).heap.modify b _).size
      simp [Go.Sort.ahead]
    · show ((Go.Sort.ahead w n).heap.modify b _)[k]? = w.heap[k]?
      rw [Array.getElem?_modify, if_neg (by omega)]; rfl
  · show ((Go.Sort.ahead w n).heap.modify b _).size = w.heap.size
    simp [Go.Sort.ahead]
set_option maxRecDepth 100000 in
set_option maxHeartbeats 3200000 in
theorem dec_any (ks : List (List Bool)) (hks : Hid (ks.length = 16)) (hkl : Hid (∀ n, n < 16 → (ks.getD n []).length = 48)) (x : List Bool) (hx : Hid (x.length = 64)) (g o : Nat) (w : World) (hg : g < w.heap.size) (hr : w.rangeAt g o (byC 128 (kfl ks)).toList) :
    Calls Try.prog 54 #[.pointer (some ⟨g, o, none⟩), .int .u64 (val x : Int)] w fun e w' => e = .returned (.int .u64 (val (des ks.reverse x) : Int)) ∧ Below w.heap.size w w' := by
  have hz := (zero_of_info z48).1
  have hkr : Hid (∀ n, n < 16 → (ks.reverse.getD n []).length = 48) := by
    show ∀ n, _ → _
    intro n hn
    have h := hkl.out (15 - n) (by omega)
    rw [List.getD_eq_getElem?_getD, List.getElem?_reverse (by rw [hks.out]; exact hn), hks.out]
    rw [List.getD_eq_getElem?_getD] at h
    exact h
  go_enter Try.func54, Try.ntmps54
  go_wp2_with (first
    | (refine wpList_load_mid rfl 76 _ rfl g o rfl _ _ hr Try.underlying76 rfl (by rw [Array.length_toList]; exact h48 _) ?_; rw [Array.toArray_toList])
    | (refine wpList_store_row rfl 76 _ _ rfl w.heap.size (byC 128 (kfl ks)) rfl rfl _ _ (h1_0 w _) (h48 _) (by rw [byC_size, byC_size]) (byC_one _ _) ?_; rw [World.setRow_alloc_new])
    | (go_at_call 73; refine (rev_any ks hks.out w.heap.size _ (h1_0 w _)).mono ?_; rintro e y ⟨rfl, hy1, hy2, hy3⟩; have hyl : w.heap.size < y.heap.size := by rw [hy3]; simp)
    | (go_at_call 52; refine (enc_any ks.reverse (by rw [List.length_reverse]; exact hks) hkr x hx w.heap.size 0 y hyl hy1).mono ?_; rintro e z ⟨rfl, hz1⟩))
  go_ret
  exact ⟨rfl, ((below_one w _).trans hy2).trans (hz1.mono (by omega))⟩
end Go.Proofs.Ytciblmdpngnakab.Rv
