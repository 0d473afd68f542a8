/- write. -/
import Derived.Test.YtkleoklcaalogaaWr
import Derived.Lib.BufferRead
namespace Go.Proofs.Ytkleoklcaalogaa.Wt
set_option linter.unusedVariables false
open Go.RowKit Pla Bm Br Bv Bw Bx Hf Wr
def nib (v : Nat → Nat) (j : Nat) : Nat := if j % 2 = 0 then v (j / 2) / 16 else v (j / 2) % 16
/-- a half, as it is written -/
def wrL (enc : Int) (v : Nat → Nat) : List UInt8 := if enc = 5 then (List.range 8).map (fun i => UInt8.ofNat (v i)) else (List.range 16).map (fun j => UInt8.ofNat (chr enc (nib v j)))
theorem conv_by {P : Program} {w : World} {src dst e : TypeId} {g n : Nat} {v : Nat → Nat} {t : TypeId} {fr : Nat × Nat} (hv : ∀ i, i < n → v i < 256) (hs : P.underlying src = some (.slice e)) (he : P.underlying e = some (.int .u8)) (hd : P.underlying dst = some .string)
    (hg : w.heap[g]? = some (.cells (byC n v) t fr)) : (convert src dst (.slice (some ⟨g, 0, none⟩) n n)).run P w = .ok (.string ⟨((List.range n).map (fun i => UInt8.ofNat (v i))).toArray⟩) w := by
  have hl : ((List.range n).map (fun i => UInt8.ofNat (v i))).length = n := by simp
  have h := run_convert_bytes_back (P := P) w src dst e ⟨g, 0, none⟩ n ((List.range n).map (fun i => UInt8.ofNat (v i))) hs he hd (fun j hj => by
    rw [hl] at hj
    rw [show (⟨g, 0, none⟩ : Addr).add j = ⟨g, j, none⟩ by unfold Addr.add; split <;> simp_all, cell_of_row w g j _ t fr hg, byC_get _ _ _ hj]
    have := hv j hj
    simp; omega)
  rw [hl] at h
  exact h
set_option maxRecDepth 100000 in
set_option maxHeartbeats 1600000 in
theorem write_five (v : Nat → Nat) (hv : ∀ i, v i < 256) (w : World) :
    Calls Try.prog 35 #[.agg (byC 8 v), .int .i64 5] w fun e w' => e = .returned (.string ⟨(wrL 5 v).toArray⟩) ∧ Below w.heap.size w w' := by
  rw [show wrL 5 v = (List.range 8).map (fun i => UInt8.ofNat (v i)) from rfl]
  have cv := conv_by (P := Try.prog) (src := 66) (dst := 9) (e := 5) (n := 8) (fun i _ => hv i) Try.underlying66 Try.underlying5 Try.underlying9 (h1_0 w (Obj.cells (byC 8 v) 59))
  generalize ((List.range 8).map (fun i => UInt8.ofNat (v i))).toArray = L at *
  go_enter Try.func35, Try.ntmps35
  go_wp2
  go_ret
  exact ⟨rfl, below_one w _⟩
theorem kept_two {x : World} {g : Nat} {o : Obj} (h : x.heap[g]? = some o) (a b : Obj) : ((x.alloc a).alloc b).heap[g]? = some o :=
  have hg := (Array.getElem?_eq_some_iff.1 h).1
  (Below.heap_alloc _ b _ (by simp; omega)).trans ((Below.heap_alloc _ a _ hg).trans h)
def outU (enc : Int) (v : Nat → Nat) (j : Nat) : Nat → Nat := fun i => if i < 2 * j then chr enc (nib v i) else 0
theorem and15 (x : Nat) (h : x < 256) : bits .and .u8 (x : Int) 15 = ((x % 16 : Nat) : Int) := by
  have h1 := u8_and_nat x 15 h (by decide)
  rw [Nat.and_two_pow_sub_one_eq_mod x 4] at h1
  exact h1
theorem outU_step (enc : Int) (v : Nat → Nat) (j : Nat) (hj : j < 8) : ((byC 16 (outU enc v j)).setIfInBounds (2 * j) (.int .u8 ((chr enc (v j / 16) : Nat) : Int))).setIfInBounds (2 * j + 1) (.int .u8 ((chr enc (v j % 16) : Nat) : Int)) = byC 16 (outU enc v (j + 1)) := by
  rw [byC_set _ _ _ _ (by omega), byC_set _ _ _ _ (by omega)]
  refine byC_ext fun i hi => ?_
  simp only [updN, outU]
  by_cases e1 : i = 2 * j + 1
  · subst e1; rw [if_pos rfl, if_pos (by omega)]
    rw [nib, if_neg (by omega), show (2 * j + 1) / 2 = j by omega]
  · rw [if_neg e1]
    by_cases e2 : i = 2 * j
    · subst e2; rw [if_pos rfl, if_pos (by omega), nib, if_pos (by omega), show (2 * j) / 2 = j by omega]
    · rw [if_neg e2]
      by_cases e3 : i < 2 * j
      · rw [if_pos e3, if_pos (by omega)]
      · rw [if_neg e3, if_neg (by omega)]
theorem i64_small (n : Int) (h0 : 0 ≤ n) (h1 : n ≤ 1000) : IntKind.i64.wrap n = n := by
  rw [IntKind.wrap_i64]; omega
theorem nib_lt (v : Nat → Nat) (hv : ∀ i, v i < 256) (j : Nat) : nib v j < 16 := by
  have := hv (j / 2); unfold nib; split <;> omega
theorem chr_lt (enc : Int) (n : Nat) (h : n < 16) : chr enc n < 256 := by unfold chr; (repeat' split) <;> omega
theorem outU_lt (enc : Int) (v : Nat → Nat) (hv : ∀ i, v i < 256) (i : Nat) : outU enc v 8 i < 256 := by
  unfold outU; split
  · exact chr_lt _ _ (nib_lt v hv i)
  · decide
theorem outU_all (enc : Int) (he : enc ≠ 5) (v : Nat → Nat) : (List.range 16).map (fun i => UInt8.ofNat (outU enc v 8 i)) = wrL enc v := by
  rw [wrL, if_neg he]
  apply List.map_congr_left
  intro i hi
  rw [outU, if_pos (by have := List.mem_range.1 hi; omega)]
set_option maxRecDepth 100000 in
set_option maxHeartbeats 1600000 in
theorem write_six (enc : Int) (he : enc ≠ 5) (v : Nat → Nat) (hv : ∀ i, v i < 256) (w : World) :
    Calls Try.prog 35 #[.agg (byC 8 v), .int .i64 enc] w fun e w' => e = .returned (.string ⟨(wrL enc v).toArray⟩) ∧ Below w.heap.size w w' := by
  have hz := (zero_of_info z16).1
  have q5 : (enc == 5) = false := beq_eq_false_iff_ne.mpr he
  have e0 : byC 16 (fun _ => 0) = byC 16 (outU enc v 0) := byC_ext fun i hi => by simp [outU]
  go_enter Try.func35, Try.ntmps35
  go_wp2_with (first
    | (refine wpList_load_row rfl 59 _ rfl w.heap.size rfl _ _ _ _ (h1_0 w _) Try.underlying59 rfl (h8 _) ?_)
    | (go_at_call 39; refine (sixteenthsOf_any _ _).mono ?_; rintro e x ⟨rfl, hb⟩; have g0 := kept hb (h1_0 w _))
    | (refine wpList_store_row rfl 67 _ _ rfl x.heap.size (byC 16 (chr enc)) rfl rfl _ _ (h1_0 x _) (h16 _) (by rw [byC_size, byC_size]) (byC_one _ _) ?_; rw [World.setRow_alloc_new])
    | (refine wpList_load_row rfl 59 _ rfl w.heap.size rfl _ _ _ _ (kept_two g0 _ _) Try.underlying59 rfl (h8 _) ?_))
  clear hz e0
  go_loopw [16] (fun i wr => ∃ j : Nat, j ≤ 8 ∧ i = .int .i64 (j : Int) ∧ ∃ n, wr = ((x.alloc (Obj.cells (byC 16 (chr enc)) 67)).alloc (Obj.cells (byC 16 (outU enc v j)) 67)).drewN n) (fun i _ => 9 - (intOf i).toNat)
  case atStart => exact ⟨0, by omega, rfl, 0, rfl⟩
  case round =>
    obtain ⟨j, hj, rfl, nd, rfl⟩ := hrel
    by_cases hj2 : j < 8
    · have q : (j : Int) < 8 := by omega
      have q0 : (0 : Int) ≤ (j : Int) := by omega
      have k1 := run_by8 v j hj2
      have vb := hv j
      have i2 : ((v j : Nat) : Int) ≤ 255 := by omega
      have i3 : (0 : Int) ≤ ((v j : Nat) : Int) := by omega
      have u2 : bits .and .u8 ((v j : Nat) : Int) 15 = ((v j % 16 : Nat) : Int) := and15 _ vb
      have u3 : ((v j : Nat) : Int) / 16 = ((v j / 16 : Nat) : Int) := by omega
      have k2 := byC_get 16 (chr enc) (v j / 16) (by omega)
      have k3 := byC_get 16 (chr enc) (v j % 16) (by omega)
      have k4 := byC_get 16 (outU enc v j) (2 * j) (by omega)
      have k5 := byC_get 16 (outU enc v j) (2 * j + 1) (by omega)
      have b1 : (0 : Int) ≤ ((v j / 16 : Nat) : Int) := by omega
      have b2 : ((v j / 16 : Nat) : Int) < 16 := by omega
      have b3 : (0 : Int) ≤ ((v j % 16 : Nat) : Int) := by omega
      have b4 : ((v j % 16 : Nat) : Int) < 16 := by omega
      have b5 : (0 : Int) ≤ 2 * (j : Int) := by omega
      have b6 : 2 * (j : Int) + 1 < 16 := by omega
      have b7 : 2 * (j : Int) < 16 := by omega
      have b9 : IntKind.i64.wrap (2 * (j : Int)) = 2 * (j : Int) := i64_small _ (by omega) (by omega)
      have b10 : IntKind.i64.wrap (2 * (j : Int) + 1) = 2 * (j : Int) + 1 := i64_small _ (by omega) (by omega)
      have b11 : (2 * (j : Int)).toNat = 2 * j := by omega
      have b12 : (2 * (j : Int) + 1).toNat = 2 * j + 1 := by omega
      have b8 : (0 : Int) ≤ 2 * (j : Int) + 1 := by omega
      have HN : Hid (((byC 16 (outU enc v j)).setIfInBounds (2 * j) (.int .u8 ((chr enc (v j / 16) : Nat) : Int))).setIfInBounds (2 * j + 1) (.int .u8 ((chr enc (v j % 16) : Nat) : Int)) = byC 16 (outU enc v (j + 1))) := outU_step enc v j hj2
      generalize hp : v j / 16 = p at *
      generalize hq : v j % 16 = r at *
      go_wp2_with fail
      go_region_held3 (fun w' => w'.cell? ⟨x.heap.size, p, none⟩ = some (.int .u8 ((chr enc p : Nat) : Int)) ∧ w'.cell? ⟨x.heap.size, r, none⟩ = some (.int .u8 ((chr enc r : Nat) : Int))) (go_keep) (fail)
      go_wp2
      refine ⟨⟨j + 1, by omega, by simp, nd + 1, ?_⟩, by simp only [intOf]; omega⟩
      show ((((x.alloc _).alloc _).setCell _ _).setCell _ _).drewN (nd + 1) = _
      rw [World.setCell_alloc_at _ _ _ _ _ (by simp), World.setCell_alloc_at _ _ _ _ _ (by simp), HN.out]
    · obtain rfl : j = 8 := by omega
      have cv := conv_by (P := Try.prog) (src := 66) (dst := 9) (e := 5) (n := 16) (v := outU enc v 8) (fun i hi => outU_lt enc v hv i) Try.underlying66 Try.underlying5 Try.underlying9 (w := ((x.alloc (Obj.cells (byC 16 (chr enc)) 67)).alloc (Obj.cells (byC 16 (outU enc v 8)) 67)).drewN nd) (h2_1 x (Obj.cells (byC 16 (chr enc)) 67) (Obj.cells (byC 16 (outU enc v 8)) 67))
      rw [outU_all enc he v] at cv
      go_wp2
      go_ret
      exact ⟨rfl, keepB (keepB (below_one w _) hb) (below_drewN (below_two x _ _) _)⟩
theorem write_any (enc : Int) (v : Nat → Nat) (hv : ∀ i, v i < 256) (w : World) :
    Calls Try.prog 35 #[.agg (byC 8 v), .int .i64 enc] w fun e w' => e = .returned (.string ⟨(wrL enc v).toArray⟩) ∧ Below w.heap.size w w' := by
  by_cases h : enc = 5
  · subst h; exact write_five v hv w
  · exact write_six enc h v hv w
theorem hb_lt (F i : Nat) : hb F i < 256 := Nat.mod_lt _ (by decide)
end Go.Proofs.Ytkleoklcaalogaa.Wt
