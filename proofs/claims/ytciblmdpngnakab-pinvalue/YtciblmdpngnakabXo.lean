/- Xor: the program's and the document's. -/
import Derived.Test.YtciblmdpngnakabCk
import Derived.Deep.OwnRows
namespace Go.Proofs.Ytciblmdpngnakab.Xo
set_option linter.unusedVariables false
open Go.RowKit Pla Cb Tk Wd Nw Bk Aw Eb Et
open Lib0 (bs bs_length bs_append owns_len run_str own_ge below_app ret_str)
def xorL (a b : List UInt8) : List UInt8 := List.zipWith (· ^^^ ·) a b
theorem xorL_len (a b : List UInt8) (h : a.length = b.length) : (xorL a b).length = a.length := by simp [xorL, h]
def xv (a b : ByteArray) (i : Nat) : Nat := ((xorL a.data.toList b.data.toList).getD i 0).toNat
theorem xv_at (a b : ByteArray) (i : Nat) (ha : i < a.size) (hb : i < b.size) : xv a b i = (a[i] ^^^ b[i]).toNat := by
  have h : i < (xorL a.data.toList b.data.toList).length := by simp [xorL]; exact Nat.lt_min.2 ⟨ha, hb⟩
  rw [xv, List.getD_eq_getElem?_getD, List.getElem?_eq_getElem h]
  simp [xorL]; rfl
theorem xor8 (x y : UInt8) : bits .xor .u8 (x.toNat : Int) (y.toNat : Int) = ((x ^^^ y).toNat : Int) := by
  rw [u8_xor_nat _ _ x.toNat_lt y.toNat_lt, UInt8.toNat_xor]
theorem made_zero (n : Nat) : madeCells #[.int .u8 0] n = byC n fun _ => 0 := by
  apply Array.ext_getElem?
  intro i
  by_cases hi : i < n
  · rw [byC_get n _ i hi]; simp [madeCells, hi, Nat.mod_one]
  · rw [Array.getElem?_eq_none (by simp [madeCells]; omega), Array.getElem?_eq_none (by rw [byC_size]; omega)]
theorem xv_list (a b : ByteArray) (n : Nat) (ha : a.size = n) (hb : b.size = n) : (List.range n).map (fun i => UInt8.ofNat (xv a b i)) = xorL a.data.toList b.data.toList := by
  have hl : (xorL a.data.toList b.data.toList).length = n := by simp [xorL]; omega
  apply List.ext_getElem?
  intro i
  by_cases hi : i < n
  · rw [List.getElem?_map, List.getElem?_range hi, List.getElem?_eq_getElem (by rw [hl]; exact hi)]
    simp only [Option.map_some, xv, List.getD_eq_getElem?_getD, List.getElem?_eq_getElem (show i < (xorL a.data.toList b.data.toList).length by rw [hl]; exact hi), Option.getD_some]
    simp
  · rw [List.getElem?_eq_none (by simp; omega), List.getElem?_eq_none (by rw [hl]; omega)]
theorem conv_by {P : Program} {w : World} {src dst e : TypeId} {g n : Nat} {v : Nat → Nat} {t : TypeId} {fr : Nat × Nat} (hv : ∀ i, i < n → v i < 256) (hs : P.underlying src = some (.slice e)) (he : P.underlying e = some (.int .u8)) (hd : P.underlying dst = some .string)
    (hg : w.heap[g]? = some (.cells (byC n v) t fr)) : (convert src dst (.slice (some ⟨g, 0, none⟩) n n)).run P w = .ok (.string ⟨((List.range n).map (fun i => UInt8.ofNat (v i))).toArray⟩) w := by
  have hl : ((List.range n).map (fun i => UInt8.ofNat (v i))).length = n := by simp
  have h := run_convert_bytes_back (P := P) w src dst e ⟨g, 0, none⟩ n ((List.range n).map (fun i => UInt8.ofNat (v i))) hs he hd (fun j hj => by
    rw [hl] at hj
    rw [show (⟨g, 0, none⟩ : Addr).add j = ⟨g, j, none⟩ by unfold Addr.add; split <;> simp_all, cell_of_row w g j _ t fr hg, byC_get _ _ _ hj]
    have := hv j hj
    simp; omega)
  rw [hl] at h
  exact h
set_option maxRecDepth 100000 in
set_option maxHeartbeats 1600000 in
theorem xor_bad (a b : ByteArray) (q : ((a.size : Int) != (b.size : Int)) = true) (w : World) :
    Calls Try.prog 33 #[.string a, .string b] w fun e w' => e = .returned (.tuple #[.string ⟨#[]⟩, .int .i64 1]) ∧ w' = w := by
  go_enter Try.func33, Try.ntmps33
  go_wp2
  exact bodyPost_ret (v := .tuple #[.string ⟨#[]⟩, .int .i64 1]) (by simp [results, Try.results33, go_sem]) rfl ⟨rfl, rfl⟩
set_option maxRecDepth 100000 in
set_option maxHeartbeats 1600000 in
theorem xor_any (a b : ByteArray) (n : Nat) (ha : Hid (a.size = n)) (hb : Hid (b.size = n)) (hn : n ≤ 1099511627776) (w : World) :
    Calls Try.prog 33 #[.string a, .string b] w fun e w' => e = .returned (.tuple #[.string ⟨(xorL a.data.toList b.data.toList).toArray⟩, .int .i64 0]) ∧ Below w.heap.size w w' := by
  obtain ⟨i0, hi, hz0, hz1, hz2⟩ := info_parts info
  have q : ((a.size : Int) != (b.size : Int)) = false := by have := ha.out; have := hb.out; simp only [bne_eq_false_iff_eq]; omega
  have hs : a.size ≤ 1099511627776 := by rw [ha.out]; exact hn
  go_enter Try.func33, Try.ntmps33
  go_wp2_with (at_make; refine wpList_make_row _ rfl _ _ 33 rfl 5 i0 _ Try.underlying33 hi hz0 hz1 rfl _ _ a.size rfl rfl (by rw [hz2]; omega) (by omega) ?_)
  rw [made_zero, up_zero a.size (xv a b)]
  go_loopw [7, 18] (fun i c wr => ∃ j m : Nat, j ≤ a.size ∧ c = .int .i64 (j : Int) ∧ wr = (w.alloc (Obj.cells (byC a.size (up (xv a b) j)) 5)).drewN m) (fun _ c _ => a.size + 1 - (intOf c).toNat)
  case atStart => exact ⟨0, 0, by omega, rfl, rfl⟩
  case round =>
    obtain ⟨j, m, hj, rfl, rfl⟩ := hrel
    have ea := ha.out
    have eb := hb.out
    by_cases hj2 : j < a.size
    · have hjb : j < b.size := by omega
      have h1 : (0 : Int) ≤ (j : Int) := by omega
      have h2 : (j : Int) < (a.size : Int) := by omega
      have h3 : (j : Int) < (b.size : Int) := by omega
      have u1 : bits .xor .u8 (a[j].toNat : Int) (b[j].toNat : Int) = (xv a b j : Int) := by rw [xv_at a b j hj2 hjb]; exact xor8 _ _
      have k1 := byC_get a.size (up (xv a b) j) j hj2
      have HN : Hid ((byC a.size (up (xv a b) j)).setIfInBounds j (.int .u8 ((xv a b j : Nat) : Int)) = byC a.size (up (xv a b) (j + 1))) := up_step a.size (xv a b) j hj2
      clear ea eb ha hb
      go_wp2_with fail
      go_region
      go_wp2
      refine ⟨⟨j + 1, m + 1, by omega, by simp, ?_⟩, by simp only [intOf]; omega⟩
      show ((w.alloc _).setCell _ _).drewN (m + 1) = _
      rw [World.setCell_alloc_at _ _ _ _ _ (by simp), HN.out]
    · obtain rfl : j = a.size := by omega
      have cv := conv_by (P := Try.prog) (src := 33) (dst := 9) (e := 5) (n := a.size) (v := up (xv a b) a.size) (fun i hi => by rw [up, if_pos hi]; exact UInt8.toNat_lt _) Try.underlying33 Try.underlying5 Try.underlying9 (w := (w.alloc (Obj.cells (byC a.size (up (xv a b) a.size)) 5)).drewN m) (h1_0 w (Obj.cells (byC a.size (up (xv a b) a.size)) 5))
      have e1 : (List.range a.size).map (fun i => UInt8.ofNat (up (xv a b) a.size i)) = xorL a.data.toList b.data.toList := by
        rw [← xv_list a b a.size rfl (by omega)]
        apply List.map_congr_left
        intro i hi
        rw [up, if_pos (List.mem_range.1 hi)]
      rw [e1] at cv
      clear ea eb ha hb e1
      go_wp2
      exact bodyPost_ret (v := .tuple #[.string ⟨(xorL a.data.toList b.data.toList).toArray⟩, .int .i64 0]) (by simp [results, Try.results33, go_sem]) rfl ⟨rfl, below_drewN (below_one w _) _⟩
theorem xor_snoc (a b : ByteArray) (k : Nat) (ha : k < a.size) (hb : k < b.size) : bs ((xorL a.data.toList b.data.toList).take (k + 1)) = bs ((xorL a.data.toList b.data.toList).take k) ++ [.int .u8 ((a[k] ^^^ b[k]).toNat : Int)] := by
  have h : k < (xorL a.data.toList b.data.toList).length := by simp [xorL]; exact Nat.lt_min.2 ⟨ha, hb⟩
  rw [List.take_succ_eq_append_getElem h, bs_append]
  congr 1
  simp [xorL, bs]; rfl
def someB (s : ByteArray) (m : Nat) : ByteArray := if m < s.size then s.extract 0 m else s
theorem someB_size (s : ByteArray) (m : Nat) : (someB s m).size ≤ m := by
  unfold someB; split
  · rw [ByteArray.size_extract]; omega
  · omega
end Go.Proofs.Ytciblmdpngnakab.Xo
