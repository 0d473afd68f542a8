/- Xor: the program's and the document's. -/
import Derived.Test.YtdgiekaiagpdjaaCk
import Derived.Deep.OwnRows
namespace Go.Proofs.Ytdgiekaiagpdjaa.Xo
set_option linter.unusedVariables false
open Go.RowKit Pla Cb Tk Wd Nw Bk Aw Eb Et
open Lib0 (bs bs_length bs_append owns_len run_str own_ge below_app ret_str)
def xorL (a b : List UInt8) : List UInt8 := List.zipWith (· ^^^ ·) a b
theorem xorL_len (a b : List UInt8) (h : a.length = b.length) : (xorL a b).length = a.length := by simp [xorL, h]
def xv (a b : ByteArray) (i : Nat) : Nat := ((xorL a.data.toList b.data.toList).getD i 0).toNat
theorem xv_at (a b : ByteArray) (i : Nat) (ha : i < a.size) (hb : i < b.size) : xv a b i = (a[i] ^^^ b[i]).toNat := by
  have h : i < (xorL a.data.toList b.data.toList).length := by simp [xorL]; exact Nat.lt_min.2 ⟨ha, hb⟩
  rw [xv, List.getD_eq_getElem?_getD, List.getElem?_eq_getElem h]
  simp [xorL]; rfl
theorem xor8 (x y : UInt8) : bits .xor .u8 (x.toNat : Int) (y.toNat : Int) = ((x ^^^ y).toNat : Int) := by
  rw [u8_xor_nat _ _ x.toNat_lt y.toNat_lt, UInt8.toNat_xor]
theorem made_zero (n : Nat) : madeCells #[.int .u8 0] n = byC n fun _ => 0 := by
  apply Array.ext_getElem?
  intro i
  by_cases hi : i < n
  · rw [byC_get n _ i hi]; simp [madeCells, hi, Nat.mod_one]
  · rw [Array.getElem?_eq_none (by simp [madeCells]; omega), Array.getElem?_eq_none (by rw [byC_size]; omega)]
theorem xv_list (a b : ByteArray) (n : Nat) (ha : a.size = n) (hb : b.size = n) : (List.range n).map (fun i => UInt8.ofNat (xv a b i)) = xorL a.data.toList b.data.toList := by
  have hl : (xorL a.data.toList b.data.toList).length = n := by simp [xorL]; omega
  apply List.ext_getElem?
  intro i
  by_cases hi : i < n
  · rw [List.getElem?_map, List.getElem?_range hi, List.getElem?_eq_getElem (by rw [hl]; exact hi)]
    simp only [Option.map_some, xv, List.getD_eq_getElem?_getD, List.getElem?_eq_getElem (show i < (xorL a.data.toList b.data.toList).length by rw [hl]; exact hi), Option.getD_some]
    simp
  · rw [List.getElem?_eq_none (by simp; omega), List.getElem?_eq_none (by rw [hl]; omega)]
theorem conv_by {P : Program} {w : World} {src dst e : TypeId} {g n : Nat} {v : Nat → Nat} {t : TypeId} {fr : Nat × Nat} (hv : ∀ i, i < n → v i < 256) (hs : P.underlying src = some (.slice e)) (he : P.underlying e = some (.int .u8)) (hd : P.underlying dst = some .string)
    (hg : w.heap[g]? = some (.cells (byC n v) t fr)) : (convert src dst (.slice (some ⟨g, 0, none⟩) n n)).run P w = .ok (.string ⟨((List.range n).map (fun i => UInt8.ofNat (v i))).toArray⟩) w := by
  have hl : ((List.range n).map (fun i => UInt8.ofNat (v i))).length = n := by simp
  have h := run_convert_bytes_back (P := P) w src dst e ⟨g, 0, none⟩ n ((List.range n).map (fun i => UInt8.ofNat (v i))) hs he hd (fun j hj => by
    rw [hl] at hj
    rw [show (⟨g, 0, none⟩ : Addr).add j = ⟨g, j, none⟩ by unfold Addr.add; split <;> simp_all, cell_of_row w g j _ t fr hg, byC_get _ _ _ hj]
    have := hv j hj
    simp; omega)
  rw [hl] at h
  exact h
theorem xor_snoc (a b : ByteArray) (k : Nat) (ha : k < a.size) (hb : k < b.size) : bs ((xorL a.data.toList b.data.toList).take (k + 1)) = bs ((xorL a.data.toList b.data.toList).take k) ++ [.int .u8 ((a[k] ^^^ b[k]).toNat : Int)] := by
  have h : k < (xorL a.data.toList b.data.toList).length := by simp [xorL]; exact Nat.lt_min.2 ⟨ha, hb⟩
  rw [List.take_succ_eq_append_getElem h, bs_append]
  congr 1
  simp [xorL, bs]; rfl
def someB (s : ByteArray) (m : Nat) : ByteArray := if m < s.size then s.extract 0 m else s
theorem someB_size (s : ByteArray) (m : Nat) : (someB s m).size ≤ m := by
  unfold someB; split
  · rw [ByteArray.size_extract]; omega
  · omega
end Go.Proofs.Ytdgiekaiagpdjaa.Xo
