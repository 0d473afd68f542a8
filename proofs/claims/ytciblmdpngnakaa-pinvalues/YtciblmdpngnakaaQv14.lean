import Derived.Test.YtciblmdpngnakaaQv13
import Derived.Deep.OwnRows
import Derived.Test.YtciblmdpngnakaaQv05
/- Xor: the program's and the document's. -/
namespace Go.Proofs.Ytciblmdpngnakaa.Xo
set_option linter.unusedVariables false
open Go.RowKit Pla Cb Tk Wd Nw Bk Aw Eb Et
open Lib0 (bs bs_length bs_append owns_len run_str own_ge below_app ret_str)
def xorL (a b : List UInt8) : List UInt8 := List.zipWith (· ^^^ ·) a b
theorem xorL_len (a b : List UInt8) (h : a.length = b.length) : (xorL a b).length = a.length := by simp [xorL, h]
def xv (a b : ByteArray) (i : Nat) : Nat := ((xorL a.data.toList b.data.toList).getD i 0).toNat
theorem xv_at (a b : ByteArray) (i : Nat) (ha : i < a.size) (hb : i < b.size) : xv a b i = (a[i] ^^^ b[i]).toNat := by
  have h : i < (xorL a.data.toList b.data.toList).length := by simp [xorL]; exact Nat.lt_min.2 ⟨ha, hb⟩
  rw [xv, List.getD_eq_getElem?_getD, List.getElem?_eq_getElem h]
  simp [xorL]; rfl
theorem xor8 (x y : UInt8) : bits .xor .u8 (x.toNat : Int) (y.toNat : Int) = ((x ^^^ y).toNat : Int) := by
  rw [u8_xor_nat _ _ x.toNat_lt y.toNat_lt, UInt8.toNat_xor]
theorem made_zero (n : Nat) : madeCells #[.int .u8 0] n = byC n fun _ => 0 := by
  apply Array.ext_getElem?
  intro i
  by_cases hi : i < n
  · rw [byC_get n _ i hi]; simp [madeCells, hi, Nat.mod_one]
  · rw [Array.getElem?_eq_none (by simp [madeCells]; omega), Array.getElem?_eq_none (by rw [byC_size]; omega)]
theorem xv_list (a b : ByteArray) (n : Nat) (ha : a.size = n) (hb : b.size = n) : (List.range n).map (fun i => UInt8.ofNat (xv a b i)) = xorL a.data.toList b.data.toList := by
  have hl : (xorL a.data.toList b.data.toList).length = n := by simp [xorL]; omega
  apply List.ext_getElem?
  intro i
  by_cases hi : i < n
  · rw [List.getElem?_map, List.getElem?_range hi, List.getElem?_eq_getElem (by rw [hl]; exact hi)]
    simp only [Option.map_some, xv, List.getD_eq_getElem?_getD, List.getElem?_eq_getElem (show i < (xorL a.data.toList b.data.toList).length by rw [hl]; exact hi), Option.getD_some]
    simp
  · rw [List.getElem?_eq_none (by simp; omega), List.getElem?_eq_none (by rw [hl]; omega)]
theorem conv_by {P : Program} {w : World} {src dst e : TypeId} {g n : Nat} {v : Nat → Nat} {t : TypeId} {fr : Nat × Nat} (hv : ∀ i, i < n → v i < 256) (hs : P.underlying src = some (.slice e)) (he : P.underlying e = some (.int .u8)) (hd : P.underlying dst = some .string)
    (hg : w.heap[g]? = some (.cells (byC n v) t fr)) : (convert src dst (.slice (some ⟨g, 0, none⟩) n n)).run P w = .ok (.string ⟨((List.range n).map (fun i => UInt8.ofNat (v i))).toArray⟩) w := by
  have hl : ((List.range n).map (fun i => UInt8.ofNat (v i))).length = n := by simp
  have h := run_convert_bytes_back (P := P) w src dst e ⟨g, 0, none⟩ n ((List.range n).map (fun i => UInt8.ofNat (v i))) hs he hd (fun j hj => by
    rw [hl] at hj
    rw [show (⟨g, 0, none⟩ : Addr).add j = ⟨g, j, none⟩ by unfold Addr.add; split <;> simp_all, cell_of_row w g j _ t fr hg, byC_get _ _ _ hj]
    have := hv j hj
    simp; omega)
  rw [hl] at h
  exact h
set_option maxRecDepth 100000 in
set_option maxHeartbeats 1600000 in
theorem xor_bad (a b : ByteArray) (q : ((a.size : Int) != (b.size : Int)) = true) (w : World) :
    Calls Try.prog 60 #[.string a, .string b] w fun e w' => e = .returned (.tuple #[.string ⟨#[]⟩, .int .i64 1]) ∧ w' = w := by
  go_enter Try.func60, Try.ntmps60
  go_wp2
  exact bodyPost_ret (v := .tuple #[.string ⟨#[]⟩, .int .i64 1]) (by simp [results, Try.results60, go_sem]) rfl ⟨rfl, rfl⟩
set_option maxRecDepth 100000 in
set_option maxHeartbeats 1600000 in
theorem xor_any (a b : ByteArray) (n : Nat) (ha : Hid (a.size = n)) (hb : Hid (b.size = n)) (hn : n ≤ 1099511627776) (w : World) :
    Calls Try.prog 60 #[.string a, .string b] w fun e w' => e = .returned (.tuple #[.string ⟨(xorL a.data.toList b.data.toList).toArray⟩, .int .i64 0]) ∧ Below w.heap.size w w' := by
  obtain ⟨i0, hi, hz0, hz1, hz2⟩ := info_parts info
  have q : ((a.size : Int) != (b.size : Int)) = false := by have := ha.out; have := hb.out; simp only [bne_eq_false_iff_eq]; omega
  have hs : a.size ≤ 1099511627776 := by rw [ha.out]; exact hn
  go_enter Try.func60, Try.ntmps60
  go_wp2_with (at_make; refine wpList_make_row _ rfl _ _ 65 rfl 5 i0 _ Try.underlying65 hi hz0 hz1 rfl _ _ a.size rfl rfl (by rw [hz2]; omega) (by omega) ?_)
  rw [made_zero, up_zero a.size (xv a b)]
  go_loopw [7, 18] (fun i c wr => ∃ j m : Nat, j ≤ a.size ∧ c = .int .i64 (j : Int) ∧ wr = (w.alloc (Obj.cells (byC a.size (up (xv a b) j)) 5)).drewN m) (fun _ c _ => a.size + 1 - (intOf c).toNat)
  case atStart => exact ⟨0, 0, by omega, rfl, rfl⟩
  case round =>
    obtain ⟨j, m, hj, rfl, rfl⟩ := hrel
    have ea := ha.out
    have eb := hb.out
    by_cases hj2 : j < a.size
    · have hjb : j < b.size := by omega
      have h1 : (0 : Int) ≤ (j : Int) := by omega
      have h2 : (j : Int) < (a.size : Int) := by omega
      have h3 : (j : Int) < (b.size : Int) := by omega
      have u1 : bits .xor .u8 (a[j].toNat : Int) (b[j].toNat : Int) = (xv a b j : Int) := by rw [xv_at a b j hj2 hjb]; exact xor8 _ _
      have k1 := byC_get a.size (up (xv a b) j) j hj2
      have HN : Hid ((byC a.size (up (xv a b) j)).setIfInBounds j (.int .u8 ((xv a b j : Nat) : Int)) = byC a.size (up (xv a b) (j + 1))) := up_step a.size (xv a b) j hj2
      clear ea eb ha hb
      go_wp2_with fail
      go_region
      go_wp2
      refine ⟨⟨j + 1, m + 1, by omega, by simp, ?_⟩, by simp only [intOf]; omega⟩
      show ((w.alloc _).setCell _ _).drewN (m + 1) = _
      rw [World.setCell_alloc_at _ _ _ _ _ (by simp), HN.out]
    · obtain rfl : j = a.size := by omega
      have cv := conv_by (P := Try.prog) (src := 65) (dst := 9) (e := 5) (n := a.size) (v := up (xv a b) a.size) (fun i hi => by rw [up, if_pos hi]; exact UInt8.toNat_lt _) Try.underlying65 Try.underlying5 Try.underlying9 (w := (w.alloc (Obj.cells (byC a.size (up (xv a b) a.size)) 5)).drewN m) (h1_0 w (Obj.cells (byC a.size (up (xv a b) a.size)) 5))
      have e1 : (List.range a.size).map (fun i => UInt8.ofNat (up (xv a b) a.size i)) = xorL a.data.toList b.data.toList := by
        rw [← xv_list a b a.size rfl (by omega)]
        apply List.map_congr_left
        intro i hi
        rw [up, if_pos (List.mem_range.1 hi)]
      rw [e1] at cv
      clear ea eb ha hb e1
      go_wp2
      exact bodyPost_ret (v := .tuple #[.string ⟨(xorL a.data.toList b.data.toList).toArray⟩, .int .i64 0]) (by simp [results, Try.results60, go_sem]) rfl ⟨rfl, below_drewN (below_one w _) _⟩
theorem xor_snoc (a b : ByteArray) (k : Nat) (ha : k < a.size) (hb : k < b.size) : bs ((xorL a.data.toList b.data.toList).take (k + 1)) = bs ((xorL a.data.toList b.data.toList).take k) ++ [.int .u8 ((a[k] ^^^ b[k]).toNat : Int)] := by
  have h : k < (xorL a.data.toList b.data.toList).length := by simp [xorL]; exact Nat.lt_min.2 ⟨ha, hb⟩
  rw [List.take_succ_eq_append_getElem h, bs_append]
  congr 1
  simp [xorL, bs]; rfl
def someB (s : ByteArray) (m : Nat) : ByteArray := if m < s.size then s.extract 0 m else s
theorem someB_size (s : ByteArray) (m : Nat) : (someB s m).size ≤ m := by
  unfold someB; split
  · rw [ByteArray.size_extract]; omega
  · omega
end Go.Proofs.Ytciblmdpngnakaa.Xo
/- PINs: sixteenths put together. -/
namespace Go.Proofs.Ytciblmdpngnakaa.Ph
set_option linter.unusedVariables false
open Go.RowKit Lib0 Six Pp Pf Pg Cb
open Tk (up up_zero up_step)
theorem inter_nil : ∀ xs : List (List UInt8), Lib.join xs [] = xs.flatten
  | [] => rfl
  | [a] => by simp [Lib.join, List.intercalate, List.intersperse]
  | a :: b :: l => by
    have ih := inter_nil (b :: l)
    simp only [Lib.join, List.intercalate, List.intersperse, List.flatten_cons, List.nil_append] at *
    rw [ih]
/-- the byte at a place -/
def pv (D : ByteArray) (i : Nat) : Nat := 16 * (six (D.data.toList.getD (2 * i) 0)).toNat + (six (D.data.toList.getD (2 * i + 1) 0)).toNat
theorem gb_eq (s : ByteArray) (k : Nat) (h : k < s.size) : s[k] = s.data.toList.getD k 0 := by
  have h' : k < s.data.toList.length := h
  rw [List.getD_eq_getElem?_getD, List.getElem?_eq_getElem h']; rfl
theorem pv_lt (D : ByteArray) (i : Nat) : pv D i < 256 := by
  have h1 := (six_bd (D.data.toList.getD (2 * i) 0)).2
  have h2 := (six_bd (D.data.toList.getD (2 * i + 1) 0)).2
  unfold pv; omega
theorem pv_list : ∀ (N : Nat) (l : List UInt8), l.length = 2 * N → (List.range N).map (fun i => UInt8.ofNat (16 * (six (l.getD (2 * i) 0)).toNat + (six (l.getD (2 * i + 1) 0)).toNat)) = pk (svL l)
  | 0, l, h => by
    have : l = [] := List.length_eq_zero_iff.1 (by omega)
    subst this; rfl
  | N + 1, [], h => by simp at h
  | N + 1, [a], h => by simp only [List.length_cons, List.length_nil] at h; omega
  | N + 1, a :: b :: l, h => by
    have ih := pv_list N l (by simp only [List.length_cons] at h; omega)
    rw [List.range_succ_eq_map, List.map_cons, List.map_map]
    simp only [svL, List.map_cons, pk] at *
    rw [← ih]
    rfl
theorem or16i (p q : Nat) (hp : p < 16) (hq : q < 16) : bits .or .i64 ((p : Int) * 16) (q : Int) = ((16 * p + q : Nat) : Int) := by
  have : ∀ a b : Fin 16, bits .or .i64 ((a.val : Int) * 16) (b.val : Int) = ((16 * a.val + b.val : Nat) : Int) := by decide +kernel
  exact this ⟨p, hp⟩ ⟨q, hq⟩
theorem cell_at {w : World} {g : Nat} {c : Array Value} {t : TypeId} (h : w.heap[g]? = some (.cells c t)) (j : Nat) : w.cell? ⟨g, j, none⟩ = c[j]? ∧ w.frozen? ⟨g, j, none⟩ = false := by
  constructor <;> simp [World.cell?, World.frozen?, h]
theorem set_at {w : World} {g : Nat} {c : Array Value} {t : TypeId} {fr : Nat × Nat} (h : w.heap[g]? = some (.cells c t fr)) (j : Nat) (v : Value) : (w.setCell ⟨g, j, none⟩ v).heap[g]? = some (.cells (c.setIfInBounds j v) t fr) := by
  simp [World.setCell, Array.getElem?_modify, h]
set_option maxRecDepth 100000 in
set_option maxHeartbeats 1600000 in
theorem pack_any (xs : List ByteArray) (n bk c N : Nat) (D : ByteArray) (hD : Hid (D.data.toList = (xs.map (·.data.toList)).flatten)) (hN : Hid (D.size = 2 * N)) (h6 : Hid (asx D = true)) (h100 : N ≤ 100) (hn : xs.length = n) (hc : n ≤ c) (hn1 : n ≤ 100)
    (w : World) (hbk : bk < w.heap.size) (hcells : ∀ (j : Nat) x, xs[j]? = some x → w.cell? ⟨bk, j, none⟩ = some (.string x)) :
    Calls Try.prog 28 #[.slice (some ⟨bk, 0, none⟩) n c] w fun e w' => e = .returned (.string ⟨(pk (svL D.data.toList)).toArray⟩) ∧ Below w.heap.size w w' := by
  obtain ⟨i0, hi, hz0, hz1, hz2⟩ := info_parts Pg.info
  have eJ : (⟨(Lib.join (xs.map (·.data.toList)) (ByteArray.mk #[]).data.toList).toArray⟩ : ByteArray) = D := ba_ext (by rw [hD.out]; exact inter_nil _)
  have J := Try.strings_Join bk 0 c xs ⟨#[]⟩ w (fun j x h => by rw [Nat.zero_add]; exact hcells j x h) hbk (by omega) (by omega)
    (by have := congrArg (fun s => s.data.toList.length) eJ; simp only [sz] at this; rw [show (Lib.join (xs.map (·.data.toList)) (ByteArray.mk #[]).data.toList).length = D.size from this, hN.out]; omega)
  rw [eJ, hn] at J
  have A6 := List.all_eq_true.1 h6.out
  have HZ : Hid (∀ i, i < D.size → ∃ p : Nat, p < 16 ∧ six (D.data.toList.getD i 0) = (p : Int)) := (fun i hi => by
    have hm : D.data.toList.getD i 0 ∈ D.data.toList := by rw [← gb_eq D i hi]; exact List.getElem_mem (show i < D.data.toList.length from hi)
    have h0 := A6 _ hm
    unfold isSix at h0
    rw [decide_eq_true_eq] at h0
    have h1 := (six_bd (D.data.toList.getD i 0)).2
    exact ⟨(six (D.data.toList.getD i 0)).toNat, by omega, by omega⟩ : ∀ i, i < D.size → ∃ p : Nat, p < 16 ∧ six (D.data.toList.getD i 0) = (p : Int))
  have q1 : (D.size : Int) / 2 = (N : Int) := by have := hN.out; omega
  have q2 : Int.tdiv (D.size : Int) 2 = (N : Int) := by rw [Int.tdiv_eq_ediv_of_nonneg (by omega), q1]
  clear A6 eJ hcells hD
  go_enter Try.func28, Try.ntmps28
  go_wp2_with fail
  refine J.mono ?_
  rintro e y ⟨rfl, hy⟩
  clear J
  go_wp2_with (at_make; refine wpList_make_row _ rfl _ _ 65 rfl 5 i0 _ Try.underlying65 hi hz0 hz1 rfl _ _ N rfl rfl (by rw [hz2]; omega) (by omega) ?_)
  rw [Xo.made_zero, up_zero N (pv D)]
  have B0 := below_one y (Obj.cells (byC N (up (pv D) 0)) 5)
  have M0 := h1_0 y (Obj.cells (byC N (up (pv D) 0)) 5)
  generalize y.alloc (Obj.cells (byC N (up (pv D) 0)) 5) = y0 at *
  obtain ⟨G, HG⟩ : ∃ G, Hid (y.heap.size = G) := ⟨_, rfl⟩
  rw [HG.out] at B0 M0 ⊢
  go_loopw [5, 14] (fun i c wr => ∃ j : Nat, j ≤ N ∧ c = .int .i64 (j : Int) ∧ wr.heap[G]? = some (Obj.cells (byC N (up (pv D) j)) 5) ∧ Below G y wr) (fun _ c _ => N + 1 - (intOf c).toNat)
  case atStart => exact ⟨0, by omega, rfl, M0, B0⟩
  case round =>
    obtain ⟨j, hj, rfl, M, hb⟩ := hrel
    by_cases hlt : j < N
    · have eN := hN.out
      have h1 : (0 : Int) ≤ (j : Int) := by omega
      have h2 : (j : Int) < (N : Int) := by omega
      have h2' : (j : Int) < 100 := by omega
      obtain ⟨k, Hk⟩ : ∃ k : Nat, Hid (2 * j = k) := ⟨_, rfl⟩
      obtain ⟨l, Hl⟩ : ∃ l : Nat, Hid (2 * j + 1 = l) := ⟨_, rfl⟩
      have ek := Hk.out
      have el := Hl.out
      have m1 : k < D.size := by omega
      have m2 : l < D.size := by omega
      have h3 : (k : Int) < (D.size : Int) := by omega
      have h4 : (l : Int) < (D.size : Int) := by omega
      have h5 : (0 : Int) ≤ (k : Int) := by omega
      have h5' : (0 : Int) ≤ (l : Int) := by omega
      have e1 : IntKind.i64.wrap (2 * (j : Int)) = (k : Int) := by rw [IntKind.wrap_i64]; omega
      have e2 : IntKind.i64.wrap ((k : Int) + 1) = (l : Int) := by rw [IntKind.wrap_i64]; omega
      obtain ⟨p, hp, P1⟩ := HZ.out k m1
      obtain ⟨q, hq, Q1⟩ := HZ.out l m2
      have W1 := fun u => worth_any (D[k]'m1) u
      have W2 := fun u => worth_any (D[l]'m2) u
      rw [gb_eq D k m1, P1] at W1
      rw [gb_eq D l m2, Q1] at W2
      have HV : Hid (pv D j = 16 * p + q) := (by unfold pv; rw [el, ek, P1, Q1]; rfl : pv D j = 16 * p + q)
      obtain ⟨V, HVV⟩ : ∃ V : Nat, Hid (16 * p + q = V) := ⟨_, rfl⟩
      have u0 : IntKind.i64.wrap ((p : Int) * 16) = (p : Int) * 16 := by rw [IntKind.wrap_i64]; omega
      have u1 := or16i p q hp hq
      rw [HVV.out] at u1
      rw [HVV.out] at HV
      have u2 : (p : Int) < 16 := by omega
      have u3 : (0 : Int) ≤ (p : Int) := by omega
      have u4 : (q : Int) < 16 := by omega
      have u5 : (0 : Int) ≤ (q : Int) := by omega
      have u6 : IntKind.u8.wrap (V : Int) = (V : Int) := by have := HVV.out; rw [wrap_u8 _ (by omega) (by omega)]
      have k1 := byC_get N (up (pv D) j) j hlt
      have HN : Hid ((byC N (up (pv D) j)).setIfInBounds j (.int .u8 (V : Int)) = byC N (up (pv D) (j + 1))) := (by rw [← HV.out]; exact up_step N (pv D) j hlt : (byC N (up (pv D) j)).setIfInBounds j (.int .u8 (V : Int)) = byC N (up (pv D) (j + 1)))
      rw [← gb_eq D k m1] at W1
      rw [← gb_eq D l m2] at W2
      clear HZ hN h6 eN ek el P1 Q1
      go_wp2_with fail
      refine Qt.region_tail 17 0 (C := Qv.Cl wr) (by kernel_rfl) rfl (by kernel_rfl) (by kernel_rfl) (by kernel_rfl) ((Below.refl _ _).drew) ?_
      repeat (refine wpQuiet_step (fun K hK => ?_); first
        | (go_simp; refine hK _ ?_; clear hK K)
        | (go_simp; refine ⟨_, fun _ _ => rfl, hK _ ?_⟩; clear hK K)
        | (go_simp; refine ⟨_, fun _ _ => ⟨rfl, rfl⟩, hK _ ?_⟩; clear hK K)
        | (go_simp; apply Exists.intro; refine ⟨fun y hy => ?_, hK _ ?_⟩; (first | (go_at_call 58; exact Qv.cl_same hy (W1 y)) | (go_at_call 58; exact Qv.cl_same hy (W2 y))); clear hK K))
      refine wpQuiet_nil ?_
      intro z hz
      have M2 := kept hz M
      have b2 : Below G y z := hb.trans (hz.mono (by have := (Array.getElem?_eq_some_iff.1 M).1; omega))
      obtain ⟨f1, f2⟩ := cell_at M2 j
      rw [k1] at f1
      go_wp2
      go_roundw
      case rel => exact ⟨j + 1, by omega, by go_num, by rw [← HN.out]; exact set_at M2 j _, b2.setCell (Nat.le_refl _) _⟩
      case measure => simp [intOf]; omega
    · obtain rfl : j = N := by omega
      have cv := Xo.conv_by (P := Try.prog) (src := 65) (dst := 9) (e := 5) (n := j) (v := up (pv D) j) (fun i hi => by rw [up, if_pos hi]; exact pv_lt D i) Try.underlying65 Try.underlying5 Try.underlying9 (w := wr) M
      have e1 : (List.range j).map (fun i => UInt8.ofNat (up (pv D) j i)) = pk (svL D.data.toList) := by
        rw [← pv_list j D.data.toList (by rw [sz, hN.out])]
        apply List.map_congr_left
        intro i hi
        rw [up, if_pos (List.mem_range.1 hi)]; rfl
      rw [e1] at cv
      have B := hy.trans (hb.mono (by rw [← HG.out]; exact hy.size))
      clear hN h6 e1 HZ hb hy HG
      go_wp2
      go_ret
      exact ⟨rfl, B⟩
end Go.Proofs.Ytciblmdpngnakaa.Ph
