/- PINs: Block and Open of the program. -/
import Derived.Test.YtciblmdpngnakabPh
namespace Go.Proofs.Ytciblmdpngnakab.Pz
set_option linter.unusedVariables false
set_option linter.unusedSimpArgs false
open Go.RowKit Lib0 Six Pp Pf Pg Ph Cb
theorem zL (B G : Bool) (t : Nat) : (Try.prog.info? 38).map (·.size) = some (#[Value.bool B, Value.bool G, Value.int .u8 (t : Int)] : Array Value).size := by
  show _ = some 3
  kernel_rfl
theorem sum_no (g : Bool) (t : Nat) (b q : ByteArray) (w : World) :
    Calls Try.prog 19 #[.agg #[.bool false, .bool g, .int .u8 (t : Int)], .string b, .string q] w fun e w' => e = .returned (.string b) ∧ Below w.heap.size w w' := by
  go_enter Try.func19, Try.ntmps19
  go_wp2
  go_ret
  exact ⟨rfl, below_one w _⟩
def qX (q : ByteArray) : ByteArray := q.extract (q.size - 1 - 12) (q.size - 1)
theorem qX_list (q : ByteArray) (h : panB q = true) : (qX q).data.toList = (q.data.toList.drop (q.size - 13)).take 12 := by
  have := (panB_iff q).1 h
  unfold qX
  rw [ext_list _ _ _ (by omega), show q.size - 1 - 12 = q.size - 13 by omega, show q.size - 1 - (q.size - 13) = 12 by omega]
theorem two_cells {w : World} {g : Nat} {a b : ByteArray} {t : TypeId} (h : w.heap[g]? = some (.cells #[.string a, .string b] t)) : ∀ (j : Nat) x, [a, b][j]? = some x → w.cell? ⟨g, j, none⟩ = some (.string x) := by
  intro j x hj
  rw [(cell_at h j).1]
  match j, hj with
  | 0, hj => simp at hj; subst hj; rfl
  | 1, hj => simp at hj; subst hj; rfl
  | j + 2, hj => simp at hj
theorem three_cells {w : World} {g : Nat} {a b c : ByteArray} {t : TypeId} (h : w.heap[g]? = some (.cells #[.string a, .string b, .string c] t)) : ∀ (j : Nat) x, [a, b, c][j]? = some x → w.cell? ⟨g, j, none⟩ = some (.string x) := by
  intro j x hj
  rw [(cell_at h j).1]
  match j, hj with
  | 0, hj => simp at hj; subst hj; rfl
  | 1, hj => simp at hj; subst hj; rfl
  | 2, hj => simp at hj; subst hj; rfl
  | j + 3, hj => simp at hj
theorem four_cells {w : World} {g : Nat} {a b c d : ByteArray} {t : TypeId} (h : w.heap[g]? = some (.cells #[.string a, .string b, .string c, .string d] t)) : ∀ (j : Nat) x, [a, b, c, d][j]? = some x → w.cell? ⟨g, j, none⟩ = some (.string x) := by
  intro j x hj
  rw [(cell_at h j).1]
  match j, hj with
  | 0, hj => simp at hj; subst hj; rfl
  | 1, hj => simp at hj; subst hj; rfl
  | 2, hj => simp at hj; subst hj; rfl
  | 3, hj => simp at hj; subst hj; rfl
  | j + 4, hj => simp at hj
theorem cells3 {w : World} {g : Nat} {u v x : Value} {t : TypeId} (h : w.heap[g]? = some (.cells #[u, v, x] t)) : w.cell? ⟨g, 0, none⟩ = some u ∧ w.cell? ⟨g, 1, none⟩ = some v ∧ w.cell? ⟨g, 2, none⟩ = some x := by
  refine ⟨?_, ?_, ?_⟩ <;> (unfold World.cell?; rw [h]; rfl)
def z4 : ByteArray := ⟨#[48, 48, 48, 48]⟩
set_option maxRecDepth 100000 in
set_option maxHeartbeats 1600000 in
theorem sum_yes (g : Bool) (t : Nat) (b q : ByteArray) (hb : Hid (b.size = 8)) (hq : Hid (panB q = true)) (w : World) :
    Calls Try.prog 19 #[.agg #[.bool true, .bool g, .int .u8 (t : Int)], .string b, .string q] w fun e w' => e = .returned (.string ⟨(Xo.xorL b.data.toList (pk (bes q))).toArray⟩) ∧ Below w.heap.size w w' := by
  have hp := (panB_iff q).1 hq.out
  have LE := fun u => left_any q 12 u hp.1 hp.2.1 (by omega)
  rw [show q.extract (q.size - 1 - 12) (q.size - 1) = qX q from rfl] at LE
  have qL := qX_list q hq.out
  have aL : ((q.data.toList.drop (q.size - 13)).take 12).all dg = true := all_sub dg q.data.toList _ _ hp.2.2
  obtain ⟨D, HD⟩ : ∃ D : ByteArray, D.data.toList = [48, 48, 48, 48] ++ (q.data.toList.drop (q.size - 13)).take 12 := ⟨⟨([48, 48, 48, 48] ++ (q.data.toList.drop (q.size - 13)).take 12).toArray⟩, rfl⟩
  have hD : Hid (D.data.toList = ([z4, qX q].map (·.data.toList)).flatten) := (by rw [HD]; simp only [List.map_cons, List.map_nil, List.flatten_cons, List.flatten_nil, List.append_nil, qL]; rfl : D.data.toList = ([z4, qX q].map (·.data.toList)).flatten)
  have hN : Hid (D.size = 2 * 8) := (by rw [← sz, HD, List.length_append, List.length_take, List.length_drop, sz]; simp only [List.length_cons, List.length_nil]; omega : D.size = 2 * 8)
  have h6 : Hid (asx D = true) := (by unfold asx; rw [HD, List.all_append, all_six_dg _ aL]; rfl : asx D = true)
  have eS : svL D.data.toList = bes q := by
    rw [HD]
    simp only [svL, List.map_append]
    rw [show ((q.data.toList.drop (q.size - 13)).take 12).map (fun c => (six c).toNat) = dvL ((q.data.toList.drop (q.size - 13)).take 12) from sv_dv _ aL]
    rfl
  have PA := fun bk c u hc hbk hcs => pack_any [z4, qX q] 2 bk c 8 D hD hN h6 (by decide) rfl hc (by decide) u hbk hcs
  rw [eS] at PA
  obtain ⟨K, HK⟩ : ∃ K : ByteArray, Hid ((⟨(pk (bes q)).toArray⟩ : ByteArray) = K) := ⟨_, rfl⟩
  have kl : K.data.toList = pk (bes q) := by rw [← HK.out]
  have ks : Hid (K.size = 8) := (by rw [← sz, kl, pk_len, bes_len q hq.out] : K.size = 8)
  have XO := fun u => Xo.xor_any b K 8 hb ks (by decide) u
  rw [kl] at XO
  rw [HK.out] at PA
  generalize (⟨(Xo.xorL b.data.toList (pk (bes q))).toArray⟩ : ByteArray) = R at *
  generalize qX q = Q at *
  have B0 := below_one w (.cells #[.bool true, .bool g, .int .u8 (t : Int)] 38)
  clear hp qL aL HD hD hN h6 eS kl ks HK hb hq
  go_enter Try.func19, Try.ntmps19
  go_wp2_with fail
  refine (LE _).mono ?_
  rintro e y ⟨rfl, rfl⟩
  go_wp2_with fail
  have M := h2_1 w (.cells #[.bool true, .bool g, .int .u8 (t : Int)] 38) (.cells #[.string z4, .string Q] 9)
  have B1 := keepB B0 (below_one (w.alloc (.cells #[.bool true, .bool g, .int .u8 (t : Int)] 38)) (.cells #[.string z4, .string Q] 9))
  have PA1 := PA (w.heap.size + 1) 2 _ (by decide) (Array.getElem?_eq_some_iff.1 M).1 (two_cells M)
  refine PA1.mono ?_
  rintro e y ⟨rfl, hy⟩
  go_wp2_with fail
  refine (XO _).mono ?_
  rintro e z ⟨rfl, hz⟩
  go_wp2
  go_ret
  exact ⟨rfl, keepB (keepB B1 hy) hz⟩
set_option maxRecDepth 100000 in
set_option maxHeartbeats 1600000 in
theorem block_none (f : Int) (p q fill : ByteArray) (h0 : (f == 0) = false) (h1 : (f == 1) = false) (h3 : (f == 3) = false) (w : World) :
    Calls Try.prog 12 #[.int .i64 f, .string p, .string q, .string fill] w fun e w' => e = .returned (.tuple #[.string none8, .int .i64 61]) ∧ Below w.heap.size w w' := by
  go_enter Try.func12, Try.ntmps12
  go_wp2_with fail
  refine (layoutN f h0 h1 h3 _).mono ?_
  rintro e y ⟨rfl, hy⟩
  go_wp2
  exact bodyPost_ret (v := .tuple #[.string none8, .int .i64 61]) (by simp [results, Try.results12, go_sem, none8]) rfl ⟨by simp, keepB hy (below_one y _)⟩
end Go.Proofs.Ytciblmdpngnakab.Pz
