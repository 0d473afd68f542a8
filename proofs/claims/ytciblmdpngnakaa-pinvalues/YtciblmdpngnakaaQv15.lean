import Derived.Test.YtciblmdpngnakaaQv14
/- PINs: Block and Open of the program. -/
namespace Go.Proofs.Ytciblmdpngnakaa.Pz
set_option linter.unusedVariables false
set_option linter.unusedSimpArgs false
open Go.RowKit Lib0 Six Pp Pf Pg Ph Cb
theorem zL (B G : Bool) (t : Nat) : (Try.prog.info? 48).map (·.size) = some (#[Value.bool B, Value.bool G, Value.int .u8 (t : Int)] : Array Value).size := by
  show _ = some 3
  kernel_rfl
theorem sum_no (g : Bool) (t : Nat) (b q : ByteArray) (w : World) :
    Calls Try.prog 31 #[.agg #[.bool false, .bool g, .int .u8 (t : Int)], .string b, .string q] w fun e w' => e = .returned (.string b) ∧ Below w.heap.size w w' := by
  go_enter Try.func31, Try.ntmps31
  go_wp2
  go_ret
  exact ⟨rfl, below_one w _⟩
def qX (q : ByteArray) : ByteArray := q.extract (q.size - 1 - 12) (q.size - 1)
theorem qX_list (q : ByteArray) (h : panB q = true) : (qX q).data.toList = (q.data.toList.drop (q.size - 13)).take 12 := by
  have := (panB_iff q).1 h
  unfold qX
  rw [ext_list _ _ _ (by omega), show q.size - 1 - 12 = q.size - 13 by omega, show q.size - 1 - (q.size - 13) = 12 by omega]
theorem two_cells {w : World} {g : Nat} {a b : ByteArray} {t : TypeId} (h : w.heap[g]? = some (.cells #[.string a, .string b] t)) : ∀ (j : Nat) x, [a, b][j]? = some x → w.cell? ⟨g, j, none⟩ = some (.string x) := by
  intro j x hj
  rw [(cell_at h j).1]
  match j, hj with
  | 0, hj => simp at hj; subst hj; rfl
  | 1, hj => simp at hj; subst hj; rfl
  | j + 2, hj => simp at hj
theorem three_cells {w : World} {g : Nat} {a b c : ByteArray} {t : TypeId} (h : w.heap[g]? = some (.cells #[.string a, .string b, .string c] t)) : ∀ (j : Nat) x, [a, b, c][j]? = some x → w.cell? ⟨g, j, none⟩ = some (.string x) := by
  intro j x hj
  rw [(cell_at h j).1]
  match j, hj with
  | 0, hj => simp at hj; subst hj; rfl
  | 1, hj => simp at hj; subst hj; rfl
  | 2, hj => simp at hj; subst hj; rfl
  | j + 3, hj => simp at hj
theorem four_cells {w : World} {g : Nat} {a b c d : ByteArray} {t : TypeId} (h : w.heap[g]? = some (.cells #[.string a, .string b, .string c, .string d] t)) : ∀ (j : Nat) x, [a, b, c, d][j]? = some x → w.cell? ⟨g, j, none⟩ = some (.string x) := by
  intro j x hj
  rw [(cell_at h j).1]
  match j, hj with
  | 0, hj => simp at hj; subst hj; rfl
  | 1, hj => simp at hj; subst hj; rfl
  | 2, hj => simp at hj; subst hj; rfl
  | 3, hj => simp at hj; subst hj; rfl
  | j + 4, hj => simp at hj
theorem cells3 {w : World} {g : Nat} {u v x : Value} {t : TypeId} (h : w.heap[g]? = some (.cells #[u, v, x] t)) : w.cell? ⟨g, 0, none⟩ = some u ∧ w.cell? ⟨g, 1, none⟩ = some v ∧ w.cell? ⟨g, 2, none⟩ = some x := by
  refine ⟨?_, ?_, ?_⟩ <;> (unfold World.cell?; rw [h]; rfl)
def z4 : ByteArray := ⟨#[48, 48, 48, 48]⟩
set_option maxRecDepth 100000 in
set_option maxHeartbeats 1600000 in
theorem sum_yes (g : Bool) (t : Nat) (b q : ByteArray) (hb : Hid (b.size = 8)) (hq : Hid (panB q = true)) (w : World) :
    Calls Try.prog 31 #[.agg #[.bool true, .bool g, .int .u8 (t : Int)], .string b, .string q] w fun e w' => e = .returned (.string ⟨(Xo.xorL b.data.toList (pk (bes q))).toArray⟩) ∧ Below w.heap.size w w' := by
  have hp := (panB_iff q).1 hq.out
  have LE := fun u => left_any q 12 u hp.1 hp.2.1 (by omega)
  rw [show q.extract (q.size - 1 - 12) (q.size - 1) = qX q from rfl] at LE
  have qL := qX_list q hq.out
  have aL : ((q.data.toList.drop (q.size - 13)).take 12).all dg = true := all_sub dg q.data.toList _ _ hp.2.2
  obtain ⟨D, HD⟩ : ∃ D : ByteArray, D.data.toList = [48, 48, 48, 48] ++ (q.data.toList.drop (q.size - 13)).take 12 := ⟨⟨([48, 48, 48, 48] ++ (q.data.toList.drop (q.size - 13)).take 12).toArray⟩, rfl⟩
  have hD : Hid (D.data.toList = ([z4, qX q].map (·.data.toList)).flatten) := (by rw [HD]; simp only [List.map_cons, List.map_nil, List.flatten_cons, List.flatten_nil, List.append_nil, qL]; rfl : D.data.toList = ([z4, qX q].map (·.data.toList)).flatten)
  have hN : Hid (D.size = 2 * 8) := (by rw [← sz, HD, List.length_append, List.length_take, List.length_drop, sz]; simp only [List.length_cons, List.length_nil]; omega : D.size = 2 * 8)
  have h6 : Hid (asx D = true) := (by unfold asx; rw [HD, List.all_append, all_six_dg _ aL]; rfl : asx D = true)
  have eS : svL D.data.toList = bes q := by
    rw [HD]
    simp only [svL, List.map_append]
    rw [show ((q.data.toList.drop (q.size - 13)).take 12).map (fun c => (six c).toNat) = dvL ((q.data.toList.drop (q.size - 13)).take 12) from sv_dv _ aL]
    rfl
  have PA := fun bk c u hc hbk hcs => pack_any [z4, qX q] 2 bk c 8 D hD hN h6 (by decide) rfl hc (by decide) u hbk hcs
  rw [eS] at PA
  obtain ⟨K, HK⟩ : ∃ K : ByteArray, Hid ((⟨(pk (bes q)).toArray⟩ : ByteArray) = K) := ⟨_, rfl⟩
  have kl : K.data.toList = pk (bes q) := by rw [← HK.out]
  have ks : Hid (K.size = 8) := (by rw [← sz, kl, pk_len, bes_len q hq.out] : K.size = 8)
  have XO := fun u => Xo.xor_any b K 8 hb ks (by decide) u
  rw [kl] at XO
  rw [HK.out] at PA
  generalize (⟨(Xo.xorL b.data.toList (pk (bes q))).toArray⟩ : ByteArray) = R at *
  generalize qX q = Q at *
  have B0 := below_one w (.cells #[.bool true, .bool g, .int .u8 (t : Int)] 48)
  clear hp qL aL HD hD hN h6 eS kl ks HK hb hq
  go_enter Try.func31, Try.ntmps31
  go_wp2_with fail
  refine (LE _).mono ?_
  rintro e y ⟨rfl, rfl⟩
  go_wp2_with fail
  have M := h2_1 w (.cells #[.bool true, .bool g, .int .u8 (t : Int)] 48) (.cells #[.string z4, .string Q] 9)
  have B1 := keepB B0 (below_one (w.alloc (.cells #[.bool true, .bool g, .int .u8 (t : Int)] 48)) (.cells #[.string z4, .string Q] 9))
  have PA1 := PA (w.heap.size + 1) 2 _ (by decide) (Array.getElem?_eq_some_iff.1 M).1 (two_cells M)
  refine PA1.mono ?_
  rintro e y ⟨rfl, hy⟩
  go_wp2_with fail
  refine (XO _).mono ?_
  rintro e z ⟨rfl, hz⟩
  go_wp2
  go_ret
  exact ⟨rfl, keepB (keepB B1 hy) hz⟩
set_option maxRecDepth 100000 in
set_option maxHeartbeats 1600000 in
theorem block_none (f : Int) (p q fill : ByteArray) (h0 : (f == 0) = false) (h1 : (f == 1) = false) (h3 : (f == 3) = false) (w : World) :
    Calls Try.prog 8 #[.int .i64 f, .string p, .string q, .string fill] w fun e w' => e = .returned (.tuple #[.string none8, .int .i64 61]) ∧ Below w.heap.size w w' := by
  go_enter Try.func8, Try.ntmps8
  go_wp2_with fail
  refine (layoutN f h0 h1 h3 _).mono ?_
  rintro e y ⟨rfl, hy⟩
  go_wp2
  exact bodyPost_ret (v := .tuple #[.string none8, .int .i64 61]) (by simp [results, Try.results8, go_sem, none8]) rfl ⟨by simp, keepB hy (below_one y _)⟩
end Go.Proofs.Ytciblmdpngnakaa.Pz
/- PINs: Block of the program. -/
namespace Go.Proofs.Ytciblmdpngnakaa.Pj
set_option linter.unusedVariables false
set_option linter.unusedSimpArgs false
open Go.RowKit Lib0 Six Pp Pf Pg Ph Pz Cb
set_option maxRecDepth 100000 in
set_option maxHeartbeats 1600000 in
theorem block_pin (f : Int) (Bd G : Bool) (t : Nat) (p q fill : ByteArray) (LA : ∀ u, Calls Try.prog 24 #[.int .i64 f] u fun e w' => e = .returned (.tuple #[.agg #[.bool Bd, .bool G, .int .u8 (t : Int)], .bool true]) ∧ Below u.heap.size u w') (sp : p.size ≤ maxLen) (hp : pinB p = false) (w : World) :
    Calls Try.prog 8 #[.int .i64 f, .string p, .string q, .string fill] w fun e w' => e = .returned (.tuple #[.string none8, .int .i64 60]) ∧ Below w.heap.size w w' := by
  have IP := fun u => isPIN_any p u sp
  rw [hp] at IP
  clear hp
  go_enter Try.func8, Try.ntmps8
  go_wp2_with fail
  refine (LA _).mono ?_
  rintro e y ⟨rfl, hy⟩
  have B1 := keepB hy (below_one y (.cells #[.bool Bd, .bool G, .int .u8 (t : Int)] 48))
  have M1 := h1_0 y (.cells #[.bool Bd, .bool G, .int .u8 (t : Int)] 48)
  clear hy LA
  go_wp2_with fail
  generalize y.alloc (.cells #[.bool Bd, .bool G, .int .u8 (t : Int)] 48) = y1 at *
  generalize y.heap.size = L at *
  clear y
  refine (IP _).mono ?_
  rintro e u ⟨rfl, rfl⟩
  obtain ⟨c0, c1, c2⟩ := cells3 M1
  go_wp2
  exact bodyPost_ret (v := .tuple #[.string none8, .int .i64 60]) (by simp [results, Try.results8, go_sem, none8]) rfl ⟨by simp, B1⟩
set_option maxRecDepth 100000 in
set_option maxHeartbeats 1600000 in
theorem block_pan (f : Int) (G : Bool) (t : Nat) (p q fill : ByteArray) (LA : ∀ u, Calls Try.prog 24 #[.int .i64 f] u fun e w' => e = .returned (.tuple #[.agg #[.bool true, .bool G, .int .u8 (t : Int)], .bool true]) ∧ Below u.heap.size u w') (sp : p.size ≤ maxLen) (sq : q.size ≤ maxLen) (hp : pinB p = true) (hq : panB q = false) (w : World) :
    Calls Try.prog 8 #[.int .i64 f, .string p, .string q, .string fill] w fun e w' => e = .returned (.tuple #[.string none8, .int .i64 50]) ∧ Below w.heap.size w w' := by
  have IP := fun u => isPIN_any p u sp
  have IQ := fun u => isPAN_any q u sq
  rw [hp] at IP
  rw [hq] at IQ
  clear hp hq
  go_enter Try.func8, Try.ntmps8
  go_wp2_with fail
  refine (LA _).mono ?_
  rintro e y ⟨rfl, hy⟩
  have B1 := keepB hy (below_one y (.cells #[.bool true, .bool G, .int .u8 (t : Int)] 48))
  have M1 := h1_0 y (.cells #[.bool true, .bool G, .int .u8 (t : Int)] 48)
  clear hy LA
  go_wp2_with fail
  generalize y.alloc (.cells #[.bool true, .bool G, .int .u8 (t : Int)] 48) = y1 at *
  generalize y.heap.size = L at *
  clear y
  refine (IP _).mono ?_
  rintro e u ⟨rfl, rfl⟩
  obtain ⟨c0, c1, c2⟩ := cells3 M1
  go_wp2_with fail
  refine (IQ _).mono ?_
  rintro e u ⟨rfl, rfl⟩
  go_wp2
  exact bodyPost_ret (v := .tuple #[.string none8, .int .i64 50]) (by simp [results, Try.results8, go_sem, none8]) rfl ⟨by simp, B1⟩
set_option maxRecDepth 100000 in
set_option maxHeartbeats 1600000 in
theorem block_fill_true (f : Int) (G : Bool) (t k : Nat) (p q fill : ByteArray) (LA : ∀ u, Calls Try.prog 24 #[.int .i64 f] u fun e w' => e = .returned (.tuple #[.agg #[.bool true, .bool G, .int .u8 (t : Int)], .bool true]) ∧ Below u.heap.size u w') (sp : p.size ≤ maxLen) (sq : q.size ≤ maxLen) (hp : pinB p = true) (hq : panB q = true) (hk : Hid (p.size + k = 14))
    (TA : ∀ u, Calls Try.prog 27 #[.agg #[.bool true, .bool G, .int .u8 (t : Int)], .string fill, .int .i64 (k : Int)] u fun e w' => e = .returned (.bool false) ∧ Below u.heap.size u w') (w : World) :
    Calls Try.prog 8 #[.int .i64 f, .string p, .string q, .string fill] w fun e w' => e = .returned (.tuple #[.string none8, .int .i64 62]) ∧ Below w.heap.size w w' := by
  have IP := fun u => isPIN_any p u sp
  have IQ := fun u => isPAN_any q u sq
  rw [hp] at IP
  rw [hq] at IQ
  have ek : IntKind.i64.wrap (14 - (p.size : Int)) = (k : Int) := by have := hk.out; rw [IntKind.wrap_i64]; omega
  clear hp hq
  go_enter Try.func8, Try.ntmps8
  go_wp2_with fail
  refine (LA _).mono ?_
  rintro e y ⟨rfl, hy⟩
  have B1 := keepB hy (below_one y (.cells #[.bool true, .bool G, .int .u8 (t : Int)] 48))
  have M1 := h1_0 y (.cells #[.bool true, .bool G, .int .u8 (t : Int)] 48)
  clear hy LA
  go_wp2_with fail
  generalize y.alloc (.cells #[.bool true, .bool G, .int .u8 (t : Int)] 48) = y1 at *
  generalize y.heap.size = L at *
  clear y
  refine (IP _).mono ?_
  rintro e u ⟨rfl, rfl⟩
  obtain ⟨c0, c1, c2⟩ := cells3 M1
  go_wp2_with fail
  refine (IQ _).mono ?_
  rintro e u ⟨rfl, rfl⟩
  go_wp2_with fail
  refine (TA _).mono ?_
  rintro e z ⟨rfl, hz⟩
  go_wp2
  exact bodyPost_ret (v := .tuple #[.string none8, .int .i64 62]) (by simp [results, Try.results8, go_sem, none8]) rfl ⟨by simp, keepB B1 hz⟩
set_option maxRecDepth 100000 in
set_option maxHeartbeats 1600000 in
theorem block_good_true (F : Nat) (hF : F < 16) (G : Bool) (t k : Nat) (p q fill FL X R : ByteArray) (LA : ∀ u, Calls Try.prog 24 #[.int .i64 (F : Int)] u fun e w' => e = .returned (.tuple #[.agg #[.bool true, .bool G, .int .u8 (t : Int)], .bool true]) ∧ Below u.heap.size u w') (sp : p.size ≤ maxLen) (sq : q.size ≤ maxLen) (hp : pinB p = true) (hq : panB q = true) (hk : Hid (p.size + k = 14))
    (TA : ∀ u, Calls Try.prog 27 #[.agg #[.bool true, .bool G, .int .u8 (t : Int)], .string fill, .int .i64 (k : Int)] u fun e w' => e = .returned (.bool true) ∧ Below u.heap.size u w')
    (FI : ∀ u, Calls Try.prog 30 #[.agg #[.bool true, .bool G, .int .u8 (t : Int)], .string fill, .int .i64 (k : Int)] u fun e w' => e = .returned (.string FL) ∧ Below u.heap.size u w')
    (PA : ∀ bk u, bk < u.heap.size → (∀ (j : Nat) x, [⟨#[hx F]⟩, ⟨#[hx p.size]⟩, p, FL][j]? = some x → u.cell? ⟨bk, j, none⟩ = some (.string x)) → Calls Try.prog 28 #[.slice (some ⟨bk, 0, none⟩) 4 4] u fun e w' => e = .returned (.string X) ∧ Below u.heap.size u w')
    (SU : ∀ u, Calls Try.prog 31 #[.agg #[.bool true, .bool G, .int .u8 (t : Int)], .string X, .string q] u fun e w' => e = .returned (.string R) ∧ Below u.heap.size u w') (w : World) :
    Calls Try.prog 8 #[.int .i64 (F : Int), .string p, .string q, .string fill] w fun e w' => e = .returned (.tuple #[.string R, .int .i64 0]) ∧ Below w.heap.size w w' := by
  have IP := fun u => isPIN_any p u sp
  have IQ := fun u => isPAN_any q u sq
  have p16 : p.size < 16 := by have := hk.out; omega
  have S1 := fun u => sixteenth_any F hF u
  have S2 := fun u => sixteenth_any p.size p16 u
  rw [hp] at IP
  rw [hq] at IQ
  have ek : IntKind.i64.wrap (14 - (p.size : Int)) = (k : Int) := by have := hk.out; rw [IntKind.wrap_i64]; omega
  clear hp hq
  obtain ⟨H1, HH1⟩ : ∃ H1 : ByteArray, Hid (⟨#[hx F]⟩ = H1) := ⟨_, rfl⟩
  obtain ⟨H2, HH2⟩ : ∃ H2 : ByteArray, Hid (⟨#[hx p.size]⟩ = H2) := ⟨_, rfl⟩
  rw [HH1.out] at S1 PA
  rw [HH2.out] at S2 PA
  go_enter Try.func8, Try.ntmps8
  go_wp2_with fail
  refine (LA _).mono ?_
  rintro e y ⟨rfl, hy⟩
  have B1 := keepB hy (below_one y (.cells #[.bool true, .bool G, .int .u8 (t : Int)] 48))
  have M1 := h1_0 y (.cells #[.bool true, .bool G, .int .u8 (t : Int)] 48)
  clear hy LA
  go_wp2_with fail
  generalize y.alloc (.cells #[.bool true, .bool G, .int .u8 (t : Int)] 48) = y1 at *
  generalize y.heap.size = L at *
  clear y
  refine (IP _).mono ?_
  rintro e u ⟨rfl, rfl⟩
  obtain ⟨c0, c1, c2⟩ := cells3 M1
  go_wp2_with fail
  refine (IQ _).mono ?_
  rintro e u ⟨rfl, rfl⟩
  go_wp2_with fail
  refine (TA _).mono ?_
  rintro e z ⟨rfl, hz⟩
  have M2 := kept hz M1
  have B2 := keepB B1 hz
  clear hz M1 B1 c0 c1 c2 TA IP IQ
  go_wp2_with fail
  refine Qt.region_tail 12 2 (C := Qv.Cl z) (by kernel_rfl) rfl (by kernel_rfl) (by kernel_rfl) (by kernel_rfl) ((Below.refl _ _).drew) ?_
  repeat (refine wpQuiet_step (fun K hK => ?_); first
    | (go_simp; refine hK _ ?_; clear hK K)
    | (go_simp; refine ⟨_, fun _ _ => rfl, hK _ ?_⟩; clear hK K)
    | (go_simp; refine ⟨_, fun _ _ => ⟨rfl, rfl⟩, hK _ ?_⟩; clear hK K)
    | (refine Qv.q_row (by rfl) 48 _ rfl L rfl _ _ _ _ M2 Try.underlying48 rfl (zL _ _ _) (hK _ ?_); clear hK K)
    | (go_simp; apply Exists.intro; refine ⟨fun y hy => ?_, hK _ ?_⟩; (first | (go_at_call 29; exact Qv.cl_same hy (S1 y)) | (go_at_call 29; exact Qv.cl_same hy (S2 y)) | (go_at_call 30; exact Qv.cl_of hy (FI y))); clear hK K))
  refine wpQuiet_nil ?_
  intro z1 hz1
  have M3 := kept hz1 M2
  have B3 := keepB B2 hz1
  clear hz1 M2 B2
  go_wp2_with fail
  have N1 := h1_0 z1 (.cells #[.string H1, .string H2, .string p, .string FL] 9)
  have PA1 := PA z1.heap.size _ (Array.getElem?_eq_some_iff.1 N1).1 (four_cells N1)
  refine PA1.mono ?_
  rintro e v ⟨rfl, hv⟩
  have M4 := kept hv (kept (below_one z1 _) M3)
  have B4 := keepB (keepB B3 (below_one z1 _)) hv
  clear hv PA1 N1 M3 B3
  obtain ⟨c0, c1, c2⟩ := cells3 M4
  go_wp2_with fail
  refine (SU _).mono ?_
  rintro e x ⟨rfl, hx⟩
  go_wp2
  exact bodyPost_ret (v := .tuple #[.string R, .int .i64 0]) (by simp [results, Try.results8, go_sem, none8]) rfl ⟨by simp, keepB B4 hx⟩
set_option maxRecDepth 100000 in
set_option maxHeartbeats 1600000 in
theorem block_fill_false (f : Int) (G : Bool) (t k : Nat) (p q fill : ByteArray) (LA : ∀ u, Calls Try.prog 24 #[.int .i64 f] u fun e w' => e = .returned (.tuple #[.agg #[.bool false, .bool G, .int .u8 (t : Int)], .bool true]) ∧ Below u.heap.size u w') (sp : p.size ≤ maxLen) (sq : q.size ≤ maxLen) (hp : pinB p = true) (hk : Hid (p.size + k = 14))
    (TA : ∀ u, Calls Try.prog 27 #[.agg #[.bool false, .bool G, .int .u8 (t : Int)], .string fill, .int .i64 (k : Int)] u fun e w' => e = .returned (.bool false) ∧ Below u.heap.size u w') (w : World) :
    Calls Try.prog 8 #[.int .i64 f, .string p, .string q, .string fill] w fun e w' => e = .returned (.tuple #[.string none8, .int .i64 62]) ∧ Below w.heap.size w w' := by
  have IP := fun u => isPIN_any p u sp
  rw [hp] at IP
  have ek : IntKind.i64.wrap (14 - (p.size : Int)) = (k : Int) := by have := hk.out; rw [IntKind.wrap_i64]; omega
  clear hp
  go_enter Try.func8, Try.ntmps8
  go_wp2_with fail
  refine (LA _).mono ?_
  rintro e y ⟨rfl, hy⟩
  have B1 := keepB hy (below_one y (.cells #[.bool false, .bool G, .int .u8 (t : Int)] 48))
  have M1 := h1_0 y (.cells #[.bool false, .bool G, .int .u8 (t : Int)] 48)
  clear hy LA
  go_wp2_with fail
  generalize y.alloc (.cells #[.bool false, .bool G, .int .u8 (t : Int)] 48) = y1 at *
  generalize y.heap.size = L at *
  clear y
  refine (IP _).mono ?_
  rintro e u ⟨rfl, rfl⟩
  obtain ⟨c0, c1, c2⟩ := cells3 M1
  go_wp2_with fail
  refine (TA _).mono ?_
  rintro e z ⟨rfl, hz⟩
  go_wp2
  exact bodyPost_ret (v := .tuple #[.string none8, .int .i64 62]) (by simp [results, Try.results8, go_sem, none8]) rfl ⟨by simp, keepB B1 hz⟩
set_option maxRecDepth 100000 in
set_option maxHeartbeats 1600000 in
theorem block_good_false (F : Nat) (hF : F < 16) (G : Bool) (t k : Nat) (p q fill FL X R : ByteArray) (LA : ∀ u, Calls Try.prog 24 #[.int .i64 (F : Int)] u fun e w' => e = .returned (.tuple #[.agg #[.bool false, .bool G, .int .u8 (t : Int)], .bool true]) ∧ Below u.heap.size u w') (sp : p.size ≤ maxLen) (sq : q.size ≤ maxLen) (hp : pinB p = true) (hk : Hid (p.size + k = 14))
    (TA : ∀ u, Calls Try.prog 27 #[.agg #[.bool false, .bool G, .int .u8 (t : Int)], .string fill, .int .i64 (k : Int)] u fun e w' => e = .returned (.bool true) ∧ Below u.heap.size u w')
    (FI : ∀ u, Calls Try.prog 30 #[.agg #[.bool false, .bool G, .int .u8 (t : Int)], .string fill, .int .i64 (k : Int)] u fun e w' => e = .returned (.string FL) ∧ Below u.heap.size u w')
    (PA : ∀ bk u, bk < u.heap.size → (∀ (j : Nat) x, [⟨#[hx F]⟩, ⟨#[hx p.size]⟩, p, FL][j]? = some x → u.cell? ⟨bk, j, none⟩ = some (.string x)) → Calls Try.prog 28 #[.slice (some ⟨bk, 0, none⟩) 4 4] u fun e w' => e = .returned (.string X) ∧ Below u.heap.size u w')
    (SU : ∀ u, Calls Try.prog 31 #[.agg #[.bool false, .bool G, .int .u8 (t : Int)], .string X, .string q] u fun e w' => e = .returned (.string R) ∧ Below u.heap.size u w') (w : World) :
    Calls Try.prog 8 #[.int .i64 (F : Int), .string p, .string q, .string fill] w fun e w' => e = .returned (.tuple #[.string R, .int .i64 0]) ∧ Below w.heap.size w w' := by
  have IP := fun u => isPIN_any p u sp
  have p16 : p.size < 16 := by have := hk.out; omega
  have S1 := fun u => sixteenth_any F hF u
  have S2 := fun u => sixteenth_any p.size p16 u
  rw [hp] at IP
  have ek : IntKind.i64.wrap (14 - (p.size : Int)) = (k : Int) := by have := hk.out; rw [IntKind.wrap_i64]; omega
  clear hp
  obtain ⟨H1, HH1⟩ : ∃ H1 : ByteArray, Hid (⟨#[hx F]⟩ = H1) := ⟨_, rfl⟩
  obtain ⟨H2, HH2⟩ : ∃ H2 : ByteArray, Hid (⟨#[hx p.size]⟩ = H2) := ⟨_, rfl⟩
  rw [HH1.out] at S1 PA
  rw [HH2.out] at S2 PA
  go_enter Try.func8, Try.ntmps8
  go_wp2_with fail
  refine (LA _).mono ?_
  rintro e y ⟨rfl, hy⟩
  have B1 := keepB hy (below_one y (.cells #[.bool false, .bool G, .int .u8 (t : Int)] 48))
  have M1 := h1_0 y (.cells #[.bool false, .bool G, .int .u8 (t : Int)] 48)
  clear hy LA
  go_wp2_with fail
  generalize y.alloc (.cells #[.bool false, .bool G, .int .u8 (t : Int)] 48) = y1 at *
  generalize y.heap.size = L at *
  clear y
  refine (IP _).mono ?_
  rintro e u ⟨rfl, rfl⟩
  obtain ⟨c0, c1, c2⟩ := cells3 M1
  go_wp2_with fail
  refine (TA _).mono ?_
  rintro e z ⟨rfl, hz⟩
  have M2 := kept hz M1
  have B2 := keepB B1 hz
  clear hz M1 B1 c0 c1 c2 TA IP
  go_wp2_with fail
  refine Qt.region_tail 12 2 (C := Qv.Cl z) (by kernel_rfl) rfl (by kernel_rfl) (by kernel_rfl) (by kernel_rfl) ((Below.refl _ _).drew) ?_
  repeat (refine wpQuiet_step (fun K hK => ?_); first
    | (go_simp; refine hK _ ?_; clear hK K)
    | (go_simp; refine ⟨_, fun _ _ => rfl, hK _ ?_⟩; clear hK K)
    | (go_simp; refine ⟨_, fun _ _ => ⟨rfl, rfl⟩, hK _ ?_⟩; clear hK K)
    | (refine Qv.q_row (by rfl) 48 _ rfl L rfl _ _ _ _ M2 Try.underlying48 rfl (zL _ _ _) (hK _ ?_); clear hK K)
    | (go_simp; apply Exists.intro; refine ⟨fun y hy => ?_, hK _ ?_⟩; (first | (go_at_call 29; exact Qv.cl_same hy (S1 y)) | (go_at_call 29; exact Qv.cl_same hy (S2 y)) | (go_at_call 30; exact Qv.cl_of hy (FI y))); clear hK K))
  refine wpQuiet_nil ?_
  intro z1 hz1
  have M3 := kept hz1 M2
  have B3 := keepB B2 hz1
  clear hz1 M2 B2
  go_wp2_with fail
  have N1 := h1_0 z1 (.cells #[.string H1, .string H2, .string p, .string FL] 9)
  have PA1 := PA z1.heap.size _ (Array.getElem?_eq_some_iff.1 N1).1 (four_cells N1)
  refine PA1.mono ?_
  rintro e v ⟨rfl, hv⟩
  have M4 := kept hv (kept (below_one z1 _) M3)
  have B4 := keepB (keepB B3 (below_one z1 _)) hv
  clear hv PA1 N1 M3 B3
  obtain ⟨c0, c1, c2⟩ := cells3 M4
  go_wp2_with fail
  refine (SU _).mono ?_
  rintro e x ⟨rfl, hx⟩
  go_wp2
  exact bodyPost_ret (v := .tuple #[.string R, .int .i64 0]) (by simp [results, Try.results8, go_sem, none8]) rfl ⟨by simp, keepB B4 hx⟩
end Go.Proofs.Ytciblmdpngnakaa.Pj
