import Derived.Test.YtgchdjjafgkcbaaQf32
import Derived.Deep.MidRow
import Derived.Test.YtgchdjjafgkcbaaRows
import Derived.WalkKit
import Derived.ProofKit
import Derived.OpenShut
import Derived.ChangeSlices
import Derived.SliceStrings
import Derived.Below
/- PendingFull: a request is answered, another takes its place; the law's row is built anew. -/
namespace Go.Proofs.Ytgchdjjafgkcbaa.Fd
set_option linter.unusedVariables false
set_option linter.unusedSimpArgs false
open Go.RowKit Go.Maps Go.Shelf Lib0 Kb Xp Za Ze Ih Fh Hh Pa Pb Pc Pe Pf Pg Px Pl Pw Py Ra Sa Vh Fa Fb
abbrev tSI : TypeId := 40
/-- the table has the requests of l', the law's row still those of l -/
structure Fv (w x : World) (b : Nat) (C : Cf) (l' l : List Nat) (lv : Value) (nx : Nat) : Prop where
  tb : ∃ S, Tb x w.heap.size b C S ∧ Fs l' S ∧ S.lw = (nx : Int)
  row : x.ownsRow w.heap.size tI 1 lv l.length (il l)
  bel : Below w.heap.size w x
  lt : ∀ n ∈ l', n < nx
theorem Fv.below {w x y : World} {b : Nat} {C : Cf} {l' l : List Nat} {lv : Value} {nx : Nat} (h : Fv w x b C l' l lv nx) (k : Below x.heap.size x y) : Fv w y b C l' l lv nx := by
  obtain ⟨S, h1, h2, h3⟩ := h.tb
  exact ⟨⟨S, h1.below k, h2, h3⟩, own_keep h.row fun g hg => k.block g (h.row.lt g hg).2, keepB h.bel k, h.lt⟩
theorem Fv.add {w x : World} {b : Nat} {C : Cf} {l' l : List Nat} {lv : Value} {nx : Nat} (h : Fv w x b C l' l lv nx) (co : Co C) (h5 : C.timeout = 5) (hx : nx + 1 ≤ 1000000) (hf : (l'.length : Int) ≠ C.most) {v1 : Value} {base : Nat} (ho : x.ownsRow base tF 3 v1 1 (fc [(11, ks nx)])) :
    Calls Try.prog 13 #[.pointer (some ⟨b, 0, none⟩), pv (req nx) v1 (.slice none 0 0)] x fun e y => e = .returned (.int .i64 0) ∧ Fv w y b C (l' ++ [nx]) l lv (nx + 1) := by
  obtain ⟨S, h1, h2, h3⟩ := h.tb
  have hni : nx ∉ l' := fun e => by have := h.lt nx e; omega
  have ha : ∀ k ∈ l', Ro (req k) := fun k hk => ro_req (h2.small k hk)
  have hr := ro_req (n := nx) (by omega)
  refine (Px.add_ok h1 hr (rm_req (by omega) ho) (h2.newK hr ha hni) (h2.newN hr ha hni) (by rw [h2.len]; exact hf) co (by omega)).mono ?_
  rintro e y ⟨rfl, ⟨g, t1⟩, kt, bl⟩
  refine ⟨rfl, ⟨_, t1, h2.add h5 g nx (by omega), ?_⟩, Kt.rowI kt h.row, h.bel.trans bl, fun n hn => ?_⟩
  · show S.lw + 1 = _
    omega
  · rcases List.mem_append.1 hn with k | k
    · have := h.lt n k; omega
    · rw [List.mem_singleton.1 k]; omega
theorem Fu.ansv {w x : World} {b : Nat} {C : Cf} {l : List Nat} {lv : Value} {nx : Nat} (h : Fu w x b C l lv nx) (k : Nat) (hk : k < l.length) :
    Calls Try.prog 15 #[.pointer (some ⟨b, 0, none⟩), .int .i64 (req l[k]).to_, .int .i64 (req l[k]).no] x fun e y => ∃ v1 v2, e = .returned (.tuple #[pv (req l[k]) v1 v2, .int .i64 0]) ∧ RowF y v1 (req l[k]).L1 ∧ RowF y v2 (req l[k]).L2 ∧ Fv w y b C (l.eraseIdx k) l lv nx := by
  refine (h.ans k hk).mono ?_
  rintro e y ⟨v1, v2, rfl, h1, h2, h3, h4, h5⟩
  exact ⟨v1, v2, rfl, h2, h3, h1, h4, h5, fun n hn => h.lt n (List.mem_of_mem_eraseIdx hn)⟩
theorem own_base {x : World} {B B' n s : Nat} {t : TypeId} {v : Value} {xs : List Value} (h : x.ownsRow B t s v n xs) (hb : B' ≤ B) : x.ownsRow B' t s v n xs := by
  rcases h with ⟨h0, h1 | ⟨g, cap, cur, e1, e2, e3⟩⟩
  · exact ⟨h0, .inl h1⟩
  · exact ⟨h0, .inr ⟨g, cap, cur, e1, Nat.le_trans hb e2, e3⟩⟩
/-- a row of ints that is built behind all that there was -/
structure Rg (w0 x : World) (v : Value) (n : Nat) (xs : List Value) : Prop where
  own : x.ownsRow w0.heap.size tI 1 v n xs
  bel : Below w0.heap.size w0 x
theorem Rg.alloc {w0 x : World} {v : Value} {n : Nat} {xs : List Value} (h : Rg w0 x v n xs) (o : Obj) : Rg w0 (x.alloc o) v n xs := ⟨h.own.alloc o, h.bel.trans ((below_one x o).mono h.bel.size)⟩
theorem Rg.app {w0 x : World} {v : Value} {n : Nat} {xs : List Value} (h : Rg w0 x v n xs) (ad : Addr) (m c : Nat) (news : List Value) (hl : news.length = m) (hnews : ∀ j u, news[j]? = some u → x.cell? (ad.add j) = some u) (h1 : ∀ u ∈ news, u.oneCell' = true) (hle : n + m ≤ 100000) :
    ∃ v' x', (Builtin.append_ #[tSI, tSI] tSI #[v, .slice (some ad) m c]).run Try.prog x = .ok v' x' ∧ Rg w0 x' v' (n + m) (xs ++ news) := by
  obtain ⟨i0, hi0, hz0, hz1, hz2⟩ : ∃ i, Try.prog.info? tI = some i ∧ i.zero = some (.int .i64 0) ∧ i.size = 1 ∧ i.bytes = 8 := by
    have h : (Try.prog.info? tI).map (fun i => (i.zero, i.size, i.bytes)) = some (some (.int .i64 0), 1, 8) := by kernel_rfl
    cases e : Try.prog.info? tI with
    | none => rw [e] at h; cases h
    | some i => rw [e] at h; simp at h; exact ⟨i, rfl, h.1, h.2.1, h.2.2⟩
  obtain ⟨v', x', hr, ho, hg, -⟩ := run_append_own (P := Try.prog) x w0.heap.size tSI tSI tI i0 _ 1 8 Try.underlying40 hi0 hz0 hz1 hz2 rfl (by omega) v n xs h.own ad m c news (by omega) hnews h1 (by unfold maxLen; omega) (by omega) h.bel.size
  exact ⟨v', x', hr, ho, h.bel.grown hg h.bel.size (fun k hk => (h.own.lt k hk).1)⟩
/-- what is in the row, but the k-th -/
theorem il_erase (l : List Nat) (k : Nat) : il (l.take k) ++ il (l.drop (k + 1)) = il (l.eraseIdx k) := by
  unfold il
  rw [← List.map_append, List.eraseIdx_eq_take_drop_succ]
theorem il_one (l : List Nat) (k : Nat) : ∀ u ∈ il (l.take k), u.oneCell' = true := fun u hu => by
  obtain ⟨n, -, rfl⟩ := List.mem_map.1 hu
  rfl
theorem il_two (l : List Nat) (k : Nat) : ∀ u ∈ il (l.drop k), u.oneCell' = true := fun u hu => by
  obtain ⟨n, -, rfl⟩ := List.mem_map.1 hu
  rfl
/-- the same, with the block of what is to come last -/
structure R2 (w0 x : World) (v : Value) (n : Nat) (xs : List Value) (nb : Option Nat) (nx : Int) : Prop where
  own : x.ownsRow w0.heap.size tI 1 v n xs
  bel : Below w0.heap.size w0 x
  nbk : ∀ b, nb = some b → x.heap[b]? = some (.cells #[.int .i64 nx] tI (0, 0)) ∧ v.ownBlock ≠ some b
theorem R2.note {w0 x : World} {v : Value} {n : Nat} {xs : List Value} {nx : Int} (h : R2 w0 x v n xs none nx) : R2 w0 (x.alloc (.cells #[.int .i64 nx] tI)) v n xs (some x.heap.size) nx :=
  ⟨h.own.alloc _, h.bel.trans ((below_one x _).mono h.bel.size), fun b e => by
    injection e with e
    subst e
    exact ⟨h1_0 _ _, fun e2 => by have := (h.own.lt _ e2).2; omega⟩⟩
theorem r2_c (w0 : World) (nx : Int) : R2 w0 (w0.alloc (.cells #[] tI)) (.slice (some ⟨w0.heap.size, 0, none⟩) 0 0) 0 [] none nx :=
  ⟨World.ownsRow_made w0 #[] 0 (Nat.le_refl _) (by unfold maxLen; omega) rfl, below_one _ _, fun b e => by cases e⟩
theorem r2_b (w0 : World) (nx : Int) : R2 w0 ((w0.alloc (.cells #[] tI)).alloc (.cells #[.int .i64 nx] tI)) (.slice (some ⟨w0.heap.size, 0, none⟩) 0 0) 0 [] (some (w0.heap.size + 1)) nx := by
  have := (r2_c w0 nx).note
  rw [show (w0.alloc (.cells #[] tI)).heap.size = w0.heap.size + 1 by simp] at this
  exact this
theorem r2_a (w0 : World) (nx : Int) : R2 w0 ((w0.alloc (.cells #[.int .i64 nx] tI)).alloc (.cells #[] tI)) (.slice (some ⟨w0.heap.size + 1, 0, none⟩) 0 0) 0 [] (some w0.heap.size) nx := by
  have h := World.ownsRow_made (base := w0.heap.size) (e := tI) (size := 1) (w0.alloc (.cells #[.int .i64 nx] tI)) #[] 0 (by simp) (by unfold maxLen; omega) rfl
  rw [show (w0.alloc (.cells #[.int .i64 nx] tI)).heap.size = w0.heap.size + 1 by simp] at h
  exact ⟨h, below_two _ _ _, fun b e => by
    injection e with e
    subst e
    exact ⟨h2_0 _ _ _, fun e2 => by simp [Value.ownBlock] at e2⟩⟩
theorem infoI8 : ∃ i, Try.prog.info? tI = some i ∧ i.zero = some (.int .i64 0) ∧ i.size = 1 ∧ i.bytes = 8 := by
  have h : (Try.prog.info? tI).map (fun i => (i.zero, i.size, i.bytes)) = some (some (.int .i64 0), 1, 8) := by kernel_rfl
  cases e : Try.prog.info? tI with
  | none => rw [e] at h; cases h
  | some i => rw [e] at h; simp at h; exact ⟨i, rfl, h.1, h.2.1, h.2.2⟩
/-- append at a step of a region that draws its order: of any row, an empty one too -/
theorem step_rg {ops : Array Oper} {o : Oper} {a : Act} {x : World} {K : Act → World → Prop} {Q : Exit → Act → World → Prop} {E : Prop} (hgd : o.guard = none) (s y : Operand)
    (ho : o.op = .call { callee := .builtin .append, args := #[s, y], argTypes := #[tSI, tSI] }) (w0 : World) (nb : Option Nat) (nx : Int) (v : Value) (n : Nat) (xs : List Value) (hs : a.eval s = v) (h : R2 w0 x v n xs nb nx)
    (ad : Addr) (m c : Nat) (news : List Value) (hx : a.eval y = .slice (some ad) m c) (hl : news.length = m) (hnews : ∀ j u, news[j]? = some u → x.cell? (ad.add j) = some u) (h1 : ∀ u ∈ news, u.oneCell' = true) (hle : n + m ≤ 100000)
    (hK : ∀ v' x', R2 w0 x' v' (n + m) (xs ++ news) nb nx → K (a.put o.dst v') x') : if Region.wanted o (yielded ops a.tmps) = true then Oper.wp Try.prog o a x K Q else E := by
  have hw : Region.wanted o (yielded ops a.tmps) = true := by simp [Region.wanted, hgd]
  rw [if_pos hw]
  obtain ⟨i0, hi0, hz0, hz1, hz2⟩ := infoI8
  obtain ⟨v', x', hr, ho2, hg, -, hat⟩ := run_append_own_at (P := Try.prog) x w0.heap.size tSI o.type tI i0 _ 1 8 Try.underlying40 hi0 hz0 hz1 hz2 rfl (by omega) v n xs h.own ad m c news (by omega) hnews h1 (by unfold maxLen; omega) (by omega) h.bel.size
  unfold Oper.wp execOp
  simp only [ho, resolve, invoke, builtin, Sem.run_bind, Sem.run_pure, Result.andThen_ok, List.map_toArray, List.map_cons, List.map_nil, hs, hx, hr]
  refine hK v' x' ⟨ho2, h.bel.grown hg h.bel.size (fun k hk => (h.own.lt k hk).1), fun b e => ?_⟩
  obtain ⟨n1, n2⟩ := h.nbk b e
  have hlt := (Array.getElem?_eq_some_iff.1 n1).1
  refine ⟨(hg.block b hlt (fun e2 => n2 e2.symm)).trans n1, ?_⟩
  rcases hat with e3 | e3
  · rw [e3]; exact n2
  · rw [e3]
    intro e4
    injection e4 with e4
    omega
theorem R2.news {w0 x : World} {v : Value} {n : Nat} {xs : List Value} {b : Nat} {nx : Int} (h : R2 w0 x v n xs (some b) nx) : ∀ j u, [Value.int .i64 nx][j]? = some u → x.cell? ((⟨b, 0, none⟩ : Addr).add j) = some u := World.news_of_block (h.nbk b rfl).1
theorem news_take {y x : World} {base gl i cl k : Nat} {l : List Nat} (hr : y.ownsRow base tI 1 (.slice (some ⟨gl, 0, none⟩) i cl) l.length (il l)) (hb : Below y.heap.size y x) : ∀ j u, (il (l.take k))[j]? = some u → x.cell? ((⟨gl, 0, none⟩ : Addr).add j) = some u := fun j u hu => by
  have h1 : (il l)[j]? = some u := by
    unfold il at hu ⊢
    rw [List.map_take, List.getElem?_take] at hu
    split at hu
    · exact hu
    · cases hu
  have h2 := hr.cells (g := gl) rfl j u h1
  exact (hb.cell (World.block_lt_of_cell? y _ h2)).trans h2
theorem news_drop {y x : World} {base gl i cl k : Nat} {l : List Nat} (hr : y.ownsRow base tI 1 (.slice (some ⟨gl, 0, none⟩) i cl) l.length (il l)) (hb : Below y.heap.size y x) : ∀ j u, (il (l.drop k))[j]? = some u → x.cell? ((⟨gl, k, none⟩ : Addr).add j) = some u := fun j u hu => by
  have h1 : (il l)[k + j]? = some u := by
    unfold il at hu ⊢
    rw [List.map_drop, List.getElem?_drop] at hu
    exact hu
  have h2 := hr.cells (g := gl) rfl (k + j) u h1
  rw [add_zero] at h2
  have e : (⟨gl, k, none⟩ : Addr).add j = ⟨gl, k + j, none⟩ := by
    unfold Addr.add
    split
    · next h => subst h; rfl
    · rfl
  rw [e]
  exact (hb.cell (World.block_lt_of_cell? y _ h2)).trans h2
theorem pl_at : ∀ (ps : List PT) (t : Nat) (h : t < ps.length) (j : Nat) (v : Value), (pcs ps[t].1 ps[t].2.1 ps[t].2.2).toList[j]? = some v → (pl ps)[t * 12 + j]? = some v
  | p :: ps, 0, _, j, v, hv => by
    have e : pl (p :: ps) = (pcs p.1 p.2.1 p.2.2).toList ++ pl ps := by simp [pl]
    have hj : j < (pcs p.1 p.2.1 p.2.2).toList.length := (List.getElem?_eq_some_iff.1 hv).1
    rw [e, Nat.zero_mul, Nat.zero_add, List.getElem?_append_left hj]
    exact hv
  | p :: ps, t + 1, h, j, v, hv => by
    have ih := pl_at ps t (by simpa using h) j v hv
    have e : pl (p :: ps) = (pcs p.1 p.2.1 p.2.2).toList ++ pl ps := by simp [pl]
    have hl : (pcs p.1 p.2.1 p.2.2).toList.length = 12 := rfl
    rw [e, List.getElem?_append_right (by rw [hl]; omega), hl, show (t + 1) * 12 + j - 12 = t * 12 + j by omega]
    exact ih
/-- a struct out of the middle of a block, in a region that draws its order -/
theorem q_mid {P : Program} {ops : Array Oper} {o : Oper} {a : Act} {x : World} {K : Act → Prop} (hw : Region.wanted o (yielded ops a.tmps) = true) (ty : TypeId) (xo : Operand) (ho : o.op = .load ty xo)
    (b k : Nat) (hx : a.eval xo = .pointer (some ⟨b, k, none⟩)) (cs : List Value) (hc : x.rangeAt b k cs) (hb : b < x.heap.size) (d : TypeDesc) (hu : P.underlying ty = some d) (hd : d.isRow = true) (hi : (P.info? ty).map (·.size) = some cs.length)
    (h : K (a.put o.dst (.agg cs.toArray))) : if Region.wanted o (yielded ops a.tmps) then o.quiet P a (Ql.Cl x) K else K (a.put o.dst undef) := by
  rw [if_pos hw]
  refine ⟨.agg cs.toArray, fun y hy => ?_, h⟩
  unfold Oper.quietAt execOp
  have hl := run_loadVar_mid (P := P) y b k ty cs d (fun j v hv => (Below.cell hy hb).trans (hc j v hv)) hu hd hi
  simp only [ho, hx, Instr.loadAt, Instr.sureAddr, Sem.run_bind, Sem.run_pure, Result.andThen_ok, hl]
  exact ⟨rfl, rfl⟩
end Go.Proofs.Ytgchdjjafgkcbaa.Fd
/- Slices of texts and of numbers that came in. -/
namespace Go.Proofs.Ytgchdjjafgkcbaa.Sg
set_option linter.unusedVariables false
open Go.ChangeShapes Go.WideShapes Go.ChangeAt Go.RowKit
/-- the value is a slice of these texts; nil, if there are none -/
def Lies (w : World) (v : Value) (z : List ByteArray) : Prop :=
  ∃ (o : Option Addr) (cap : Nat), v = .slice o z.length cap ∧ z.length ≤ 9223372036854775807 ∧ ∀ i (h : i < z.length), ∃ a : Addr, o = some a ∧ w.cell? (a.add i) = some (.string z[i]) ∧ z[i].size ≤ maxLen
def LiesI (w : World) (v : Value) (z : List Int) : Prop :=
  ∃ (o : Option Addr) (cap : Nat), v = .slice o z.length cap ∧ z.length ≤ 9223372036854775807 ∧ ∀ i (h : i < z.length), ∃ a : Addr, o = some a ∧ w.cell? (a.add i) = some (.int .i64 z[i]) ∧ (Lit.int .i64 z[i]).wf = true
theorem cellsS : Try.prog.cellsOf 9 = 1 := by kernel_rfl
theorem cellsI : Try.prog.cellsOf 3 = 1 := by kernel_rfl
theorem bulk_strs {H : Type} : ∀ zs : List ByteArray, zs.length ≤ Rows.uptoBulkAll (strs (H := H) zs)
  | [] => Nat.zero_le _
  | a :: zs => by
    have ih := bulk_strs (H := H) zs
    show zs.length + 1 ≤ Rows.uptoBulk (DataW.lit (.string a.data.toList)) + Rows.uptoBulkAll (strs zs)
    have : 1 ≤ Rows.uptoBulk (H := H) (DataW.lit (.string a.data.toList)) := by simp [Rows.uptoBulk]
    omega
theorem bulk_lits {H : Type} (zs : List Int) : zs.length ≤ Rows.uptoBulkAll (lits (H := H) .i64 zs) := by
  induction zs with
  | nil => exact Nat.zero_le _
  | cons a zs ih =>
    show zs.length + 1 ≤ Rows.uptoBulk (DataW.lit (.int .i64 a)) + Rows.uptoBulkAll (lits .i64 zs)
    have : 1 ≤ Rows.uptoBulk (H := H) (DataW.lit (.int .i64 a)) := by simp [Rows.uptoBulk]
    omega
set_option maxRecDepth 100000 in
theorem open_si {H : Type} {enc : TypeId × Value → H} {W : World} {b0 : Nat} {r : Reach} {v : Value} {d : DataW H} {ps : List MemPlace}
    (hval : Value.okWide Try.prog W r b0 40 v) (hd : DataW.Trod enc Try.prog W 0 (fun _ => true) true 40 v d ps) :
    ∃ z, LiesI W v z ∧ (∀ x ∈ ps, x.block < W.heap.size) ∧ z.length ≤ Rows.uptoBulk d := by
  obtain ⟨a0, len, cap, rfl⟩ := okWide_slice Try.underlying40 hval
  obtain ⟨fuel, hf⟩ := hd
  rcases open_ints Try.underlying40 Try.underlying3 cellsI hf with ⟨hcs, hx⟩ | ⟨a, len', cap', zs, hcs, _, hl, hm, hz, hx, hcell, hwz⟩
  · simp only [Prod.mk.injEq] at hx
    obtain ⟨rfl, rfl⟩ := hx
    simp [Value.cells] at hcs
    obtain ⟨rfl, rfl, rfl⟩ := hcs
    exact ⟨[], ⟨Option.none, 0, rfl, Nat.zero_le _, fun i h => absurd h (Nat.not_lt_zero _)⟩, (fun x hx => by simp at hx), Nat.zero_le _⟩
  · simp only [Prod.mk.injEq] at hx
    obtain ⟨rfl, rfl⟩ := hx
    simp [Value.cells] at hcs
    obtain ⟨rfl, rfl, rfl⟩ := hcs
    simp only [if_true] at hz
    have hlen : (zs.take len).length = len := by rw [List.length_take]; omega
    have hm' : cap ≤ 9223372036854775807 := by unfold maxLen at hm; exact hm
    refine ⟨zs.take len, ⟨some a, cap, by rw [hlen], by omega, fun i h => ⟨a, rfl, ?_, ?_⟩⟩, ?_, ?_⟩
    · rw [hcell i (by omega)]
      congr 2
      rw [List.getElem_take, List.getD, List.getElem?_eq_getElem (by omega)]; rfl
    · exact hwz _ (List.mem_of_mem_take (List.getElem_mem h))
    · intro x hx
      simp only [MemPlace.row, List.mem_map, List.mem_range] at hx
      obtain ⟨i, hi, rfl⟩ := hx
      have := World.block_lt_of_cell? W (a.add 0) (hcell 0 (by omega))
      have e : (a.add 0).block = a.block := by unfold Addr.add; split <;> rfl
      rw [e] at this
      exact this
    · have := bulk_lits (H := H) (zs.take len)
      simp only [Rows.uptoBulk]
      omega
theorem lies_below {w x : World} {v : Value} {z : List ByteArray} (h : Lies w v z) (hb : Below w.heap.size w x) : Lies x v z := by
  obtain ⟨o, cap, e, h1, hc⟩ := h
  exact ⟨o, cap, e, h1, fun i hi => by obtain ⟨a, ea, hca, hz⟩ := hc i hi; exact ⟨a, ea, (hb.cell (World.block_lt_of_cell? w _ hca)).trans hca, hz⟩⟩
theorem liesI_below {w x : World} {v : Value} {z : List Int} (h : LiesI w v z) (hb : Below w.heap.size w x) : LiesI x v z := by
  obtain ⟨o, cap, e, h1, hc⟩ := h
  exact ⟨o, cap, e, h1, fun i hi => by obtain ⟨a, ea, hca, hz⟩ := hc i hi; exact ⟨a, ea, (hb.cell (World.block_lt_of_cell? w _ hca)).trans hca, hz⟩⟩
end Go.Proofs.Ytgchdjjafgkcbaa.Sg
