/- BitmapJoins: the walk. -/
import Derived.Test.YtkleoklcaalogaaNg
import Derived.Test.YtkleoklcaalogaaOn
import Derived.Test.YtkleoklcaalogaaEx
import Derived.Test.YtkleoklcaalogaaQl
import Derived.Test.YtkleoklcaalogaaLw
import Derived.Deep.WholeRow
import Derived.Laws.EntriesVeiled
namespace Go.Proofs.Ytkleoklcaalogaa.Nj
set_option linter.unusedVariables false
open Go.RowKit Go.Shelf Pla Bm Bn Br Nd Ni Ng
attribute [local go_sem] Oper.semAt_some
theorem cell1 {x : World} {u : Nat} {v : Value} {t : TypeId} (h : x.heap[u]? = some (.cells #[v] t)) : x.cell? ⟨u, 0, Option.none⟩ = some v ∧ x.frozen? ⟨u, 0, Option.none⟩ = false := by
  constructor <;> simp only [World.cell?, World.frozen?, h] <;> rfl
theorem kept1 {x : World} {u : Nat} {o : Obj} (h : x.heap[u]? = some o) (a : Obj) : (x.alloc a).heap[u]? = some o := kept (below_one x a) h
theorem and_first (a0 b0 a1 b1 : Nat) (w0 : a0 < 18446744073709551616) : fld (a0 &&& a1) = halfN (fieldUp (andG (rowF a0 b0) (rowF a1 b1)) 129) 0 64 :=
  up_first _ _ (and_lt w0) fun i h1 h2 => by rw [andG, rowF_lo h1 h2, rowF_lo h1 h2, Nat.testBit_and]
theorem and_second (a0 b0 a1 b1 : Nat) (x0 : b0 < 18446744073709551616) : fld (b0 &&& b1) = halfN (fieldUp (andG (rowF a0 b0) (rowF a1 b1)) 129) 64 64 :=
  up_second _ _ (and_lt x0) fun i h1 h2 => by rw [andG, rowF_hi h1, rowF_hi h1, Nat.testBit_and]
theorem lessG_first (a0 b0 a1 b1 : Nat) (w0 : a0 < 18446744073709551616) (w1 : a1 < 18446744073709551616) : fld (less a0 a1) = halfN (fieldUp (lessG (rowF a0 b0) (rowF a1 b1)) 129) 0 64 :=
  up_first _ _ (less_lt w0) fun i h1 h2 => by rw [lessG, rowF_lo h1 h2, rowF_lo h1 h2, less, Nat.testBit_and, not_bit w1]; simp only [show decide (64 - i < 64) = true by simp; omega]; simp
theorem lessG_second (a0 b0 a1 b1 : Nat) (x0 : b0 < 18446744073709551616) (x1 : b1 < 18446744073709551616) : fld (less b0 b1) = halfN (fieldUp (lessG (rowF a0 b0) (rowF a1 b1)) 129) 64 64 :=
  up_second _ _ (less_lt x0) fun i h1 h2 => by rw [lessG, rowF_hi h1, rowF_hi h1, less, Nat.testBit_and, not_bit x1]; simp only [show decide (128 - i < 64) = true by simp; omega]; simp
theorem keeps_below {W y : World} (h : Below W.heap.size W y) : KeepsOthers W y := ⟨h.size, fun k o hk _ => (h.block k (Array.getElem?_eq_some_iff.1 hk).1).trans hk⟩
theorem frozen_below {n : Nat} {W y : World} (h : Below n W y) {p : Addr} (hp : p.block < n) : y.frozen? p = W.frozen? p := by
  unfold World.frozen?; rw [h.block _ hp]
theorem range1 {α : Type} {F : Fence} {n : Nat} {P : Program} {g : Operand} {p : Tmp} {assign body : Code} {Q : Exit → Act → World → Prop} {a : Act} {w : World}
    (hro : F.round = none) (h1 : 1 ≤ n) {gf : Nat} {lb : Array Value} (hg : a.eval g = .func (.func gf) #[] lb) (hFg : F.fn gf) (eg : ∀ args w, (callFunc gf args).run P w = .ok (.enter gf args) w)
    {v : α → Value} {Kp : World → World → Prop} {S Sp : List α → Prop} {N : Nat} {w0 : World} (hseq : SeqStopsK F (n - 1) P gf lb (fun x => #[v x]) Kp S Sp N w0)
    (hKt : ∀ {A B C : World}, Kp A B → Kp B C → Kp A C) (hKb : ∀ (W : World) (l : Nat) (o o' : Obj), w.heap.size ≤ l → W.heap[l]? = some o → o.isCells = false → o.isWalk = false → Kp W (W.putObj l o')) (hb0 : Below w0.heap.size w0 w)
    (q : Nat) (I : List α → World → Prop) (Ix : Code → List α → World → Prop) (hI : OwnFrom w.heap.size I) (hIx : ∀ c, OwnFrom w.heap.size (Ix c)) (h0 : I [] w)
    (hassign : ∀ (l : Nat) (x : α) (W : World) (K : Act → World → Prop), K { tmps := (a.tmps.setIfInBounds p (v x)).setIfInBounds q (v x), defers := [] } W →
      assign.wpIn (F.inRound l) (n - 1 - 1) P (Exit.then K (fun _ _ _ => False)) { tmps := a.tmps.setIfInBounds p (v x), defers := [] } W)
    (hbody : ∀ (l : Nat) (pre : List α) (x : α) (W : World), I pre W → pre.length < N → body.wpIn (F.inRound l) (n - 1 - 1) P (ownPostK Kp I Ix (pre ++ [x]) W) { tmps := (a.tmps.setIfInBounds p (v x)).setIfInBounds q (v x), defers := [] } W)
    (hdone : ∀ (D : Nat) (xs : List α) (W : World), w.heap.size ≤ D → S xs → I xs W → W.heap[D]? = some (.deferred (some [])) → Q .normal { a with defers := { target := .collected D, args := #[] } :: a.defers } W)
    (hstop : ∀ (D : Nat) (c : Code) (pre : List α) (W : World), w.heap.size ≤ D → Sp pre → Ix c pre W → W.heap[D]? = some (.deferred (some [])) → c.wpIn F n P Q { a with defers := { target := .collected D, args := #[] } :: a.defers } W) :
    (Code.rangeFunc g #[p] assign body).wpIn F n P Q a w :=
  wpIn_rangeFunc_ownF hro h1 hg hFg eg hseq hKt hKb hb0 (fun _ => rfl) I Ix hI hIx h0 (fun x => { tmps := (a.tmps.setIfInBounds p (v x)).setIfInBounds q (v x), defers := [] }) (fun l x W K hK => by simpa using hassign l x W K hK) hbody hdone hstop
theorem eq_nil (b : Nat) (y : World) : (binOp .eql 27 (.func (.func 25) #[] #[.pointer (some ⟨b, 0, Option.none⟩)]) .nilFunc).run Try.prog y = .ok (.bool false) y := by
  kernel_rfl
theorem all1 {y : World} {u : Nat} {v : Value} {t : TypeId} (h : y.heap[u]? = some (.cells #[v] t)) : ∀ o, (y.alloc o).cell? ⟨u, 0, Option.none⟩ = some v := fun o => (cell1 (kept1 h o)).1
theorem all11 {y : World} {u : Nat} {v : Value} {t : TypeId} (h : y.heap[u]? = some (.cells #[v] t)) : ∀ o o', ((y.alloc o).alloc o').cell? ⟨u, 0, Option.none⟩ = some v := fun o o' => (cell1 (kept1 (kept1 h o) o')).1
theorem all2 {y : World} {u : Nat} {v0 v1 : Value} {t : TypeId} (h : y.heap[u]? = some (.cells #[v0, v1] t)) : (∀ o, (y.alloc o).cell? ⟨u, 0, Option.none⟩ = some v0) ∧ (∀ o, (y.alloc o).cell? ⟨u, 1, Option.none⟩ = some v1) :=
  ⟨fun o => (held2 (Below.refl _ _) (kept1 h o)).1, fun o => (held2 (Below.refl _ _) (kept1 h o)).2.1⟩
set_option maxRecDepth 100000 in
set_option maxHeartbeats 1600000 in
theorem walk (a0 b0 a1 b1 : Nat) (a2 : Int) (w : World) (w0 : a0 < 18446744073709551616) (x0 : b0 < 18446744073709551616) (w1 : a1 < 18446744073709551616) (x1 : b1 < 18446744073709551616) (w2 : (Lit.int .i64 a2).wf = true) :
    Calls Try.prog 3 #[.agg #[.int .u64 (a0 : Int), .int .u64 (b0 : Int)], .agg #[.int .u64 (a1 : Int), .int .u64 (b1 : Int)], .int .i64 a2] w fun e w' => e = .returned (.bool true) ∧ Below w.heap.size w w' := by
  have hz := (zero_of_info Br.zrow).1
  have px := fun w => Ex.examples_any w
  have pn := fun w => numbers_any a0 b0 w0 x0 w
  have pr0 := fun w => Bw.row_any a0 b0 w0 x0 w
  have pr1 := fun w => Bw.row_any a1 b1 w1 x1 w
  have z0 := hsz (rowF a0 b0)
  have o0 := rowC_one (rowF a0 b0)
  have s0 := rowC_size (rowF a0 b0)
  have z1 := hsz (rowF a1 b1)
  have o1 := rowC_one (rowF a1 b1)
  have s1 := rowC_size (rowF a1 b1)
  have pA := fun w => and_any a0 b0 a1 b1 w0 x0 w1 x1 w
  have pB := fun w => refAnd_any (rowF a0 b0) (rowF a1 b1) w
  have pC := fun w => like_true (and_first a0 b0 a1 b1 w0) (and_second a0 b0 a1 b1 x0) w
  have pD := fun w => less_any a0 b0 a1 b1 w0 x0 w1 x1 w
  have pE := fun w => refLess_any (rowF a0 b0) (rowF a1 b1) w
  have pF := fun w => like_true (lessG_first a0 b0 a1 b1 w0 w1) (lessG_second a0 b0 a1 b1 x0 x1) w
  have pN := fun w => refNumbers_any (rowF a0 b0) w
  refine (callsIn_wide (n := 8)).1 ?_
  refine callsIn_of_wp_marks Try.func3 rfl trivial ?_ rfl
  simp only [Try.ntmps3, List.size_toArray, List.length_cons, List.length_nil, Nat.reduceAdd, Nat.reduceSub, Array.replicate_succ, Array.replicate_zero, List.push_toArray, List.append_toArray, List.nil_append, List.cons_append]
  refine wpIn_wide.2 ?_
  go_wp2_with fail
  have M0 := kept1 (kept1 (kept1 (h1_0 w (Obj.cells #[.int .u64 (a0 : Int), .int .u64 (b0 : Int)] 24)) (Obj.cells #[.int .u64 (a1 : Int), .int .u64 (b1 : Int)] 24)) (Obj.cells #[.int .i64 a2] 3)) (Obj.cells #[.bool false] 4)
  have M1 := kept1 (kept1 (h2_1 w (Obj.cells #[.int .u64 (a0 : Int), .int .u64 (b0 : Int)] 24) (Obj.cells #[.int .u64 (a1 : Int), .int .u64 (b1 : Int)] 24)) (Obj.cells #[.int .i64 a2] 3)) (Obj.cells #[.bool false] 4)
  have M2 := kept1 (h3_2 w (Obj.cells #[.int .u64 (a0 : Int), .int .u64 (b0 : Int)] 24) (Obj.cells #[.int .u64 (a1 : Int), .int .u64 (b1 : Int)] 24) (Obj.cells #[.int .i64 a2] 3)) (Obj.cells #[.bool false] 4)
  have M3 := h1_0 (((w.alloc (Obj.cells #[.int .u64 (a0 : Int), .int .u64 (b0 : Int)] 24)).alloc (Obj.cells #[.int .u64 (a1 : Int), .int .u64 (b1 : Int)] 24)).alloc (Obj.cells #[.int .i64 a2] 3)) (Obj.cells #[.bool false] 4)
  simp only [World.size_alloc] at M3
  have B : Below w.heap.size w ((((w.alloc (Obj.cells #[.int .u64 (a0 : Int), .int .u64 (b0 : Int)] 24)).alloc (Obj.cells #[.int .u64 (a1 : Int), .int .u64 (b1 : Int)] 24)).alloc (Obj.cells #[.int .i64 a2] 3)).alloc (Obj.cells #[.bool false] 4)) := (below_three w (Obj.cells #[.int .u64 (a0 : Int), .int .u64 (b0 : Int)] 24) (Obj.cells #[.int .u64 (a1 : Int), .int .u64 (b1 : Int)] 24) (Obj.cells #[.int .i64 a2] 3)).alloc (by simp; omega) _
  generalize ((((w.alloc (Obj.cells #[.int .u64 (a0 : Int), .int .u64 (b0 : Int)] 24)).alloc (Obj.cells #[.int .u64 (a1 : Int), .int .u64 (b1 : Int)] 24)).alloc (Obj.cells #[.int .i64 a2] 3)).alloc (Obj.cells #[.bool false] 4)) = y0 at *
  refine (px _).mono ?_
  rintro e y1 ⟨rfl, h⟩
  replace M0 := kept h M0
  replace M1 := kept h M1
  replace M2 := kept h M2
  replace M3 := kept h M3
  replace B := keepB B h
  obtain ⟨c0, c1, -, -⟩ := held2 (Below.refl _ y1) M0
  clear h y0 px
  go_wp2_with fail
  refine (pn _).mono ?_
  rintro e y2 ⟨b, rfl, hb, h⟩
  unfold fv
  have en := eq_nil b
  replace M0 := kept h M0
  replace M1 := kept h M1
  replace M2 := kept h M2
  replace M3 := kept h M3
  replace B := keepB B h
  clear c0 c1 h pn
  obtain ⟨c0, c1⟩ := all2 M0
  go_wp2_with fail
  have MF := h1_0 y2 (.cells #[fv b] 27)
  replace M0 := kept1 M0 (.cells #[fv b] 27)
  replace M1 := kept1 M1 (.cells #[fv b] 27)
  replace M2 := kept1 M2 (.cells #[fv b] 27)
  replace M3 := kept1 M3 (.cells #[fv b] 27)
  replace hb := kept1 hb (.cells #[fv b] 27)
  replace B := keepB B (below_one y2 (.cells #[fv b] 27))
  generalize y2.alloc (.cells #[fv b] 27) = y3 at *
  clear c0 c1
  refine (pr0 _).mono ?_
  rintro e y4 ⟨rfl, h⟩
  replace M0 := kept h M0
  replace M1 := kept h M1
  replace M2 := kept h M2
  replace M3 := kept h M3
  replace MF := kept h MF
  replace hb := kept h hb
  replace B := keepB B h
  clear h pr0
  obtain ⟨c0, c1⟩ := all2 M1
  go_wp2_with (refine wpList_store_row rfl 30 _ _ rfl y4.heap.size (rowC (rowF a0 b0)) rfl rfl _ _ (h1_0 _ _) z0 (by rw [rowC_size, rowC_size]) o0 ?_; rw [World.setRow_alloc_new])
  have MR := h1_0 y4 (.cells (rowC (rowF a0 b0)) 30)
  replace M0 := kept1 M0 (.cells (rowC (rowF a0 b0)) 30)
  replace M1 := kept1 M1 (.cells (rowC (rowF a0 b0)) 30)
  replace M2 := kept1 M2 (.cells (rowC (rowF a0 b0)) 30)
  replace M3 := kept1 M3 (.cells (rowC (rowF a0 b0)) 30)
  replace MF := kept1 MF (.cells (rowC (rowF a0 b0)) 30)
  replace hb := kept1 hb (.cells (rowC (rowF a0 b0)) 30)
  replace B := keepB B (below_one y4 (.cells (rowC (rowF a0 b0)) 30))
  generalize y4.alloc (.cells (rowC (rowF a0 b0)) 30) = y5 at *
  clear c0 c1
  refine (pr1 _).mono ?_
  rintro e y6 ⟨rfl, h⟩
  replace M0 := kept h M0
  replace M1 := kept h M1
  replace M2 := kept h M2
  replace M3 := kept h M3
  replace MF := kept h MF
  replace MR := kept h MR
  replace hb := kept h hb
  replace B := keepB B h
  clear h pr1
  go_wp2_with (refine wpList_store_row rfl 30 _ _ rfl y6.heap.size (rowC (rowF a1 b1)) rfl rfl _ _ (h1_0 _ _) z1 (by rw [rowC_size, rowC_size]) o1 ?_; rw [World.setRow_alloc_new])
  have MQ := h1_0 y6 (.cells (rowC (rowF a1 b1)) 30)
  replace M0 := kept1 M0 (.cells (rowC (rowF a1 b1)) 30)
  replace M1 := kept1 M1 (.cells (rowC (rowF a1 b1)) 30)
  replace M2 := kept1 M2 (.cells (rowC (rowF a1 b1)) 30)
  replace M3 := kept1 M3 (.cells (rowC (rowF a1 b1)) 30)
  replace MF := kept1 MF (.cells (rowC (rowF a1 b1)) 30)
  replace MR := kept1 MR (.cells (rowC (rowF a1 b1)) 30)
  replace hb := kept1 hb (.cells (rowC (rowF a1 b1)) 30)
  replace B := keepB B (below_one y6 (.cells (rowC (rowF a1 b1)) 30))
  generalize y6.alloc (.cells (rowC (rowF a1 b1)) 30) = y7 at *
  have zm0 : (Try.prog.info? 24).map (·.size) = some (#[Value.int .u64 (a0 : Int), .int .u64 (b0 : Int)] : Array Value).size := by kernel_rfl
  have zm1 : (Try.prog.info? 24).map (·.size) = some (#[Value.int .u64 (a1 : Int), .int .u64 (b1 : Int)] : Array Value).size := by kernel_rfl
  refine Ql.region_cl (by kernel_rfl) (by kernel_rfl) ?_
  repeat (refine wpQuiet_step (fun K hK => ?_); first
    | (refine Ql.q_row (by rfl) 30 _ rfl y4.heap.size rfl _ _ _ _ MR Try.underlying30 rfl z0 (hK _ ?_); clear hK K)
    | (refine Ql.q_row (by rfl) 30 _ rfl y6.heap.size rfl _ _ _ _ MQ Try.underlying30 rfl z1 (hK _ ?_); clear hK K)
    | (refine Ql.q_row (by rfl) 24 _ rfl w.heap.size rfl _ _ _ _ M0 Try.underlying24 rfl zm0 (hK _ ?_); clear hK K)
    | (refine Ql.q_row (by rfl) 24 _ rfl (w.heap.size + 1) rfl _ _ _ _ M1 Try.underlying24 rfl zm1 (hK _ ?_); clear hK K)
    | (go_simp; apply Exists.intro; refine ⟨fun y hy => ?_, hK _ ?_⟩; (first | (go_at_call 9; exact Ql.cl_of hy (pA y)) | (go_at_call 10; exact Ql.cl_of hy (pB y)) | (go_at_call 8; exact Ql.cl_of hy (pC y))); clear hK K)
    | (go_simp; refine hK _ ?_; clear hK K)
    | (go_simp; refine ⟨_, fun _ _ => rfl, hK _ ?_⟩; clear hK K)
    | (go_simp; refine ⟨_, fun _ _ => ⟨rfl, rfl⟩, hK _ ?_⟩; clear hK K))
  refine wpQuiet_nil ?_
  intro y8 h
  replace h : Below _ _ y8 := h
  replace M0 := kept h M0
  replace M1 := kept h M1
  replace M2 := kept h M2
  replace M3 := kept h M3
  replace MF := kept h MF
  replace MR := kept h MR
  replace MQ := kept h MQ
  replace hb := kept h hb
  replace B := keepB B h
  clear h
  go_wp2_with fail
  refine Ql.region_cl (by kernel_rfl) (by kernel_rfl) ?_
  repeat (refine wpQuiet_step (fun K hK => ?_); first
    | (refine Ql.q_row (by rfl) 30 _ rfl y4.heap.size rfl _ _ _ _ MR Try.underlying30 rfl z0 (hK _ ?_); clear hK K)
    | (refine Ql.q_row (by rfl) 30 _ rfl y6.heap.size rfl _ _ _ _ MQ Try.underlying30 rfl z1 (hK _ ?_); clear hK K)
    | (refine Ql.q_row (by rfl) 24 _ rfl w.heap.size rfl _ _ _ _ M0 Try.underlying24 rfl zm0 (hK _ ?_); clear hK K)
    | (refine Ql.q_row (by rfl) 24 _ rfl (w.heap.size + 1) rfl _ _ _ _ M1 Try.underlying24 rfl zm1 (hK _ ?_); clear hK K)
    | (go_simp; apply Exists.intro; refine ⟨fun y hy => ?_, hK _ ?_⟩; (first | (go_at_call 11; exact Ql.cl_of hy (pD y)) | (go_at_call 12; exact Ql.cl_of hy (pE y)) | (go_at_call 8; exact Ql.cl_of hy (pF y))); clear hK K)
    | (go_simp; refine hK _ ?_; clear hK K)
    | (go_simp; refine ⟨_, fun _ _ => rfl, hK _ ?_⟩; clear hK K)
    | (go_simp; refine ⟨_, fun _ _ => ⟨rfl, rfl⟩, hK _ ?_⟩; clear hK K))
  refine wpQuiet_nil ?_
  intro y9 h
  replace h : Below _ _ y9 := h
  replace M0 := kept h M0
  replace M1 := kept h M1
  replace M2 := kept h M2
  replace M3 := kept h M3
  replace MF := kept h MF
  replace MR := kept h MR
  replace MQ := kept h MQ
  replace hb := kept h hb
  replace B := keepB B h
  clear h
  clear pA pB pC pD pE pF
  go_wp2_with (refine wpList_load_row rfl 30 _ rfl y4.heap.size rfl _ _ _ _ MR Try.underlying30 rfl z0 ?_)
  refine (pN _).mono ?_
  rintro e ya ⟨v, rfl, hl, h⟩
  replace M0 := kept h M0
  replace M2 := kept h M2
  replace M3 := kept h M3
  replace MF := kept h MF
  replace hb := kept h hb
  replace B := keepB B h
  clear h pN MR MQ M1 hz z0 z1 o0 o1 s0 s1
  obtain ⟨o, cap, rfl, hc⟩ := hl
  have hl : LiesI ya (.slice o (Np.R (rowF a0 b0) 129).length cap) (Np.R (rowF a0 b0) 129) := ⟨o, cap, rfl, hc⟩
  clear hc
  generalize hzz : Np.R (rowF a0 b0) 129 = z at *
  have HZ : Hid (z = Np.L (fld a0) (fld b0) 128) := hzz.symm.trans (Np.L_eq_R a0 b0).symm
  have hzl : z.length ≤ 128 := by rw [HZ.out]; exact Np.L_len _ _ _
  clear hzz
  have cF := all1 MF
  go_wp2_with fail
  have MS := h1_0 ya (.cells #[.slice o z.length cap] 35)
  replace M0 := kept1 M0 (.cells #[.slice o z.length cap] 35)
  replace M2 := kept1 M2 (.cells #[.slice o z.length cap] 35)
  replace M3 := kept1 M3 (.cells #[.slice o z.length cap] 35)
  replace MF := kept1 MF (.cells #[.slice o z.length cap] 35)
  replace hb := kept1 hb (.cells #[.slice o z.length cap] 35)
  replace B := keepB B (below_one ya (.cells #[.slice o z.length cap] 35))
  replace hl := lies_below hl (below_one ya (.cells #[.slice o z.length cap] 35))
  generalize ya.alloc (.cells #[.slice o z.length cap] 35) = yb at *
  clear cF
  have GO := fun most y hb' hl' => goes_any (fld a0) (fld b0) (fld_lt w0) (fld_lt x0) b (.slice o z.length cap) z HZ.out most y hb' hl'
  refine (GO _ _ hb hl).mono ?_
  rintro e yc ⟨rfl, h⟩
  replace M0 := kept h M0
  replace M2 := kept h M2
  replace M3 := kept h M3
  replace MF := kept h MF
  replace MS := kept h MS
  replace hb := kept h hb
  replace B := keepB B h
  replace hl := lies_below hl h
  clear h
  have cF := (cell1 MF).1
  have cS := (cell1 MS).1
  have cM := (cell1 M2).1
  go_wp2_with fail
  refine (GO _ _ hb hl).mono ?_
  rintro e yd ⟨rfl, h⟩
  replace M0 := kept h M0
  replace M2 := kept h M2
  replace M3 := kept h M3
  replace MF := kept h MF
  replace MS := kept h MS
  replace hb := kept h hb
  replace B := keepB B h
  replace hl := lies_below hl h
  clear h cF cS cM
  have cF := (cell1 MF).1
  have cS := (cell1 MS).1
  go_wp2_with fail
  refine (GO _ _ hb hl).mono ?_
  rintro e ye ⟨rfl, h⟩
  replace M0 := kept h M0
  replace M2 := kept h M2
  replace M3 := kept h M3
  replace MF := kept h MF
  replace MS := kept h MS
  replace hb := kept h hb
  replace B := keepB B h
  replace hl := lies_below hl h
  clear h cF cS
  have cF := all11 MF
  go_wp2_with fail
  have B0 := below_two ye (.cells #[.int .i64 0] 3) (.cells #[.bool true] 4)
  have d0 := cell1 (h2_0 ye (.cells #[.int .i64 0] 3) (.cells #[.bool true] 4))
  have d1 := cell1 (h2_1 ye (.cells #[.int .i64 0] 3) (.cells #[.bool true] 4))
  have hsz : ((ye.alloc (.cells #[.int .i64 0] 3)).alloc (.cells #[.bool true] 4)).heap.size = ye.heap.size + 1 + 1 := by simp
  have sL := B.size
  generalize ((ye.alloc (.cells #[.int .i64 0] 3)).alloc (.cells #[.bool true] 4)) = W0 at *
  clear cF
  refine (wpIn_wide (n := 8)).1 ?_
  refine range1 rfl (by omega) (gf := 25) (lb := #[.pointer (some ⟨b, 0, Option.none⟩)]) rfl trivial (enters_of Try.func25 (by kernel_rfl) rfl)
    (goes_over (fld a0) (fld b0) (fld_lt w0) (fld_lt x0) _ (by omega) b ye.heap.size W0 (kept B0 hb)) belowK_t (belowK_b (by omega)) (Below.refl _ _) 19
    (fun pre W => (pre <+: z ∧ (W.cell? ⟨ye.heap.size, 0, Option.none⟩ = some (.int .i64 (pre.length : Int)) ∧ W.frozen? ⟨ye.heap.size, 0, Option.none⟩ = false) ∧ (W.cell? ⟨ye.heap.size + 1, 0, Option.none⟩ = some (.bool true) ∧ W.frozen? ⟨ye.heap.size + 1, 0, Option.none⟩ = false)) ∧ Below ye.heap.size ye W)
    (fun c pre W => c = .ret ∧ ¬ pre <+: z)
    (OwnFrom.and (Own.from (fun s A B row hs hg hr => ⟨hs.1, ⟨cell_kept hs.2.1.1 hg hr, (frozen_kept hs.2.1.1 hg hr).trans hs.2.1.2⟩, cell_kept hs.2.2.1 hg hr, (frozen_kept hs.2.2.1 hg hr).trans hs.2.2.2⟩) _) (ownFrom_below (Nat.le_refl _) (by omega)))
    (fun c => fun s A B row hs hg hr => hs)
    ⟨⟨List.nil_prefix, d0, d1⟩, B0⟩ ?assign ?body ?done ?stop
  case assign =>
    intro l x W K hK
    gi_wp2
    exact hK
  case body =>
    rintro l pre x W ⟨⟨hp, ⟨k0, f0⟩, k1, f1⟩, hB⟩ hN
    clear d0 d1 B0
    simp only [List.setIfInBounds_toArray, List.set_cons_succ, List.set_cons_zero]
    have HP : Hid (pre <+: z) := hp
    have hpl := hp.length_le
    have p0 : (0 : Int) ≤ (pre.length : Int) := by omega
    have zb : (z.length : Int) ≤ 128 := by omega
    have cS := (cell1 (kept hB MS)).1
    have cM := (cell1 (kept hB M2)).1
    have cF := (cell1 (kept hB MF)).1
    obtain ⟨cR, fR⟩ := cell1 (kept hB M3)
    have HL := lies_below hl hB
    have GOW := fun most => GO most W (kept hB hb) HL
    obtain ⟨o', cap', eo, hc⟩ := HL
    obtain ⟨rfl, -, rfl⟩ : o = o' ∧ z.length = z.length ∧ cap = cap' := by simpa using eo
    have HC : Hid (∀ i (h : i < z.length), ∃ g, o = some ⟨g, 0, Option.none⟩ ∧ W.cell? ⟨g, i, Option.none⟩ = some (.int .i64 z[i])) := hc
    clear hc eo GO hl hb M0 M2 M3 MF MS hN
    by_cases hlt : pre.length < z.length
    · obtain ⟨g, rfl, hgW⟩ := HC.out pre.length hlt
      have p1 : (pre.length : Int) < (z.length : Int) := by omega
      by_cases hx : x = z[pre.length]
      · have HX : Hid (pre ++ [x] <+: z) := by
          obtain ⟨t, rfl⟩ := hp
          cases t with
          | nil => simp at hlt
          | cons y t => simp at hx; subst hx; exact ⟨t, by simp⟩
        rw [← hx] at hgW
        clear hx hp hlt hpl
        have ce : (x != x) = false := by simp
        by_cases hm : (pre.length : Int) = a2.tmod 5
        · have cm : ((pre.length : Int) == a2.tmod 5) = true := by simp [hm]
          clear hm
          gi_wp2_with (refine ⟨trivial, ?_⟩; gi_at_call 14; refine (CallsIn.inRound l (callsIn_wide.2 (GOW _))).mono ?_; rintro e y ⟨rfl, h⟩; have l0 := World.block_lt_of_cell? W _ k0; have l1 := World.block_lt_of_cell? W _ k1; have j0 := (h.cell l0).trans k0; have j1 := (h.cell l1).trans k1; have i0 := (frozen_below h l0).trans f0; have i1 := (frozen_below h l1).trans f1; have t0 := (cell_ne (x := y) (g := ye.heap.size + 1) (n := 0) (.bool true) (p := ⟨ye.heap.size, 0, Option.none⟩) (by simp)).trans j0; have u0 := frozen_ne (q := ⟨ye.heap.size + 1, 0, Option.none⟩) (.bool true) i0)
          refine ⟨((keeps_below h).trans (KeepsOthers.setCell _ _ _)).trans (KeepsOthers.setCell _ _ _), ((h.mono hB.size).setCell (p := ⟨ye.heap.size + 1, 0, Option.none⟩) (by simp) _).setCell (p := ⟨ye.heap.size, 0, Option.none⟩) (Nat.le_refl _) _, ⟨HX.out, ⟨?_, ?_⟩, ?_, ?_⟩, ((hB.trans (h.mono hB.size)).setCell (p := ⟨ye.heap.size + 1, 0, Option.none⟩) (by simp) _).setCell (p := ⟨ye.heap.size, 0, Option.none⟩) (Nat.le_refl _) _⟩
          · rw [cell_same _ t0]; simp
          · exact frozen_ne _ u0
          · rw [cell_ne _ (by simp)]; exact cell_same _ j1
          · exact frozen_ne _ (frozen_ne _ i1)
        · have cm : ((pre.length : Int) == a2.tmod 5) = false := by simp [hm]
          clear hm
          gi_wp2
          refine ⟨KeepsOthers.setCell _ _ _, (Below.refl _ W).setCell (p := ⟨ye.heap.size, 0, Option.none⟩) (Nat.le_refl _) _, ⟨HX.out, ⟨?_, ?_⟩, ?_, ?_⟩, hB.setCell (p := ⟨ye.heap.size, 0, Option.none⟩) (Nat.le_refl _) _⟩
          · rw [cell_same _ k0]; simp
          · exact frozen_ne _ f0
          · rw [cell_ne _ (by simp)]; exact k1
          · exact frozen_ne _ f1
      · have ce : (x != z[pre.length]) = true := by simp [hx]
        have HX : Hid (¬ pre ++ [x] <+: z) := by
          intro h
          obtain ⟨t, rfl⟩ := h
          simp at hx
        generalize z[pre.length] = zi at *
        clear hx hp hlt hpl
        gi_wp2
        exact ⟨KeepsOthers.setCell _ _ _, rfl, HX.out⟩
    · have p1 : (z.length : Int) ≤ (pre.length : Int) := by omega
      have HX : Hid (¬ pre ++ [x] <+: z) := by
        intro h
        have := h.length_le
        simp at this; omega
      clear hlt hpl hp
      gi_wp2
      exact ⟨KeepsOthers.setCell _ _ _, rfl, HX.out⟩
  case done =>
    rintro D ys W hD hS ⟨⟨hp, ⟨k0, f0⟩, k1, f1⟩, hB⟩ hK
    obtain rfl : ys = z := hS.trans HZ.out.symm
    have l0 := World.block_lt_of_cell? W _ k0
    have l1 := World.block_lt_of_cell? W _ k1
    replace M0 := kept hB M0
    replace M3 := kept hB M3
    replace MS := kept hB MS
    have lS := (Array.getElem?_eq_some_iff.1 MS).1
    have cS := (cell1 MS).1
    have pl := fun y => On.len_any a0 b0 w0 x0 y
    rw [show On.lenN a0 b0 = ys.length by rw [HZ.out, Np.L_all _ _ (fld_lt w0) (fld_lt x0)]; rfl] at pl
    clear d0 d1 B0 hp GO hl hb M2 MF hS
    go_wp2_with fail
    refine Ql.region_lastL (C := Ql.Cl W) (by kernel_rfl) rfl (by kernel_rfl) (by kernel_rfl) (by kernel_rfl) rfl ((Below.refl _ _).drew) ?_
    repeat (refine wpQuiet_step (fun K hK => ?_); first
      | (refine Ql.q_cell (by rfl) 4 _ rfl (ye.heap.size + 1) 0 rfl _ k1 l1 Try.isAgg4 (hK _ ?_); clear hK K)
      | (refine Ql.q_cell (by rfl) 3 _ rfl ye.heap.size 0 rfl _ k0 l0 Try.isAgg3 (hK _ ?_); clear hK K)
      | (refine Ql.q_cell (by rfl) 35 _ rfl ya.heap.size 0 rfl _ cS lS Try.isAgg35 (hK _ ?_); clear hK K)
      | (refine Ql.q_row (by rfl) 24 _ rfl w.heap.size rfl _ _ _ _ M0 Try.underlying24 rfl zm0 (hK _ ?_); clear hK K)
      | (go_simp; apply Exists.intro; refine ⟨fun y hy => ?_, hK _ ?_⟩; (first | (go_at_call 15; exact Ql.cl_of hy (pl y))); clear hK K)
      | (go_simp; refine hK _ ?_; clear hK K)
      | (go_simp; refine ⟨_, fun _ _ => rfl, hK _ ?_⟩; clear hK K)
      | (go_simp; refine ⟨_, fun _ _ => ⟨rfl, rfl⟩, hK _ ?_⟩; clear hK K))
    refine wpQuiet_nil ?_
    intro y1 hy1
    replace hy1 : Below W.heap.size W y1 := hy1
    obtain ⟨cR, fR⟩ := cell1 (kept hy1 M3)
    have hK1 := kept hy1 hK
    have bW : Below w.heap.size w y1 := B.trans ((hB.mono sL).trans (hy1.mono (Nat.le_trans sL hB.size)))
    clear M0 M3 MS cS k0 k1 f0 f1 pl hK
    go_wp2
    have hK' := (KeepsOthers.setCell y1 ⟨w.heap.size + 1 + 1 + 1, 0, Option.none⟩ (.bool true)).same D _ hK1 rfl
    refine ⟨by simp, .inl ⟨_, _, rfl, run_takeDeferred hK', ?_⟩⟩
    have hc5 := cell_kept (cell_same (.bool true) cR) (grownBy_putObj' _ D (.deferred Option.none)) (fun r e => by cases e; exact ⟨_, hK', rfl⟩)
    refine ⟨.bool true, ?_, rfl, (bW.setCell (p := ⟨w.heap.size + 1 + 1 + 1, 0, Option.none⟩) (by simp; omega) _).trans (belowK_b (w := w) (Nat.le_refl _) _ D _ _ (by omega) hK' rfl rfl)⟩
    simp [results, Try.f3, go_sem, hc5]
  case stop =>
    rintro D c pre W hD hpre ⟨rfl, hin⟩ hK
    exact absurd (by rw [HZ.out]; exact hpre) hin
end Go.Proofs.Ytkleoklcaalogaa.Nj
