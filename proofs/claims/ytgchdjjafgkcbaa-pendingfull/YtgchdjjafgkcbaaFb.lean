/- PendingFull: what stands along the walk. -/
import Derived.Test.YtgchdjjafgkcbaaFa
import Derived.Test.YtgchdjjafgkcbaaPick
namespace Go.Proofs.Ytgchdjjafgkcbaa.Fb
set_option linter.unusedVariables false
set_option linter.unusedSimpArgs false
open Go.RowKit Go.Maps Go.Shelf Lib0 Kb Xp Za Ze Ih Fh Hh Pa Pb Pc Pe Pf Pg Px Pl Pw Py Ra Sa Vh Fa
def il (l : List Nat) : List Value := l.map fun (n : Nat) => Value.int .i64 (n : Int)
structure Fu (w x : World) (b : Nat) (C : Cf) (l : List Nat) (lv : Value) (nx : Nat) : Prop where
  tb : ∃ S, Tb x w.heap.size b C S ∧ Fs l S ∧ S.lw = (nx : Int)
  row : x.ownsRow w.heap.size tI 1 lv l.length (il l)
  bel : Below w.heap.size w x
  lt : ∀ n ∈ l, n < nx
theorem Kt.rowI {x y : World} (h : Kt x y) {base n : Nat} {v : Value} {xs : List Value} (ho : x.ownsRow base tI 1 v n xs) : y.ownsRow base tI 1 v n xs := own_keep ho fun g hg => by
  obtain ⟨c, hc⟩ := own_ty ho hg
  exact h.block g c tI _ hc (by decide) (by decide) (by decide) (by decide) (by decide)
theorem Fu.below {w x y : World} {b : Nat} {C : Cf} {l : List Nat} {lv : Value} {nx : Nat} (h : Fu w x b C l lv nx) (k : Below x.heap.size x y) : Fu w y b C l lv nx := by
  obtain ⟨S, h1, h2, h3⟩ := h.tb
  exact ⟨⟨S, h1.below k, h2, h3⟩, own_keep h.row fun g hg => k.block g (h.row.lt g hg).2, keepB h.bel k, h.lt⟩
theorem rm_req {y : World} {n base : Nat} {v1 : Value} (hn : n ≤ 1000000) (h : y.ownsRow base tF 3 v1 1 (fc [(11, ks n)])) : Rm y (req n) v1 (.slice none 0 0) := by
  have hr := ro_req hn
  exact ⟨⟨hr.m1, rowf_own h, hr.f1⟩, ⟨hr.m2, rowf_nil y, hr.f2⟩⟩
/-- Add of the next one, where there is room -/
theorem Fu.add {w x : World} {b : Nat} {C : Cf} {l : List Nat} {lv : Value} {nx : Nat} (h : Fu w x b C l lv nx) (co : Co C) (h5 : C.timeout = 5) (hx : nx + 1 ≤ 1000000) (hf : (l.length : Int) ≠ C.most) {v1 : Value} {base : Nat} (ho : x.ownsRow base tF 3 v1 1 (fc [(11, ks nx)])) :
    Calls Try.prog 13 #[.pointer (some ⟨b, 0, none⟩), pv (req nx) v1 (.slice none 0 0)] x fun e y => e = .returned (.int .i64 0) ∧ (∃ S, Tb y w.heap.size b C S ∧ Fs (l ++ [nx]) S ∧ S.lw = ((nx + 1 : Nat) : Int)) ∧ y.ownsRow w.heap.size tI 1 lv l.length (il l) ∧ Below w.heap.size w y := by
  obtain ⟨S, h1, h2, h3⟩ := h.tb
  have hni : nx ∉ l := fun e => by have := h.lt nx e; omega
  have ha : ∀ k ∈ l, Ro (req k) := fun k hk => ro_req (h2.small k hk)
  have hr := ro_req (n := nx) (by omega)
  refine (Px.add_ok h1 hr (rm_req (by omega) ho) (h2.newK hr ha hni) (h2.newN hr ha hni) (by rw [h2.len]; exact hf) co (by omega)).mono ?_
  rintro e y ⟨rfl, ⟨g, t1⟩, kt, bl⟩
  refine ⟨rfl, ⟨_, t1, h2.add h5 g nx (by omega), ?_⟩, Kt.rowI kt h.row, h.bel.trans bl⟩
  show S.lw + 1 = _
  omega
/-- Add where it is full -/
theorem Fu.full {w x : World} {b : Nat} {C : Cf} {l : List Nat} {lv : Value} {nx : Nat} (h : Fu w x b C l lv nx) (hx : nx ≤ 1000000) (hf : (l.length : Int) = C.most) {v1 : Value} {base : Nat} (ho : x.ownsRow base tF 3 v1 1 (fc [(11, ks nx)])) :
    Calls Try.prog 13 #[.pointer (some ⟨b, 0, none⟩), pv (req nx) v1 (.slice none 0 0)] x fun e y => e = .returned (.int .i64 190) ∧ Fu w y b C l lv nx := by
  obtain ⟨S, h1, h2, h3⟩ := h.tb
  have hni : nx ∉ l := fun e => by have := h.lt nx e; omega
  have ha : ∀ k ∈ l, Ro (req k) := fun k hk => ro_req (h2.small k hk)
  have hr := ro_req (n := nx) hx
  refine (Ph.add_full h1 hr (rm_req hx ho) (h2.newK hr ha hni) (h2.newN hr ha hni) (by rw [h2.len]; exact hf)).mono ?_
  rintro e y ⟨rfl, bl⟩
  exact ⟨rfl, h.below bl⟩
/-- Len -/
theorem Fu.len {w x : World} {b : Nat} {C : Cf} {l : List Nat} {lv : Value} {nx : Nat} (h : Fu w x b C l lv nx) : Calls Try.prog 11 #[.pointer (some ⟨b, 0, none⟩)] x fun e y => e = .returned (.int .i64 (l.length : Nat)) ∧ y = x := by
  obtain ⟨S, h1, h2, h3⟩ := h.tb
  have := Pg.len_tb h1
  rwa [h2.len] at this
/-- Answer of the k-th -/
theorem Fu.ans {w x : World} {b : Nat} {C : Cf} {l : List Nat} {lv : Value} {nx : Nat} (h : Fu w x b C l lv nx) (k : Nat) (hk : k < l.length) :
    Calls Try.prog 15 #[.pointer (some ⟨b, 0, none⟩), .int .i64 (req l[k]).to_, .int .i64 (req l[k]).no] x fun e y => ∃ v1 v2, e = .returned (.tuple #[pv (req l[k]) v1 v2, .int .i64 0]) ∧ (∃ S, Tb y w.heap.size b C S ∧ Fs (l.eraseIdx k) S ∧ S.lw = (nx : Int)) ∧ RowF y v1 (req l[k]).L1 ∧ RowF y v2 (req l[k]).L2 ∧ y.ownsRow w.heap.size tI 1 lv l.length (il l) ∧ Below w.heap.size w y := by
  obtain ⟨S, h1, h2, h3⟩ := h.tb
  have hk2 : k < S.LW.length := by rw [h2.len]; exact hk
  have e1 : (S.LW[k]).2.2.2 = req l[k] := by
    have e := congrArg (fun L => L[k]?) h2.lw
    simp only [List.getElem?_map, List.getElem?_eq_getElem hk2, List.getElem?_eq_getElem hk, Option.map_some] at e
    exact Option.some.inj e
  have := Py.ans_wait h1 (List.getElem_mem hk2)
  rw [e1] at this
  refine this.mono ?_
  rintro e y ⟨v1, v2, rfl, t1, r1, r2, kt, bl⟩
  exact ⟨v1, v2, rfl, ⟨_, t1, h2.off h1.iv.okw k hk2, h3⟩, rowf_own r1, rowf_own r2, Kt.rowI kt h.row, h.bel.trans bl⟩
/-- All -/
theorem Fu.all {w x : World} {b : Nat} {C : Cf} {l : List Nat} {lv : Value} {nx : Nat} (h : Fu w x b C l lv nx) (hL : l.length ≤ 65536) :
    Calls Try.prog 17 #[.pointer (some ⟨b, 0, none⟩)] x fun e y => ∃ av, e = .returned av ∧ Lst y x.heap.size x.heap.size av (l.map req) ∧ Below x.heap.size x y := by
  obtain ⟨S, h1, h2, h3⟩ := h.tb
  have := Vh.all_tb h1 (ord_lw h1.iv.okw h2.ticks) (by rw [h2.len]; exact hL)
  rwa [h2.lw] at this
/-- what stays where a row of ints grows: all blocks of other types, and maps -/
def Kj (v : Value) (x y : World) : Prop := ∀ (g : Nat) (o : Obj), x.heap[g]? = some o → (∀ c fr, o ≠ .cells c tI fr) → y.heap[g]? = some o
theorem kj_of {x y : World} {lo n : Nat} {v : Value} {xs : List Value} (ho : x.ownsRow lo tI 1 v n xs) (hg : x.grownBy y v.ownBlock) : Kj v x y := fun g o hgo hne => by
  refine (hg.block g (Array.getElem?_eq_some_iff.1 hgo).1 (fun e => ?_)).trans hgo
  obtain ⟨c, hc⟩ := own_ty ho e.symm
  rw [hgo] at hc
  injection hc with hc
  exact hne _ _ hc
section
variable {w x y : World} {base b wb rb kb hb : Nat} {Bw Br : Nat → Prop} {ck ch : Nat} {Dk Dh : DataW Value} {C : Cf} {old : Int} {XW XR : LT} {nw nr lw lr : Int} {v : Value}
theorem Kj.cell (h : Kj v x y) {g : Nat} {c : Array Value} {t : TypeId} {fr : Nat × Nat} (hg : x.heap[g]? = some (.cells c t fr)) (ht : t ≠ tI) : y.heap[g]? = x.heap[g]? := (h g _ hg (fun c2 fr2 e => ht (by injection e))).trans hg.symm
theorem Kj.row (h : Kj v x y) {lo n size : Nat} {t : TypeId} (ht : t ≠ tI) {u : Value} {xs : List Value} (ho : x.ownsRow lo t size u n xs) : y.ownsRow lo t size u n xs := own_keep ho fun g hg => by
  obtain ⟨c, hc⟩ := own_ty ho hg
  exact h.cell hc ht
theorem Kj.hd (h : Kj v x y) {g : Nat} {r : Rq} {t : Int} {l : Bool} (hd : Hd x base g r t l) : Hd y base g r t l := by
  obtain ⟨h0, v1, v2, h1, h2, h3⟩ := hd
  exact ⟨h0, v1, v2, (h.cell h1 (by decide)).trans h1, h.row (by decide) h2, h.row (by decide) h3⟩
theorem Kj.map (h : Kj v x y) {K : TypeId} {R : Value → Option (DataW Value × List MemPlace)} {mb n : Nat} {D : DataW Value} (ho : x.ownsMap Try.prog K R mb n D) : y.ownsMap Try.prog K R mb n D := by
  obtain ⟨es, cl, hk, r⟩ := ho
  exact ⟨es, cl, h mb _ hk (fun c fr e => by cases e), r⟩
theorem Kj.wheel (h : Kj v x y) {q : Nat} {B : Nat → Prop} {n : Nat} {L : LT} {now last : Int} (hw : Wl x q B n L now last) : Wl y q B n L now last := hw.keep fun g hg => by
  have hlt := hw.lt g hg
  have e : x.heap[g]? = some x.heap[g] := by simp [hlt]
  rw [e]
  refine h g _ e (fun c fr e2 => ?_)
  exact wl_kind hw (e.trans (congrArg some e2)) ⟨by decide, by decide, by decide⟩ hg
theorem Kj.tm (h : Kj v x y) (hs : x.heap.size ≤ y.heap.size) (ht : Tm x base b wb rb kb hb Bw Br ck ch Dk Dh C old XW XR nw nr lw lr) : Tm y base b wb rb kb hb Bw Br ck ch Dk Dh C old XW XR nw nr lw lr :=
  ⟨(h.cell ht.blk (by decide)).trans ht.blk, h.wheel ht.ww, h.wheel ht.wr, h.map ht.keys, h.map ht.held, ht.apart, ht.nk, ht.nh, ht.kh, ht.low, ht.loww, ht.lowr, Nat.le_trans ht.base_ hs⟩
theorem Kj.tb {S : St} (h : Kj v x y) (hs : x.heap.size ≤ y.heap.size) (ht : Tb x base b C S) : Tb y base b C S := by
  obtain ⟨wb, rb, kb, hb, Bw, Br, ck, ch, Dk, Dh, h1, h2, h3⟩ := ht.mem
  exact ⟨⟨wb, rb, kb, hb, Bw, Br, ck, ch, Dk, Dh, Kj.tm h hs h1, h2, h3⟩, fun z hz => Kj.hd h (ht.hw z hz), fun z hz => Kj.hd h (ht.hr z hz), ht.iv⟩
end
theorem fu_push {w y z : World} {b i : Nat} {C : Cf} {v v' : Value} (ht : ∃ S, Tb y w.heap.size b C S ∧ Fs (List.range i ++ [i]) S ∧ S.lw = ((i + 1 : Nat) : Int)) (hr : y.ownsRow w.heap.size tI 1 v i (il (List.range i))) (hb : Below w.heap.size w y)
    (ho : z.ownsRow w.heap.size tI 1 v' (i + 1) (il (List.range i) ++ #[Value.int .i64 (i : Int)].toList)) (hg : (y.alloc (.cells #[.int .i64 (i : Int)] tI)).grownBy z v.ownBlock) : Fu w z b C (List.range (i + 1)) v' (i + 1) := by
  obtain ⟨S, h1, h2, h3⟩ := ht
  rw [← List.range_succ] at h2
  refine ⟨⟨S, ?_, h2, h3⟩, ?_, ?_, fun n hn => by simpa using hn⟩
  · have ha := h1.below (below_one y (.cells #[.int .i64 (i : Int)] tI))
    exact Kj.tb (kj_of (hr.alloc _) hg) hg.size ha
  · rw [List.length_range, List.range_succ]
    unfold il
    rw [List.map_append]
    exact ho
  · exact (hb.alloc hb.size _).grown hg (by have := hb.size; simp; omega) (fun k hk => (hr.lt k hk).1)
end Go.Proofs.Ytgchdjjafgkcbaa.Fb
