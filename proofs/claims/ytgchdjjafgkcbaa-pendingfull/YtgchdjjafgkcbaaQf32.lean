import Derived.Test.YtgchdjjafgkcbaaQf26
import Derived.Test.YtgchdjjafgkcbaaQf31
import Derived.Test.YtgchdjjafgkcbaaQf24
/- PendingFull, plain: requests n = 0, 1, .. in a table whose time does not go on. -/
namespace Go.Proofs.Ytgchdjjafgkcbaa.Fa
set_option linter.unusedVariables false
set_option linter.unusedSimpArgs false
open Go.RowKit Go.Maps Go.Shelf Lib0 Kb Xp Za Ze Pa Pb Pc Pe Pf Pg Px Pl Pw Py Ra Sa Vh Fh
def vd (l : List UInt8) : Nat := l.foldl (fun a c => a * 10 + (c.toNat - 48)) 0
theorem vd_dec (n : Nat) : vd (dec n) = n := by
  induction n using Nat.strongRecOn with
  | ind n ih =>
    rw [dec]
    by_cases h : n = 0
    · simp [h, vd]
    · have h1 := ih (n / 10) (by omega)
      simp only [h, dif_neg, not_false_eq_true]
      unfold vd at h1 ⊢
      rw [List.foldl_append, h1]
      have : (UInt8.ofNat (48 + n % 10)).toNat = 48 + n % 10 := by
        rw [UInt8.toNat_ofNat']
        omega
      simp only [List.foldl_cons, List.foldl_nil, this]
      omega
theorem ks_inj {a b : Nat} (h : ks a = ks b) : a = b := by
  have h1 : dec a = dec b := by
    unfold ks at h
    injection h with h
    exact congrArg Array.toList h
  rw [← vd_dec a, h1, vd_dec b]
theorem dec_len (n : Nat) : (dec n).length ≤ n := by
  induction n using Nat.strongRecOn with
  | ind n ih =>
    rw [dec]
    by_cases h : n = 0
    · simp [h]
    · have h1 := ih (n / 10) (by omega)
      simp only [h, dif_neg, not_false_eq_true, List.length_append, List.length_singleton]
      omega
theorem ks_size (n : Nat) : (ks n).size ≤ n := by
  have := dec_len n
  show (dec n).toArray.size ≤ n
  simpa using this
theorem ro_req {n : Nat} (hn : n ≤ 1000000) : Ro (req n) := by
  have h1 := ks_size n
  refine ⟨?_, ?_, ?_, ?_, ?_, ?_, ?_, ?_, ?_, ⟨?_, ?_, ?_⟩, ⟨?_, ?_, ?_⟩⟩
  · show I64 ((n : Int) % 3); unfold I64; omega
  · show I64 0; unfold I64; omega
  · show (ks n).size ≤ _; omega
  · show (1 : Nat) ≤ _; omega
  · show (0 : Nat) ≤ _; omega
  · show I64 ((n : Int) % 4); unfold I64; omega
  · show I64 (n : Int); unfold I64; omega
  · show (4 : Nat) ≤ _; omega
  · show (4 : Nat) ≤ _; omega
  · show (1 : Nat) ≤ _; omega
  · intro x hx
    rw [List.mem_singleton.1 hx]
    show -9223372036854775808 ≤ (11 : Int) ∧ (11 : Int) ≤ 9223372036854775807
    omega
  · intro x hx
    rw [List.mem_singleton.1 hx]
    show (ks n).size ≤ _
    omega
  · show (0 : Nat) ≤ _; omega
  · intro x hx; cases hx
  · intro x hx; cases hx
theorem map_erase {α β : Type} (f : α → β) : ∀ (L : List α) (k : Nat), (L.eraseIdx k).map f = (L.map f).eraseIdx k
  | [], k => by simp
  | x :: L, 0 => by simp
  | x :: L, k + 1 => by simp [map_erase f L k]
/-- one is taken out by its timer: the others stay in their order -/
theorem off_idx : ∀ (L : List XQ) (k : Nat) (h : k < L.length), L.Pairwise (fun x y => x.1 ≠ y.1) → offT L (L[k]).1 = L.eraseIdx k
  | [], k, h, _ => by simp at h
  | x :: L, 0, h, hp => by
    obtain ⟨h1, -⟩ := List.pairwise_cons.1 hp
    simp only [List.getElem_cons_zero, List.eraseIdx_cons_zero, offT]
    rw [List.filter_cons_of_neg (by simp)]
    exact List.filter_eq_self.2 fun y hy => by simpa using (h1 y hy).symm
  | x :: L, k + 1, h, hp => by
    obtain ⟨h1, h2⟩ := List.pairwise_cons.1 hp
    have ih := off_idx L k (by simpa using h) h2
    have hk : k < L.length := by simpa using h
    have hne : x.1 ≠ (L[k]).1 := h1 _ (List.getElem_mem hk)
    simp only [List.getElem_cons_succ, List.eraseIdx_cons_succ]
    unfold offT at ih ⊢
    rw [List.filter_cons_of_pos (by simpa using hne), ih]
/-- what the table holds: the requests of l, in that order -/
structure Fs (l : List Nat) (S : St) : Prop where
  lw : S.LW.map (·.2.2.2) = l.map req
  lr : S.LR = []
  now : S.now = 0
  tick : ∀ x ∈ S.LW, x.2.1 = 5
  small : ∀ n ∈ l, n ≤ 1000000
theorem Fs.ticks {l : List Nat} {S : St} (h : Fs l S) : S.LW.Pairwise fun x y => x.2.1 ≤ y.2.1 := by
  rw [List.pairwise_iff_forall_sublist]
  intro a b hs
  have h1 := h.tick a (hs.subset (by simp))
  have h2 := h.tick b (hs.subset (by simp))
  omega
theorem Fs.len {l : List Nat} {S : St} (h : Fs l S) : S.LW.length = l.length := by have := congrArg List.length h.lw; simpa using this
theorem Fs.mem {l : List Nat} {S : St} (h : Fs l S) {x : XQ} (hx : x ∈ S.LW) : ∃ n ∈ l, x.2.2.2 = req n := by
  have : x.2.2.2 ∈ l.map req := h.lw ▸ List.mem_map.2 ⟨x, hx, rfl⟩
  obtain ⟨n, h1, h2⟩ := List.mem_map.1 this
  exact ⟨n, h1, h2.symm⟩
theorem Fs.newK {l : List Nat} {S : St} (h : Fs l S) {n : Nat} (hr : Ro (req n)) (ha : ∀ k ∈ l, Ro (req k)) (hn : n ∉ l) : ¬ ∃ x ∈ S.LW, kl x.2.2.2 = kl (req n) := by
  rintro ⟨x, hx, e⟩
  obtain ⟨k, hk, e2⟩ := h.mem hx
  rw [e2] at e
  exact hn (ks_inj ((Eqk.key_inj (ha k hk) hr).1 e).2.2.1 ▸ hk)
theorem Fs.newN {l : List Nat} {S : St} (h : Fs l S) {n : Nat} (hr : Ro (req n)) (ha : ∀ k ∈ l, Ro (req k)) (hn : n ∉ l) : ¬ ∃ x ∈ S.LW ++ S.LR, nl x.2.2.2 = nl (req n) := by
  rintro ⟨x, hx, e⟩
  rw [h.lr, List.append_nil] at hx
  obtain ⟨k, hk, e2⟩ := h.mem hx
  rw [e2] at e
  have h3 : ((k : Nat) : Int) = (n : Int) := ((Eqk.nm_inj (ha k hk) hr).1 e).2
  have h4 : k = n := by omega
  exact hn (h4 ▸ hk)
theorem Fs.add {l : List Nat} {S : St} (h : Fs l S) {C : Cf} (hC : C.timeout = 5) (g n : Nat) (hn : n ≤ 1000000) : Fs (l ++ [n]) (addS S C g (req n)) := by
  refine ⟨?_, h.lr, h.now, fun x hx => ?_, fun k hk => ?_⟩
  · show (S.LW ++ [_]).map _ = _
    rw [List.map_append, List.map_append, h.lw]; rfl
  · rcases List.mem_append.1 hx with hx | hx
    · exact h.tick x hx
    · rw [List.mem_singleton.1 hx]
      show S.now + C.timeout = 5
      rw [h.now, hC]; rfl
  · rcases List.mem_append.1 hk with hk | hk
    · exact h.small k hk
    · rw [List.mem_singleton.1 hk]; exact hn
theorem Fs.off {l : List Nat} {S : St} (h : Fs l S) {n : Nat} {now last : Int} (ok : Ok n (S.LW.map tx) now last) (k : Nat) (hk : k < S.LW.length) : Fs (l.eraseIdx k) { S with LW := offT S.LW (S.LW[k]).1 } := by
  have hi : Vd.Inc3 (S.LW.map t3) := Vd.inc_emb (by rw [t3_emb]; exact ok.inc)
  have hp : S.LW.Pairwise fun x y => x.1 ≠ y.1 := by
    have := hi.ne
    rw [List.pairwise_map] at this
    exact this
  have e := off_idx S.LW k hk hp
  refine ⟨?_, h.lr, h.now, fun x hx => ?_, fun m hm => h.small m (List.mem_of_mem_eraseIdx hm)⟩
  · show (offT S.LW (S.LW[k]).1).map _ = _
    rw [e, map_erase, h.lw, ← map_erase]
  · have hx2 : x ∈ offT S.LW (S.LW[k]).1 := hx
    rw [e] at hx2
    exact h.tick x (List.mem_of_mem_eraseIdx hx2)
end Go.Proofs.Ytgchdjjafgkcbaa.Fa
/- PendingFull: what stands along the walk. -/
namespace Go.Proofs.Ytgchdjjafgkcbaa.Fb
set_option linter.unusedVariables false
set_option linter.unusedSimpArgs false
open Go.RowKit Go.Maps Go.Shelf Lib0 Kb Xp Za Ze Ih Fh Hh Pa Pb Pc Pe Pf Pg Px Pl Pw Py Ra Sa Vh Fa
def il (l : List Nat) : List Value := l.map fun (n : Nat) => Value.int .i64 (n : Int)
structure Fu (w x : World) (b : Nat) (C : Cf) (l : List Nat) (lv : Value) (nx : Nat) : Prop where
  tb : ∃ S, Tb x w.heap.size b C S ∧ Fs l S ∧ S.lw = (nx : Int)
  row : x.ownsRow w.heap.size tI 1 lv l.length (il l)
  bel : Below w.heap.size w x
  lt : ∀ n ∈ l, n < nx
theorem Kt.rowI {x y : World} (h : Kt x y) {base n : Nat} {v : Value} {xs : List Value} (ho : x.ownsRow base tI 1 v n xs) : y.ownsRow base tI 1 v n xs := own_keep ho fun g hg => by
  obtain ⟨c, hc⟩ := own_ty ho hg
  exact h.block g c tI _ hc (by decide) (by decide) (by decide) (by decide) (by decide)
theorem Fu.below {w x y : World} {b : Nat} {C : Cf} {l : List Nat} {lv : Value} {nx : Nat} (h : Fu w x b C l lv nx) (k : Below x.heap.size x y) : Fu w y b C l lv nx := by
  obtain ⟨S, h1, h2, h3⟩ := h.tb
  exact ⟨⟨S, h1.below k, h2, h3⟩, own_keep h.row fun g hg => k.block g (h.row.lt g hg).2, keepB h.bel k, h.lt⟩
theorem rm_req {y : World} {n base : Nat} {v1 : Value} (hn : n ≤ 1000000) (h : y.ownsRow base tF 3 v1 1 (fc [(11, ks n)])) : Rm y (req n) v1 (.slice none 0 0) := by
  have hr := ro_req hn
  exact ⟨⟨hr.m1, rowf_own h, hr.f1⟩, ⟨hr.m2, rowf_nil y, hr.f2⟩⟩
/-- Add of the next one, where there is room -/
theorem Fu.add {w x : World} {b : Nat} {C : Cf} {l : List Nat} {lv : Value} {nx : Nat} (h : Fu w x b C l lv nx) (co : Co C) (h5 : C.timeout = 5) (hx : nx + 1 ≤ 1000000) (hf : (l.length : Int) ≠ C.most) {v1 : Value} {base : Nat} (ho : x.ownsRow base tF 3 v1 1 (fc [(11, ks nx)])) :
    Calls Try.prog 13 #[.pointer (some ⟨b, 0, none⟩), pv (req nx) v1 (.slice none 0 0)] x fun e y => e = .returned (.int .i64 0) ∧ (∃ S, Tb y w.heap.size b C S ∧ Fs (l ++ [nx]) S ∧ S.lw = ((nx + 1 : Nat) : Int)) ∧ y.ownsRow w.heap.size tI 1 lv l.length (il l) ∧ Below w.heap.size w y := by
  obtain ⟨S, h1, h2, h3⟩ := h.tb
  have hni : nx ∉ l := fun e => by have := h.lt nx e; omega
  have ha : ∀ k ∈ l, Ro (req k) := fun k hk => ro_req (h2.small k hk)
  have hr := ro_req (n := nx) (by omega)
  refine (Px.add_ok h1 hr (rm_req (by omega) ho) (h2.newK hr ha hni) (h2.newN hr ha hni) (by rw [h2.len]; exact hf) co (by omega)).mono ?_
  rintro e y ⟨rfl, ⟨g, t1⟩, kt, bl⟩
  refine ⟨rfl, ⟨_, t1, h2.add h5 g nx (by omega), ?_⟩, Kt.rowI kt h.row, h.bel.trans bl⟩
  show S.lw + 1 = _
  omega
/-- Add where it is full -/
theorem Fu.full {w x : World} {b : Nat} {C : Cf} {l : List Nat} {lv : Value} {nx : Nat} (h : Fu w x b C l lv nx) (hx : nx ≤ 1000000) (hf : (l.length : Int) = C.most) {v1 : Value} {base : Nat} (ho : x.ownsRow base tF 3 v1 1 (fc [(11, ks nx)])) :
    Calls Try.prog 13 #[.pointer (some ⟨b, 0, none⟩), pv (req nx) v1 (.slice none 0 0)] x fun e y => e = .returned (.int .i64 190) ∧ Fu w y b C l lv nx := by
  obtain ⟨S, h1, h2, h3⟩ := h.tb
  have hni : nx ∉ l := fun e => by have := h.lt nx e; omega
  have ha : ∀ k ∈ l, Ro (req k) := fun k hk => ro_req (h2.small k hk)
  have hr := ro_req (n := nx) hx
  refine (Ph.add_full h1 hr (rm_req hx ho) (h2.newK hr ha hni) (h2.newN hr ha hni) (by rw [h2.len]; exact hf)).mono ?_
  rintro e y ⟨rfl, bl⟩
  exact ⟨rfl, h.below bl⟩
/-- Len -/
theorem Fu.len {w x : World} {b : Nat} {C : Cf} {l : List Nat} {lv : Value} {nx : Nat} (h : Fu w x b C l lv nx) : Calls Try.prog 11 #[.pointer (some ⟨b, 0, none⟩)] x fun e y => e = .returned (.int .i64 (l.length : Nat)) ∧ y = x := by
  obtain ⟨S, h1, h2, h3⟩ := h.tb
  have := Pg.len_tb h1
  rwa [h2.len] at this
/-- Answer of the k-th -/
theorem Fu.ans {w x : World} {b : Nat} {C : Cf} {l : List Nat} {lv : Value} {nx : Nat} (h : Fu w x b C l lv nx) (k : Nat) (hk : k < l.length) :
    Calls Try.prog 15 #[.pointer (some ⟨b, 0, none⟩), .int .i64 (req l[k]).to_, .int .i64 (req l[k]).no] x fun e y => ∃ v1 v2, e = .returned (.tuple #[pv (req l[k]) v1 v2, .int .i64 0]) ∧ (∃ S, Tb y w.heap.size b C S ∧ Fs (l.eraseIdx k) S ∧ S.lw = (nx : Int)) ∧ RowF y v1 (req l[k]).L1 ∧ RowF y v2 (req l[k]).L2 ∧ y.ownsRow w.heap.size tI 1 lv l.length (il l) ∧ Below w.heap.size w y := by
  obtain ⟨S, h1, h2, h3⟩ := h.tb
  have hk2 : k < S.LW.length := by rw [h2.len]; exact hk
  have e1 : (S.LW[k]).2.2.2 = req l[k] := by
    have e := congrArg (fun L => L[k]?) h2.lw
    simp only [List.getElem?_map, List.getElem?_eq_getElem hk2, List.getElem?_eq_getElem hk, Option.map_some] at e
    exact Option.some.inj e
  have := Py.ans_wait h1 (List.getElem_mem hk2)
  rw [e1] at this
  refine this.mono ?_
  rintro e y ⟨v1, v2, rfl, t1, r1, r2, kt, bl⟩
  exact ⟨v1, v2, rfl, ⟨_, t1, h2.off h1.iv.okw k hk2, h3⟩, rowf_own r1, rowf_own r2, Kt.rowI kt h.row, h.bel.trans bl⟩
/-- All -/
theorem Fu.all {w x : World} {b : Nat} {C : Cf} {l : List Nat} {lv : Value} {nx : Nat} (h : Fu w x b C l lv nx) (hL : l.length ≤ 65536) :
    Calls Try.prog 17 #[.pointer (some ⟨b, 0, none⟩)] x fun e y => ∃ av, e = .returned av ∧ Lst y x.heap.size x.heap.size av (l.map req) ∧ Below x.heap.size x y := by
  obtain ⟨S, h1, h2, h3⟩ := h.tb
  have := Vh.all_tb h1 (ord_lw h1.iv.okw h2.ticks) (by rw [h2.len]; exact hL)
  rwa [h2.lw] at this
/-- what stays where a row of ints grows: all blocks of other types, and maps -/
def Kj (v : Value) (x y : World) : Prop := ∀ (g : Nat) (o : Obj), x.heap[g]? = some o → (∀ c fr, o ≠ .cells c tI fr) → y.heap[g]? = some o
theorem kj_of {x y : World} {lo n : Nat} {v : Value} {xs : List Value} (ho : x.ownsRow lo tI 1 v n xs) (hg : x.grownBy y v.ownBlock) : Kj v x y := fun g o hgo hne => by
  refine (hg.block g (Array.getElem?_eq_some_iff.1 hgo).1 (fun e => ?_)).trans hgo
  obtain ⟨c, hc⟩ := own_ty ho e.symm
  rw [hgo] at hc
  injection hc with hc
  exact hne _ _ hc
section
variable {w x y : World} {base b wb rb kb hb : Nat} {Bw Br : Nat → Prop} {ck ch : Nat} {Dk Dh : DataW Value} {C : Cf} {old : Int} {XW XR : LT} {nw nr lw lr : Int} {v : Value}
theorem Kj.cell (h : Kj v x y) {g : Nat} {c : Array Value} {t : TypeId} {fr : Nat × Nat} (hg : x.heap[g]? = some (.cells c t fr)) (ht : t ≠ tI) : y.heap[g]? = x.heap[g]? := (h g _ hg (fun c2 fr2 e => ht (by injection e))).trans hg.symm
theorem Kj.row (h : Kj v x y) {lo n size : Nat} {t : TypeId} (ht : t ≠ tI) {u : Value} {xs : List Value} (ho : x.ownsRow lo t size u n xs) : y.ownsRow lo t size u n xs := own_keep ho fun g hg => by
  obtain ⟨c, hc⟩ := own_ty ho hg
  exact h.cell hc ht
theorem Kj.hd (h : Kj v x y) {g : Nat} {r : Rq} {t : Int} {l : Bool} (hd : Hd x base g r t l) : Hd y base g r t l := by
  obtain ⟨h0, v1, v2, h1, h2, h3⟩ := hd
  exact ⟨h0, v1, v2, (h.cell h1 (by decide)).trans h1, h.row (by decide) h2, h.row (by decide) h3⟩
theorem Kj.map (h : Kj v x y) {K : TypeId} {R : Value → Option (DataW Value × List MemPlace)} {mb n : Nat} {D : DataW Value} (ho : x.ownsMap Try.prog K R mb n D) : y.ownsMap Try.prog K R mb n D := by
  obtain ⟨es, cl, hk, r⟩ := ho
  exact ⟨es, cl, h mb _ hk (fun c fr e => by cases e), r⟩
theorem Kj.wheel (h : Kj v x y) {q : Nat} {B : Nat → Prop} {n : Nat} {L : LT} {now last : Int} (hw : Wl x q B n L now last) : Wl y q B n L now last := hw.keep fun g hg => by
  have hlt := hw.lt g hg
  have e : x.heap[g]? = some x.heap[g] := by simp [hlt]
  rw [e]
  refine h g _ e (fun c fr e2 => ?_)
  exact wl_kind hw (e.trans (congrArg some e2)) ⟨by decide, by decide, by decide⟩ hg
theorem Kj.tm (h : Kj v x y) (hs : x.heap.size ≤ y.heap.size) (ht : Tm x base b wb rb kb hb Bw Br ck ch Dk Dh C old XW XR nw nr lw lr) : Tm y base b wb rb kb hb Bw Br ck ch Dk Dh C old XW XR nw nr lw lr :=
  ⟨(h.cell ht.blk (by decide)).trans ht.blk, h.wheel ht.ww, h.wheel ht.wr, h.map ht.keys, h.map ht.held, ht.apart, ht.nk, ht.nh, ht.kh, ht.low, ht.loww, ht.lowr, Nat.le_trans ht.base_ hs⟩
theorem Kj.tb {S : St} (h : Kj v x y) (hs : x.heap.size ≤ y.heap.size) (ht : Tb x base b C S) : Tb y base b C S := by
  obtain ⟨wb, rb, kb, hb, Bw, Br, ck, ch, Dk, Dh, h1, h2, h3⟩ := ht.mem
  exact ⟨⟨wb, rb, kb, hb, Bw, Br, ck, ch, Dk, Dh, Kj.tm h hs h1, h2, h3⟩, fun z hz => Kj.hd h (ht.hw z hz), fun z hz => Kj.hd h (ht.hr z hz), ht.iv⟩
end
theorem fu_push {w y z : World} {b i : Nat} {C : Cf} {v v' : Value} (ht : ∃ S, Tb y w.heap.size b C S ∧ Fs (List.range i ++ [i]) S ∧ S.lw = ((i + 1 : Nat) : Int)) (hr : y.ownsRow w.heap.size tI 1 v i (il (List.range i))) (hb : Below w.heap.size w y)
    (ho : z.ownsRow w.heap.size tI 1 v' (i + 1) (il (List.range i) ++ #[Value.int .i64 (i : Int)].toList)) (hg : (y.alloc (.cells #[.int .i64 (i : Int)] tI)).grownBy z v.ownBlock) : Fu w z b C (List.range (i + 1)) v' (i + 1) := by
  obtain ⟨S, h1, h2, h3⟩ := ht
  rw [← List.range_succ] at h2
  refine ⟨⟨S, ?_, h2, h3⟩, ?_, ?_, fun n hn => by simpa using hn⟩
  · have ha := h1.below (below_one y (.cells #[.int .i64 (i : Int)] tI))
    exact Kj.tb (kj_of (hr.alloc _) hg) hg.size ha
  · rw [List.length_range, List.range_succ]
    unfold il
    rw [List.map_append]
    exact ho
  · exact (hb.alloc hb.size _).grown hg (by have := hb.size; simp; omega) (fun k hk => (hr.lt k hk).1)
end Go.Proofs.Ytgchdjjafgkcbaa.Fb
