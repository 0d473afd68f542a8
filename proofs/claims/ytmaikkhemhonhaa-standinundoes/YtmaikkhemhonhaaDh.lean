/- The heap of records: in memory; Less, Swap, Len. -/
import Derived.Test.YtmaikkhemhonhaaDe
import Derived.Handy
namespace Go.Proofs.Ytmaikkhemhonhaa.Dh
set_option linter.unusedVariables false
set_option linter.unusedSimpArgs false
open Go.RowKit Go.Maps Lib0 Kb Xp Da Db Dc Dd De
attribute [local go_sem] Oper.semAt_some
/-- what stays: all but blocks of cells of these types -/
structure KT (S : TypeId → Bool) (w w' : World) : Prop where
  os : w'.os = w.os
  tape : w'.tape = w.tape
  output : w'.output = w.output
  size : w.heap.size ≤ w'.heap.size
  block : ∀ (g : Nat) (o : Obj), w.heap[g]? = some o → (∀ c t fr, o = .cells c t fr → S t = false) → w'.heap[g]? = some o
theorem KT.refl (S : TypeId → Bool) (w : World) : KT S w w := ⟨rfl, rfl, rfl, Nat.le_refl _, fun _ _ h _ => h⟩
theorem KT.of {S : TypeId → Bool} {w x : World} (h : Below w.heap.size w x) : KT S w x := ⟨h.os, h.tape, h.output, h.size, fun g o hg _ => (h.block g (Array.getElem?_eq_some_iff.1 hg).1).trans hg⟩
theorem KT.trans {S : TypeId → Bool} {w x y : World} (h : KT S w x) (k : KT S x y) : KT S w y := ⟨k.os.trans h.os, k.tape.trans h.tape, k.output.trans h.output, Nat.le_trans h.size k.size, fun g o hg hn => k.block g o (h.block g o hg hn) hn⟩
theorem KT.mono {S T : TypeId → Bool} {w x : World} (h : KT S w x) (hs : ∀ t, S t = true → T t = true) : KT T w x := ⟨h.os, h.tape, h.output, h.size, fun g o hg hn => h.block g o hg fun c t fr e => by
  have := hn c t fr e
  cases hS : S t with
  | false => rfl
  | true => rw [hs t hS] at this; cases this⟩
theorem KT.set {S : TypeId → Bool} {w : World} {g o : Nat} {c : Array Value} {t : TypeId} {fr : Nat × Nat} (hg : w.heap[g]? = some (.cells c t fr)) (ht : S t = true) (v : Value) : KT S w (w.setCell ⟨g, o, none⟩ v) :=
  ⟨rfl, rfl, rfl, by rw [setCell_size]; exact Nat.le_refl _, fun k ob hk hn => (setCell_ne (p := ⟨g, o, none⟩) (fun e : g = k => by
    subst e
    rw [hg] at hk
    injection hk with hk
    have := hn _ _ _ hk.symm
    rw [ht] at this; cases this) v).trans hk⟩
theorem KT.row {S : TypeId → Bool} {w x : World} (h : KT S w x) {base n size : Nat} {t : TypeId} {v : Value} {xs : List Value} (ho : w.ownsRow base t size v n xs) (ht : S t = false) : x.ownsRow base t size v n xs := own_keep ho fun g hg => by
  obtain ⟨c, hc⟩ := own_ty ho hg
  exact (h.block g _ hc (fun c2 t2 fr2 e => by injection e with _ e; rw [← e]; exact ht)).trans hc.symm
theorem KT.cells {S : TypeId → Bool} {w x : World} (h : KT S w x) {g : Nat} {c : Array Value} {t : TypeId} {fr : Nat × Nat} (hc : w.heap[g]? = some (.cells c t fr)) (ht : S t = false) : x.heap[g]? = some (.cells c t fr) := h.block g _ hc (fun c2 t2 fr2 e => by injection e with _ e; rw [← e]; exact ht)
theorem KT.map {S : TypeId → Bool} {w x : World} (h : KT S w x) {k : TypeId} {R : Value → Option (DataW Value × List MemPlace)} {b n : Nat} {D : DataW Value} (ho : w.ownsMap Try.prog k R b n D) : x.ownsMap Try.prog k R b n D := by
  obtain ⟨es, cl, e, r⟩ := ho
  exact ⟨es, cl, h.block b _ e (fun c t fr e => by cases e), r⟩
def sH (t : TypeId) : Bool := t == tP || t == tR || t == tB
structure HpM (x : World) (base b : Nat) (bc : Array Value) (av : Value) (A : List Rc) : Prop where
  blk : x.heap[b]? = some (.cells bc tB (0, 0))
  at4 : bc[4]? = some av
  row : x.ownsRow base tP 1 av A.length (A.map fun a => ptr a.gr)
  recs : ∀ i (h : i < A.length), x.heap[A[i].gr]? = some (.cells (rcs A[i] i) tR (0, 0))
  apart : A.Pairwise fun a c => a.gr ≠ c.gr
  low : base ≤ b
  lowr : ∀ a ∈ A, base ≤ a.gr
  bas : base ≤ x.heap.size
  len : A.length ≤ 1000000
theorem HpM.below {x y : World} {base b : Nat} {bc : Array Value} {av : Value} {A : List Rc} (h : HpM x base b bc av A) (k : Below x.heap.size x y) : HpM y base b bc av A :=
  ⟨kept k h.blk, h.at4, own_keep h.row fun g hg => k.block g (h.row.lt g hg).2, fun i hi => kept k (h.recs i hi), h.apart, h.low, h.lowr, Nat.le_trans h.bas k.size, h.len⟩
theorem HpM.cell4 {x : World} {base b : Nat} {bc : Array Value} {av : Value} {A : List Rc} (h : HpM x base b bc av A) : x.cell? ⟨b, 4, none⟩ = some av ∧ x.frozen? ⟨b, 4, none⟩ = false := by
  have := h.blk
  exact ⟨by simp [World.cell?, this, h.at4], by simp [World.frozen?, this]⟩
theorem HpM.form {x : World} {base b : Nat} {bc : Array Value} {av : Value} {A : List Rc} (h : HpM x base b bc av A) (hn : 0 < A.length) : ∃ g cap, av = .slice (some ⟨g, 0, none⟩) A.length cap ∧ base ≤ g ∧ ∃ c, x.heap[g]? = some (.cells c tP (0, 0)) := by
  rcases h.row.2 with ⟨rfl, h0⟩ | ⟨g, cap, cur, rfl, h1, h2, h3, h4, h5⟩
  · omega
  · exact ⟨g, cap, rfl, h1, cur, h2⟩
theorem HpM.at_ {x : World} {base b g cap n : Nat} {bc : Array Value} {A : List Rc} (h : HpM x base b bc (.slice (some ⟨g, 0, none⟩) n cap) A) (i : Nat) (hi : i < A.length) : x.cell? ⟨g, i, none⟩ = some (ptr A[i].gr) ∧ x.cell? ⟨A[i].gr, 3, none⟩ = some (.int .i64 (lastN A[i].L)) ∧ x.cell? ⟨A[i].gr, 4, none⟩ = some (.int .i64 (i : Int)) ∧ x.frozen? ⟨g, i, none⟩ = false ∧ x.frozen? ⟨A[i].gr, 4, none⟩ = false := by
  have h1 := h.row.cells (g := g) rfl i (ptr A[i].gr) (by simp [hi])
  rw [add_zero] at h1
  have h2 := h.recs i hi
  unfold rcs at h2
  obtain ⟨c, hc⟩ := own_ty h.row (g := g) rfl
  refine ⟨h1, ?_, ?_, ?_, ?_⟩
  · simp [World.cell?, h2]
  · simp [World.cell?, h2]
  · simp [World.frozen?, hc]
  · simp [World.frozen?, h2]
def kN (A : List Rc) (i : Nat) : Int := match A[i]? with
  | some a => lastN a.L
  | none => 0
theorem kN_get {A : List Rc} {i : Nat} (h : i < A.length) : kN A i = lastN A[i].L := by simp [kN, h]
set_option maxRecDepth 100000 in
theorem less_any {w : World} {base b : Nat} {bc : Array Value} {av : Value} {A : List Rc} (h : HpM w base b bc av A) (i j : Nat) (hi : i < A.length) (hj : j < A.length) : Calls Try.prog 81 #[av, .int .i64 (i : Int), .int .i64 (j : Int)] w fun e w' => e = .returned (.bool (decide (kN A i < kN A j))) ∧ Below w.heap.size w w' := by
  obtain ⟨g, cap, rfl, -⟩ := h.form (by omega)
  obtain ⟨i0, i1, -⟩ := h.at_ i hi
  obtain ⟨j0, j1, -⟩ := h.at_ j hj
  rw [kN_get hi, kN_get hj]
  have q1 : (i : Int) < (A.length : Int) := by omega
  have q2 : (j : Int) < (A.length : Int) := by omega
  have q3 : (0 : Int) ≤ (i : Int) := by omega
  have q4 : (0 : Int) ≤ (j : Int) := by omega
  unfold ptr at i0 j0
  generalize lastN A[i].L = x at *
  generalize lastN A[j].L = y at *
  generalize A[i].gr = gi at *
  generalize A[j].gr = gj at *
  generalize A.length = N at *
  clear h hi hj
  go_enter Try.func81, Try.ntmps81
  go_wp2_with fail
  go_quiet (fail)
  go_wp2_with fail
  go_ret
  exact ⟨rfl, below_drewN (Below.refl _ _) _⟩
theorem len_any (v : Value) (N cap : Nat) (o : Option Addr) (w : World) : Calls Try.prog 80 #[.slice o N cap] w fun e w' => e = .returned (.int .i64 (N : Int)) ∧ w' = w := by
  go_enter Try.func80, Try.ntmps80
  go_wp2_with fail
  go_ret
  exact ⟨rfl, rfl⟩
/-- the world behind a swap -/
def swW (w : World) (g gi gj i j : Nat) : World := (((w.setCell ⟨g, i, none⟩ (ptr gj)).setCell ⟨g, j, none⟩ (ptr gi)).setCell ⟨gj, 4, none⟩ (.int .i64 (i : Int))).setCell ⟨gi, 4, none⟩ (.int .i64 (j : Int))
theorem get_set (c : Array Value) (i j : Nat) (v : Value) : (c.setIfInBounds i v)[j]? = if i = j then (if i < c.size then some v else none) else c[j]? := by
  rw [Array.getElem?_setIfInBounds]
set_option maxRecDepth 100000 in
theorem swap_raw {w : World} (g cap N gi gj i j : Nat) (cg ci cj : Array Value) (hij : i ≠ j) (hne : gi ≠ gj) (hi : i < N) (hj : j < N) (hg : w.heap[g]? = some (.cells cg tP (0, 0))) (hgi : w.heap[gi]? = some (.cells ci tR (0, 0))) (hgj : w.heap[gj]? = some (.cells cj tR (0, 0))) (i0 : cg[i]? = some (ptr gi)) (j0 : cg[j]? = some (ptr gj)) (i4 : ci[4]? = some (.int .i64 (i : Int))) (j4 : cj[4]? = some (.int .i64 (j : Int))) :
    Calls Try.prog 82 #[.slice (some ⟨g, 0, none⟩) N cap, .int .i64 (i : Int), .int .i64 (j : Int)] w fun e w' => e = .returned (.tuple #[]) ∧ Below (swW w g gi gj i j).heap.size (swW w g gi gj i j) w' := by
  have q1 : (i : Int) < (N : Int) := by omega
  have q2 : (j : Int) < (N : Int) := by omega
  have q3 : (0 : Int) ≤ (i : Int) := by omega
  have q4 : (0 : Int) ≤ (j : Int) := by omega
  have ngi : g ≠ gi := fun e => ty_ne hg hgi (by decide) e
  have ngj : g ≠ gj := fun e => ty_ne hg hgj (by decide) e
  have s1 : i < cg.size := (Array.getElem?_eq_some_iff.1 i0).1
  have s2 : j < cg.size := (Array.getElem?_eq_some_iff.1 j0).1
  have s3 : 4 < ci.size := (Array.getElem?_eq_some_iff.1 i4).1
  have s4 : 4 < cj.size := (Array.getElem?_eq_some_iff.1 j4).1
  have x1 : (w.setCell ⟨g, i, none⟩ (ptr gj)).heap[g]? = some (.cells (cg.setIfInBounds i (ptr gj)) tP (0, 0)) := setCell_heap hg _ _
  have x2 : ((w.setCell ⟨g, i, none⟩ (ptr gj)).setCell ⟨g, j, none⟩ (ptr gi)).heap[g]? = some (.cells ((cg.setIfInBounds i (ptr gj)).setIfInBounds j (ptr gi)) tP (0, 0)) := setCell_heap x1 _ _
  have x3 : ((w.setCell ⟨g, i, none⟩ (ptr gj)).setCell ⟨g, j, none⟩ (ptr gi)).heap[gi]? = some (.cells ci tR (0, 0)) := by rw [setCell_ne (p := ⟨g, j, none⟩) ngi, setCell_ne (p := ⟨g, i, none⟩) ngi]; exact hgi
  have x4 : ((w.setCell ⟨g, i, none⟩ (ptr gj)).setCell ⟨g, j, none⟩ (ptr gi)).heap[gj]? = some (.cells cj tR (0, 0)) := by rw [setCell_ne (p := ⟨g, j, none⟩) ngj, setCell_ne (p := ⟨g, i, none⟩) ngj]; exact hgj
  have a0 : w.cell? ⟨g, i, none⟩ = some (ptr gi) := by simp [World.cell?, hg, i0]
  have a1 : w.cell? ⟨g, j, none⟩ = some (ptr gj) := by simp [World.cell?, hg, j0]
  have f0 : ∀ k, w.frozen? ⟨g, k, none⟩ = false := fun k => by simp [World.frozen?, hg]
  have f1 := f0 i
  have f2 := f0 j
  obtain ⟨W, hW⟩ : ∃ W, (w.setCell ⟨g, i, none⟩ (ptr gj)).setCell ⟨g, j, none⟩ (ptr gi) = W := ⟨_, rfl⟩
  rw [hW] at x2 x3 x4
  have HSW : Hid (swW w g gi gj i j = (W.setCell ⟨gj, 4, none⟩ (.int .i64 (i : Int))).setCell ⟨gi, 4, none⟩ (.int .i64 (j : Int))) := by
    show swW w g gi gj i j = _
    rw [← hW]; rfl
  have b0 : W.drew.cell? ⟨g, i, none⟩ = some (ptr gj) := by
    show W.cell? _ = _
    simp [World.cell?, x2, Array.getElem?_setIfInBounds, hij, Ne.symm hij, s1, s2]
  have b1 : W.drew.cell? ⟨g, j, none⟩ = some (ptr gi) := by
    show W.cell? _ = _
    simp [World.cell?, x2, Array.getElem?_setIfInBounds, hij, Ne.symm hij, s1, s2]
  have b2 : W.drew.cell? ⟨gi, 4, none⟩ = some (.int .i64 (i : Int)) := by
    show W.cell? _ = _
    simp [World.cell?, x3, i4]
  have b3 : W.drew.cell? ⟨gj, 4, none⟩ = some (.int .i64 (j : Int)) := by
    show W.cell? _ = _
    simp [World.cell?, x4, j4]
  have f3 : W.drew.frozen? ⟨gi, 4, none⟩ = false := by
    show W.frozen? _ = _
    simp [World.frozen?, x3]
  have f4 : W.drew.frozen? ⟨gj, 4, none⟩ = false := by
    show W.frozen? _ = _
    simp [World.frozen?, x4]
  obtain ⟨V, hV⟩ : ∃ V, W.drew = V := ⟨_, rfl⟩
  have HV : Hid (W.drew = V) := hV
  rw [hV] at b0 b1 b2 b3 f3 f4
  have c0 : V.drew.cell? ⟨g, i, none⟩ = some (ptr gj) := b0
  have c1 : V.drew.cell? ⟨g, j, none⟩ = some (ptr gi) := b1
  have HWW : Hid ((w.setCell ⟨g, i, none⟩ (.pointer (some ⟨gj, 0, none⟩))).setCell ⟨g, j, none⟩ (.pointer (some ⟨gi, 0, none⟩)) = W) := hW
  unfold ptr at a0 a1 b0 b1 c0 c1
  clear hi hj f0 x1 x2 x3 x4 hg hgi hgj i0 j0 i4 j4 s1 s2 s3 s4 hW hV
  go_enter Try.func82, Try.ntmps82
  go_wp2_with fail
  go_region
  rw [HWW.out, HV.out]
  go_wp2_with fail
  go_region
  go_wp2_with fail
  go_end0
  refine ⟨rfl, ?_⟩
  rw [HSW.out, ← HV.out]
  exact ((Below.refl _ ((W.setCell ⟨gj, 4, none⟩ (.int .i64 (i : Int))).setCell ⟨gi, 4, none⟩ (.int .i64 (j : Int)))).drew).drew
def swp (A : List Rc) (i j : Nat) (hi : i < A.length) (hj : j < A.length) : List Rc := (A.set i A[j]).set j A[i]
theorem swp_len (A : List Rc) (i j : Nat) (hi : i < A.length) (hj : j < A.length) : (swp A i j hi hj).length = A.length := by simp [swp]
theorem swp_get (A : List Rc) (i j : Nat) (hi : i < A.length) (hj : j < A.length) (k : Nat) (hk : k < A.length) : (swp A i j hi hj)[k]'(by rw [swp_len]; exact hk) = if j = k then A[i] else if i = k then A[j] else A[k] := by
  simp only [swp, List.getElem_set]
theorem swp_perm (A : List Rc) (i j : Nat) (hi : i < A.length) (hj : j < A.length) : (swp A i j hi hj).Perm A := List.set_set_perm hi hj
theorem swp_kN (A : List Rc) (i j : Nat) (hi : i < A.length) (hj : j < A.length) (k : Nat) (hk : k < A.length) : kN (swp A i j hi hj) k = if j = k then kN A i else if i = k then kN A j else kN A k := by
  rw [kN_get (by rw [swp_len]; exact hk), swp_get A i j hi hj k hk, kN_get hi, kN_get hj, kN_get hk]
  split
  · rfl
  · split <;> rfl
theorem pair_ne {A : List Rc} (h : A.Pairwise fun a c => a.gr ≠ c.gr) {i j : Nat} (hi : i < A.length) (hj : j < A.length) (hij : i ≠ j) : A[i].gr ≠ A[j].gr := by
  by_cases e : i < j
  · exact List.pairwise_iff_getElem.1 h i j hi hj e
  · exact fun e2 => List.pairwise_iff_getElem.1 h j i hj hi (by omega) e2.symm
theorem rcs_set (a : Rc) (p q : Int) : (rcs a p).setIfInBounds 4 (.int .i64 q) = rcs a q := rfl
/-- what became of a heap -/
def PH (w : World) (base b : Nat) (bc : Array Value) (av : Value) (A' : List Rc) (w' : World) : Prop := HpM w' base b bc av A' ∧ KT sH w w' ∧ Below base w w'
theorem swap_mem {w : World} {base b g cap n : Nat} {bc : Array Value} {A : List Rc} (h : HpM w base b bc (.slice (some ⟨g, 0, none⟩) n cap) A) (i j : Nat) (hi : i < A.length) (hj : j < A.length) (hij : i ≠ j) : PH w base b bc (.slice (some ⟨g, 0, none⟩) n cap) (swp A i j hi hj) (swW w g A[i].gr A[j].gr i j) := by
  obtain rfl : n = A.length := by
    rcases h.row.2 with ⟨h0, _⟩ | ⟨g', cap', cur, h0, _⟩
    · cases h0
    · injection h0
  have hne := pair_ne h.apart hi hj hij
  have hri := h.recs i hi
  have hrj := h.recs j hj
  obtain ⟨c, hg⟩ := own_ty h.row (g := g) rfl
  have hlg : base ≤ g := (h.row.lt g rfl).1
  have ngi : g ≠ A[i].gr := fun e => ty_ne hg hri (by decide) e
  have ngj : g ≠ A[j].gr := fun e => ty_ne hg hrj (by decide) e
  have nbg : b ≠ g := fun e => ty_ne h.blk hg (by decide) e
  have nbi : b ≠ A[i].gr := fun e => ty_ne h.blk hri (by decide) e
  have nbj : b ≠ A[j].gr := fun e => ty_ne h.blk hrj (by decide) e
  have r2 := ((h.row.stored i (ptr A[j].gr)).1.stored j (ptr A[i].gr)).1
  have hx : ∀ k, k ≠ A[i].gr → k ≠ A[j].gr → (swW w g A[i].gr A[j].gr i j).heap[k]? = ((w.setCell ⟨g, i, none⟩ (ptr A[j].gr)).setCell ⟨g, j, none⟩ (ptr A[i].gr)).heap[k]? := fun k h1 h2 => by
    unfold swW
    rw [setCell_ne (p := ⟨A[i].gr, 4, none⟩) (fun e => h1 e.symm), setCell_ne (p := ⟨A[j].gr, 4, none⟩) (fun e => h2 e.symm)]
  have hy : ∀ k, k ≠ g → ((w.setCell ⟨g, i, none⟩ (ptr A[j].gr)).setCell ⟨g, j, none⟩ (ptr A[i].gr)).heap[k]? = w.heap[k]? := fun k h1 => by
    rw [setCell_ne (p := ⟨g, j, none⟩) (fun e => h1 e.symm), setCell_ne (p := ⟨g, i, none⟩) (fun e => h1 e.symm)]
  have zi : (swW w g A[i].gr A[j].gr i j).heap[A[i].gr]? = some (.cells (rcs A[i] j) tR (0, 0)) := by
    have h1 : ((((w.setCell ⟨g, i, none⟩ (ptr A[j].gr)).setCell ⟨g, j, none⟩ (ptr A[i].gr)).setCell ⟨A[j].gr, 4, none⟩ (.int .i64 (i : Int))).heap[A[i].gr]?) = some (.cells (rcs A[i] i) tR (0, 0)) := by rw [setCell_ne (p := ⟨A[j].gr, 4, none⟩) (fun e => hne e.symm), hy _ (Ne.symm ngi)]; exact hri
    unfold swW
    rw [setCell_heap h1, rcs_set]
  have zj : (swW w g A[i].gr A[j].gr i j).heap[A[j].gr]? = some (.cells (rcs A[j] i) tR (0, 0)) := by
    have h1 : (((w.setCell ⟨g, i, none⟩ (ptr A[j].gr)).setCell ⟨g, j, none⟩ (ptr A[i].gr)).heap[A[j].gr]?) = some (.cells (rcs A[j] j) tR (0, 0)) := by rw [hy _ (Ne.symm ngj)]; exact hrj
    unfold swW
    rw [setCell_ne (p := ⟨A[i].gr, 4, none⟩) hne, setCell_heap h1, rcs_set]
  refine ⟨⟨?_, h.at4, ?_, fun k hk => ?_, ?_, h.low, fun a ha => h.lowr a ((swp_perm A i j hi hj).mem_iff.1 ha), ?_, by rw [swp_len]; exact h.len⟩, ?_, ?_⟩
  · rw [hx b nbi nbj, hy b nbg]; exact h.blk
  · rw [swp_len]
    have e : (swp A i j hi hj).map (fun a => ptr a.gr) = ((A.map fun a => ptr a.gr).set i (ptr A[j].gr)).set j (ptr A[i].gr) := by simp [swp, List.map_set]
    rw [e]
    exact own_keep r2 fun k hk => by
      have : g = k := by simpa [Value.ownBlock] using hk
      subst this
      exact hx _ ngi ngj
  · have hk2 : k < A.length := by rw [swp_len] at hk; exact hk
    rw [swp_get A i j hi hj k hk2]
    by_cases e1 : j = k
    · subst e1; rw [if_pos rfl]; exact zi
    · rw [if_neg e1]
      by_cases e2 : i = k
      · subst e2; rw [if_pos rfl]; exact zj
      · rw [if_neg e2, hx _ (pair_ne h.apart hk2 hi (fun e => e2 e.symm)) (pair_ne h.apart hk2 hj (fun e => e1 e.symm)), hy _ (fun e => ty_ne hg (h.recs k hk2) (by decide) e.symm)]
        exact h.recs k hk2
  · exact (swp_perm A i j hi hj).pairwise_iff (fun h e => h e.symm) |>.2 h.apart
  · unfold swW; simp only [setCell_size]; exact h.bas
  · have k1 : KT sH w (w.setCell ⟨g, i, none⟩ (ptr A[j].gr)) := KT.set hg (by decide) _
    have k2 : KT sH (w.setCell ⟨g, i, none⟩ (ptr A[j].gr)) _ := KT.set (o := j) (setCell_heap hg i _) (by decide) (ptr A[i].gr)
    have k3 : KT sH _ _ := KT.set (o := 4) (show ((w.setCell ⟨g, i, none⟩ (ptr A[j].gr)).setCell ⟨g, j, none⟩ (ptr A[i].gr)).heap[A[j].gr]? = some (.cells (rcs A[j] j) tR (0, 0)) by rw [hy _ (Ne.symm ngj)]; exact hrj) (S := sH) (by decide) (.int .i64 (i : Int))
    have k4 : KT sH _ _ := KT.set (o := 4) (show (((w.setCell ⟨g, i, none⟩ (ptr A[j].gr)).setCell ⟨g, j, none⟩ (ptr A[i].gr)).setCell ⟨A[j].gr, 4, none⟩ (.int .i64 (i : Int))).heap[A[i].gr]? = some (.cells (rcs A[i] i) tR (0, 0)) by rw [setCell_ne (p := ⟨A[j].gr, 4, none⟩) (fun e => hne e.symm), hy _ (Ne.symm ngi)]; exact hri) (S := sH) (by decide) (.int .i64 (j : Int))
    exact ((k1.trans k2).trans k3).trans k4
  · exact (((((Below.refl base w).setCell hlg _).setCell hlg _).setCell (h.lowr _ (List.getElem_mem hj)) _).setCell (h.lowr _ (List.getElem_mem hi)) _)
theorem PH.behind {w x y : World} {base b : Nat} {bc : Array Value} {av : Value} {A : List Rc} (h : PH w base b bc av A x) (k : Below x.heap.size x y) : PH w base b bc av A y := ⟨h.1.below k, h.2.1.trans (KT.of k), h.2.2.trans (k.mono h.1.bas)⟩
theorem PH.next {w x y : World} {base b : Nat} {bc : Array Value} {av : Value} {A A' : List Rc} (h : PH w base b bc av A x) (k : PH x base b bc av A' y) : PH w base b bc av A' y := ⟨k.1, h.2.1.trans k.2.1, h.2.2.trans k.2.2⟩
theorem PH.self {w : World} {base b : Nat} {bc : Array Value} {av : Value} {A : List Rc} (h : HpM w base b bc av A) : PH w base b bc av A w := ⟨h, KT.refl _ _, Below.refl _ _⟩
theorem swap_any {w : World} {base b : Nat} {bc : Array Value} {av : Value} {A : List Rc} (h : HpM w base b bc av A) (i j : Nat) (hi : i < A.length) (hj : j < A.length) (hij : i ≠ j) : Calls Try.prog 82 #[av, .int .i64 (i : Int), .int .i64 (j : Int)] w fun e w' => e = .returned (.tuple #[]) ∧ PH w base b bc av (swp A i j hi hj) w' := by
  obtain ⟨g, cap, rfl, -, c, hg⟩ := h.form (by omega)
  have i0 := (h.at_ i hi).1
  have j0 := (h.at_ j hj).1
  simp only [World.cell?, hg, Option.bind_some] at i0 j0
  refine (swap_raw g cap A.length A[i].gr A[j].gr i j c _ _ hij (pair_ne h.apart hi hj hij) hi hj hg (h.recs i hi) (h.recs j hj) (by simpa using i0) (by simpa using j0) rfl rfl).mono ?_
  rintro e y ⟨rfl, hy⟩
  exact ⟨rfl, (swap_mem h i j hi hj hij).behind hy⟩
end Go.Proofs.Ytmaikkhemhonhaa.Dh
