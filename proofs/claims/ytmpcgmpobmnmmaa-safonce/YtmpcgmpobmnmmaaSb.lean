/- A queue in memory. -/
import Derived.Test.YtmpcgmpobmnmmaaSa
import Derived.Test.YtmpcgmpobmnmmaaCnt
import Derived.Deep.AppendLies
namespace Go.Proofs.Ytmpcgmpobmnmmaa.Sb
set_option linter.unusedVariables false
set_option linter.unusedSimpArgs false
open Go.RowKit Go.Maps Lib0 Kb Xp Ic Ix If Ig Za Zb Zc Zd Ze Sa
attribute [local go_sem] Oper.semAt_some
abbrev tQ : TypeId := 71
abbrev tP : TypeId := 86
abbrev tI : TypeId := 3
theorem ty_ne {w : World} {g k : Nat} {c d : Array Value} {s t : TypeId} {x y : Nat × Nat} (h : w.heap[g]? = some (.cells c s x)) (h2 : w.heap[k]? = some (.cells d t y)) (hne : s ≠ t) : g ≠ k := fun e => by
  subst e
  rw [h] at h2
  injection h2 with h2
  injection h2 with _ h2
  exact hne h2
structure St where
  most : Int
  retry : Int
  tries : Int
  L : List Av
  sent : Int
  way : Bool
  ticks : Int
  gone : List Int
  dead : Int
def iv (n : Int) : Value := .int .i64 n
def ptr (k : Nat) : Value := .pointer (some ⟨k, 0, none⟩)
def qcs (S : St) (vw vg : Value) : Array Value := #[.int .i64 S.most, .int .i64 S.retry, .int .i64 S.tries, vw, .int .i64 S.sent, .bool S.way, .int .i64 S.ticks, vg, .int .i64 S.dead]
/-- what may be -/
structure Ok (S : St) : Prop where
  m0 : 1 ≤ S.most
  m1 : S.most ≤ 10000
  r0 : 1 ≤ S.retry
  r1 : S.retry ≤ 100000
  t0 : 1 ≤ S.tries
  t1 : S.tries ≤ 100
  s0 : 0 ≤ S.sent
  s1 : S.sent ≤ S.tries
  k0 : 0 ≤ S.ticks
  k1 : S.ticks ≤ S.retry
  d0 : 0 ≤ S.dead
  d1 : S.dead ≤ 10000
  len : (S.L.length : Int) ≤ S.most
  wy : S.way = true → S.L ≠ []
  fo : ∀ a ∈ S.L, a.m1.size ≤ 1000000 ∧ a.m2.size ≤ 1000000 ∧ Fo a.L1 ∧ Fo a.L2 ∧ I64 a.no
  gn : S.gone.length ≤ 1000000
/-- what stays: blocks of cells of other types than a queue's -/
structure Kq (w w' : World) : Prop where
  os : w'.os = w.os
  tape : w'.tape = w.tape
  output : w'.output = w.output
  size : w.heap.size ≤ w'.heap.size
  block : ∀ (g : Nat) (c : Array Value) (t : TypeId) (fr : Nat × Nat), w.heap[g]? = some (.cells c t fr) → t ≠ tQ → t ≠ tP → t ≠ tI → w'.heap[g]? = w.heap[g]?
theorem Kq.refl (w : World) : Kq w w := ⟨rfl, rfl, rfl, Nat.le_refl _, fun _ _ _ _ _ _ _ _ => rfl⟩
theorem Kq.of {w x : World} (h : Below w.heap.size w x) : Kq w x := ⟨h.os, h.tape, h.output, h.size, fun g c t fr hg _ _ _ => h.block g (Array.getElem?_eq_some_iff.1 hg).1⟩
theorem Kq.trans {w x y : World} (h : Kq w x) (k : Kq x y) : Kq w y := ⟨k.os.trans h.os, k.tape.trans h.tape, k.output.trans h.output, Nat.le_trans h.size k.size, fun g c t fr hg a b d => (k.block g c t fr ((h.block g c t fr hg a b d).trans hg) a b d).trans (h.block g c t fr hg a b d)⟩
theorem Kq.row {w x : World} (h : Kq w x) {base n : Nat} {v : Value} {xs : List Value} (ho : w.ownsRow base tF 3 v n xs) : x.ownsRow base tF 3 v n xs := own_keep ho fun g hg => by
  obtain ⟨c, hc⟩ := own_ty ho hg
  exact h.block g c tF _ hc (by decide) (by decide) (by decide)
theorem Kq.set {w x : World} (h : Kq w x) {g o : Nat} {c : Array Value} (hg : x.heap[g]? = some (.cells c tQ (0, 0))) (v : Value) : Kq w (x.setCell ⟨g, o, none⟩ v) :=
  h.trans ⟨rfl, rfl, rfl, by rw [setCell_size]; exact Nat.le_refl _, fun k c2 t fr hk a b d => setCell_ne (p := ⟨g, o, none⟩) (fun e2 : g = k => a (by subst e2; rw [hg] at hk; injection hk with hk; injection hk with _ hk; exact hk.symm)) v⟩
theorem Kq.grown {w x y : World} {v : Value} {lo n sz : Nat} {t : TypeId} {xs : List Value} (h : Kq w x) (ho : x.ownsRow lo t sz v n xs) (ht : t = tP ∨ t = tI) (hg : x.grownBy y v.ownBlock) : Kq w y :=
  h.trans ⟨hg.os, hg.tape, hg.output, hg.size, fun g c t2 fr hgg a b d => hg.block g (Array.getElem?_eq_some_iff.1 hgg).1 (fun e => by
    obtain ⟨c3, hc3⟩ := own_ty ho e.symm
    refine ty_ne hgg hc3 ?_ rfl
    rcases ht with rfl | rfl
    · exact b
    · exact d)⟩
/-- an advice in memory -/
def Ad (w : World) (base g : Nat) (r : Av) : Prop := base ≤ g ∧ ∃ v1 v2, w.heap[g]? = some (.cells (acs r v1 v2) tA (0, 0)) ∧ w.ownsRow base tF 3 v1 r.L1.length (fc r.L1) ∧ w.ownsRow base tF 3 v2 r.L2.length (fc r.L2)
theorem Ad.keep {w x : World} {base g : Nat} {r : Av} (h : Ad w base g r) (k : Kq w x) : Ad x base g r := by
  obtain ⟨h0, v1, v2, h1, h2, h3⟩ := h
  exact ⟨h0, v1, v2, (k.block g _ tA _ h1 (by decide) (by decide) (by decide)).trans h1, k.row h2, k.row h3⟩
theorem Ad.cell {w : World} {base g : Nat} {r : Av} (h : Ad w base g r) : w.cell? ⟨g, 1, none⟩ = some (.int .i64 r.no) := by
  obtain ⟨-, v1, v2, h1, -⟩ := h
  unfold acs at h1
  simp [World.cell?, h1]
abbrev ZA := Nat × Av
structure Qm (w : World) (base g : Nat) (S : St) (vw vg : Value) (zs : List ZA) : Prop where
  blk : w.heap[g]? = some (.cells (qcs S vw vg) tQ (0, 0))
  row : w.ownsRow base tP 1 vw zs.length (zs.map fun z => ptr z.1)
  eq : zs.map Prod.snd = S.L
  ads : ∀ z ∈ zs, Ad w base z.1 z.2
  gon : w.ownsRow base tI 1 vg S.gone.length (S.gone.map iv)
  low : base ≤ g
  bas : base ≤ w.heap.size
def Sq (w : World) (base g : Nat) (S : St) : Prop := ∃ vw vg zs, Qm w base g S vw vg zs
theorem Qm.below {w x : World} {base g : Nat} {S : St} {vw vg : Value} {zs : List ZA} (h : Qm w base g S vw vg zs) (k : Below w.heap.size w x) : Qm x base g S vw vg zs :=
  ⟨kept k h.blk, own_keep h.row fun g hg => k.block g (h.row.lt g hg).2, h.eq, fun z hz => (h.ads z hz).keep (Kq.of k), own_keep h.gon fun g hg => k.block g (h.gon.lt g hg).2, h.low, Nat.le_trans h.bas k.size⟩
theorem Sq.below {w x : World} {base g : Nat} {S : St} (h : Sq w base g S) (k : Below w.heap.size w x) : Sq x base g S := by
  obtain ⟨vw, vg, zs, h⟩ := h
  exact ⟨vw, vg, zs, h.below k⟩
/-- the queue's own cells alone are written -/
theorem Qm.turn {w x : World} {base g : Nat} {S S' : St} {vw vg : Value} {zs : List ZA} (h : Qm w base g S vw vg zs) (hb : x.heap[g]? = some (.cells (qcs S' vw vg) tQ (0, 0))) (hL : S'.L = S.L) (hG : S'.gone = S.gone) (k : Kq w x) (ho : ∀ b, b ≠ g → x.heap[b]? = w.heap[b]?) : Qm x base g S' vw vg zs := by
  refine ⟨hb, own_keep h.row fun b hg => ho b (fun e => ?_), hL ▸ h.eq, fun z hz => (h.ads z hz).keep k, hG ▸ own_keep h.gon fun b hg => ho b (fun e => ?_), h.low, Nat.le_trans h.bas k.size⟩
  · obtain ⟨c, hc⟩ := own_ty h.row hg
    exact ty_ne hc h.blk (by decide) e
  · obtain ⟨c, hc⟩ := own_ty h.gon hg
    exact ty_ne hc h.blk (by decide) e
theorem Qm.cells {w : World} {base g : Nat} {S : St} {vw vg : Value} {zs : List ZA} (h : Qm w base g S vw vg zs) : w.cell? ⟨g, 0, none⟩ = some (.int .i64 S.most) ∧ w.cell? ⟨g, 1, none⟩ = some (.int .i64 S.retry) ∧ w.cell? ⟨g, 2, none⟩ = some (.int .i64 S.tries) ∧ w.cell? ⟨g, 3, none⟩ = some vw ∧ w.cell? ⟨g, 4, none⟩ = some (.int .i64 S.sent) ∧ w.cell? ⟨g, 5, none⟩ = some (.bool S.way) ∧ w.cell? ⟨g, 6, none⟩ = some (.int .i64 S.ticks) ∧ w.cell? ⟨g, 7, none⟩ = some vg ∧ w.cell? ⟨g, 8, none⟩ = some (.int .i64 S.dead) := by
  have := h.blk
  unfold qcs at this
  refine ⟨?_, ?_, ?_, ?_, ?_, ?_, ?_, ?_, ?_⟩ <;> simp [World.cell?, this]
theorem Qm.frz {w : World} {base g : Nat} {S : St} {vw vg : Value} {zs : List ZA} (h : Qm w base g S vw vg zs) (o : Nat) : w.frozen? ⟨g, o, none⟩ = false := by simp [World.frozen?, h.blk]
/-- what became of a queue -/
def PQ (w : World) (base g : Nat) (S' : St) (w' : World) : Prop := Sq w' base g S' ∧ Kq w w' ∧ Below base w w'
theorem Qm.set {w : World} {base g o : Nat} {S S' : St} {vw vg : Value} {zs : List ZA} (h : Qm w base g S vw vg zs) (v : Value) (hc : (qcs S vw vg).setIfInBounds o v = qcs S' vw vg) (hL : S'.L = S.L) (hG : S'.gone = S.gone) : Qm (w.setCell ⟨g, o, none⟩ v) base g S' vw vg zs ∧ Kq w (w.setCell ⟨g, o, none⟩ v) ∧ Below base w (w.setCell ⟨g, o, none⟩ v) :=
  ⟨h.turn (by rw [setCell_heap h.blk, hc]) hL hG (Kq.set (Kq.refl w) h.blk v) (fun b hb => setCell_ne (p := ⟨g, o, none⟩) (fun e => hb e.symm) v), Kq.set (Kq.refl w) h.blk v, (Below.refl _ _).setCell h.low v⟩
theorem up_any (n m : Int) (w : World) (h0 : 0 ≤ n) (hm : n ≤ m) (h3 : m ≤ 9223372036854775807) : Calls Try.prog 47 #[.int .i64 n, .int .i64 1, .int .i64 m] w fun e w' => e = .returned (.int .i64 (if n < m then n + 1 else n)) ∧ w' = w := by
  refine (Cnt.count_any n 1 m w (by omega) (by omega) h3).mono ?_
  rintro e w' ⟨rfl, rfl⟩
  refine ⟨Cnt.ret_int ?_, rfl⟩
  simp only [Cnt.countOf, Cnt.mx]
  (repeat' split) <;> omega
def breakS (S : St) : St := { S with way := false }
def tickS (S : St) : St := { S with ticks := if S.ticks < S.retry then S.ticks + 1 else S.ticks }
set_option maxRecDepth 100000 in
theorem break_any {w : World} {base g : Nat} {S : St} (h : Sq w base g S) : Calls Try.prog 26 #[.pointer (some ⟨g, 0, none⟩)] w fun e w' => e = .returned (.tuple #[]) ∧ PQ w base g (breakS S) w' := by
  obtain ⟨vw, vg, zs, h⟩ := h
  obtain ⟨c0, c1, c2, c3, c4, c5, c6, c7, c8⟩ := h.cells
  have f5 := h.frz 5
  have HE : Hid (PQ w base g (breakS S) (w.setCell ⟨g, 5, none⟩ (.bool false))) := by
    obtain ⟨h1, h2, h3⟩ := h.set (o := 5) (S' := breakS S) (.bool false) rfl rfl rfl
    exact ⟨⟨vw, vg, zs, h1⟩, h2, h3⟩
  clear h
  go_enter Try.func26, Try.ntmps26
  go_wp2_with fail
  go_end0
  exact ⟨rfl, HE.out⟩
set_option maxRecDepth 100000 in
theorem tick_any {w : World} {base g : Nat} {S : St} (h : Sq w base g S) (ok : Ok S) : Calls Try.prog 24 #[.pointer (some ⟨g, 0, none⟩)] w fun e w' => e = .returned (.tuple #[]) ∧ PQ w base g (tickS S) w' := by
  obtain ⟨vw, vg, zs, h⟩ := h
  have HC : Hid (∀ x, Calls Try.prog 47 #[.int .i64 S.ticks, .int .i64 1, .int .i64 S.retry] x fun e w' => e = .returned (.int .i64 (tickS S).ticks) ∧ w' = x) := fun x => up_any S.ticks S.retry x ok.k0 ok.k1 (by have := ok.r1; omega)
  have HE : Hid (∀ x, Below w.heap.size w x → PQ w base g (tickS S) (x.setCell ⟨g, 6, none⟩ (.int .i64 (tickS S).ticks)) ∧ x.cell? ⟨g, 6, none⟩ = some (.int .i64 S.ticks) ∧ x.cell? ⟨g, 1, none⟩ = some (.int .i64 S.retry) ∧ x.frozen? ⟨g, 6, none⟩ = false) := fun x hx => by
    have hq := h.below hx
    obtain ⟨c0, c1, c2, c3, c4, c5, c6, c7, c8⟩ := hq.cells
    obtain ⟨h1, h2, h3⟩ := hq.set (o := 6) (S' := tickS S) (.int .i64 (tickS S).ticks) rfl rfl rfl
    exact ⟨⟨⟨vw, vg, zs, h1⟩, (Kq.of hx).trans h2, (hx.mono h.bas).trans h3⟩, c6, c1, hq.frz 6⟩
  obtain ⟨-, c6, c1, f6⟩ := HE.out w (Below.refl _ _)
  obtain ⟨E0, d6, d1, g6⟩ := HE.out w.drew ((Below.refl _ _).drew)
  have HE0 : Hid _ := E0
  clear h ok E0
  generalize (tickS S).ticks = T at HC HE HE0
  go_enter Try.func24, Try.ntmps24
  go_wp2_with fail
  go_region_with ((go_at_call 47; refine (HC.out _).mono ?_; rintro e x ⟨rfl, rfl⟩))
  all_goals (go_wp2_with fail)
  all_goals go_end0
  all_goals exact ⟨rfl, HE0.out⟩
set_option maxRecDepth 100000 in
theorem len_any {w : World} {base g : Nat} {S : St} (h : Sq w base g S) : Calls Try.prog 11 #[.pointer (some ⟨g, 0, none⟩)] w fun e w' => e = .returned (.int .i64 (S.L.length : Nat)) ∧ w' = w := by
  obtain ⟨vw, vg, zs, h⟩ := h
  obtain ⟨c0, c1, c2, c3, c4, c5, c6, c7, c8⟩ := h.cells
  obtain ⟨o, cp, rfl, -⟩ := own_form h.row
  have hl : zs.length = S.L.length := by rw [← h.eq, List.length_map]
  rw [hl] at c3
  clear h hl
  go_enter Try.func11, Try.ntmps11
  go_wp2_with fail
  go_ret
  exact ⟨rfl, rfl⟩
set_option maxRecDepth 100000 in
theorem dead_any {w : World} {base g : Nat} {S : St} (h : Sq w base g S) : Calls Try.prog 13 #[.pointer (some ⟨g, 0, none⟩)] w fun e w' => e = .returned (.int .i64 S.dead) ∧ w' = w := by
  obtain ⟨vw, vg, zs, h⟩ := h
  obtain ⟨c0, c1, c2, c3, c4, c5, c6, c7, c8⟩ := h.cells
  clear h
  go_enter Try.func13, Try.ntmps13
  go_wp2_with fail
  go_ret
  exact ⟨rfl, rfl⟩
end Go.Proofs.Ytmpcgmpobmnmmaa.Sb
