/- Frames: the Stream in memory; take. -/
import Derived.Test.YtfoddooehanemaaFc
import Derived.Laws.CopyOwn
namespace Go.Proofs.Ytfoddooehanemaa.Fm
set_option linter.unusedVariables false
set_option linter.unusedSimpArgs false
open Go.RowKit Lib0 Kb Fa Fb Fc
theorem setCell_heap {w : World} {g : Nat} {c : Array Value} {t : TypeId} {fr : Nat × Nat} (h : w.heap[g]? = some (.cells c t fr)) (o : Nat) (v : Value) : (w.setCell ⟨g, o, none⟩ v).heap[g]? = some (.cells (c.setIfInBounds o v) t fr) := by
  show (w.heap.modify g _)[g]? = _
  rw [Array.getElem?_modify]; simp [h]
theorem setCell_ne {w : World} {g k : Nat} (h : g ≠ k) (o : Nat) (v : Value) : (w.setCell ⟨g, o, none⟩ v).heap[k]? = w.heap[k]? := by
  show (w.heap.modify g _)[k]? = _
  rw [Array.getElem?_modify]; simp [h]
/-- what stays: all blocks but these -/
structure Fr (B : List Nat) (w w' : World) : Prop where
  os : w'.os = w.os
  tape : w'.tape = w.tape
  output : w'.output = w.output
  size : w.heap.size ≤ w'.heap.size
  block : ∀ b, b < w.heap.size → b ∉ B → w'.heap[b]? = w.heap[b]?
theorem Fr.refl (B : List Nat) (w : World) : Fr B w w := ⟨rfl, rfl, rfl, Nat.le_refl _, fun _ _ _ => rfl⟩
theorem Fr.trans {B : List Nat} {w x y : World} (h : Fr B w x) (k : Fr B x y) : Fr B w y := ⟨k.os.trans h.os, k.tape.trans h.tape, k.output.trans h.output, Nat.le_trans h.size k.size, fun b hb hn => (k.block b (Nat.lt_of_lt_of_le hb h.size) hn).trans (h.block b hb hn)⟩
/-- what the second part writes besides is new -/
theorem Fr.trans2 {B C : List Nat} {w x y : World} (h : Fr B w x) (k : Fr C x y) (hc : ∀ b ∈ C, b ∈ B ∨ w.heap.size ≤ b) : Fr B w y := ⟨k.os.trans h.os, k.tape.trans h.tape, k.output.trans h.output, Nat.le_trans h.size k.size, fun b hb hn => (k.block b (Nat.lt_of_lt_of_le hb h.size) (fun h2 => (hc b h2).elim hn (fun h3 => by omega))).trans (h.block b hb hn)⟩
theorem Fr.of {B : List Nat} {w x : World} (h : Below w.heap.size w x) : Fr B w x := ⟨h.os, h.tape, h.output, h.size, fun b hb _ => h.block b hb⟩
theorem Fr.below {w x : World} (h : Fr [] w x) : Below w.heap.size w x := ⟨h.os, h.tape, h.output, h.size, fun b hb => h.block b hb (by simp)⟩
theorem Fr.behind {B : List Nat} {w x y : World} (h : Fr B w x) (k : Below w.heap.size x y) : Fr B w y := ⟨k.os.trans h.os, k.tape.trans h.tape, k.output.trans h.output, Nat.le_trans h.size k.size, fun b hb hn => (k.block b hb).trans (h.block b hb hn)⟩
theorem Fr.mono {B C : List Nat} {w x : World} (h : Fr B w x) (hc : ∀ b ∈ B, b ∈ C) : Fr C w x := ⟨h.os, h.tape, h.output, h.size, fun b hb hn => h.block b hb fun h2 => hn (hc b h2)⟩
theorem Fr.grown {B : List Nat} {w x y : World} {r : Option Nat} (h : Fr B w x) (k : x.grownBy y r) (hr : ∀ g, r = some g → g ∈ B ∨ w.heap.size ≤ g) : Fr B w y := ⟨k.os.trans h.os, k.tape.trans h.tape, k.output.trans h.output, Nat.le_trans h.size k.size, fun b hb hn => (k.block b (Nat.lt_of_lt_of_le hb h.size) (fun e => (hr b e.symm).elim hn (fun h3 => by omega))).trans (h.block b hb hn)⟩
theorem Fr.set {B : List Nat} {w x : World} {g : Nat} (h : Fr B w x) (hg : g ∈ B ∨ w.heap.size ≤ g) (o : Nat) (v : Value) : Fr B w (x.setCell ⟨g, o, none⟩ v) :=
  ⟨h.os, h.tape, h.output, by have := h.size; simpa [World.setCell] using this, fun b hb hn => (setCell_ne (fun e : g = b => hg.elim (fun h2 => hn (e ▸ h2)) (fun h3 => by omega)) o v).trans (h.block b hb hn)⟩
theorem Fr.row {B : List Nat} {w x : World} {g : Nat} (h : Fr B w x) (hg : g ∈ B ∨ w.heap.size ≤ g) (c : Array Value) : Fr B w (x.setRow g c) :=
  ⟨h.os, h.tape, h.output, by have := h.size; simpa [World.setRow] using this, fun b hb hn => (setRow_ne (fun e : g = b => hg.elim (fun h2 => hn (e ▸ h2)) (fun h3 => by omega)) c).trans (h.block b hb hn)⟩
/-- a Stream's cells -/
def SV (h m : Nat) (a b c d : UInt8) (body : Value) (t i e : Nat) : Array Value := #[.int .i64 (h : Int), .int .i64 (m : Int), .int .u8 (a.toNat : Int), .int .u8 (b.toNat : Int), .int .u8 (c.toNat : Int), .int .u8 (d.toNat : Int), body, .int .i64 (t : Int), .int .i64 (i : Int), .int .i64 (e : Int)]
def Sm (w : World) (g h m : Nat) (a b c d : UInt8) (body : Value) (t i e : Nat) : Prop := w.heap[g]? = some (.cells (SV h m a b c d body t i e) 70)
section
variable {w y : World} {g h m : Nat} {a b c d : UInt8} {body : Value} {t i e : Nat}
theorem Sm.lt (S : Sm w g h m a b c d body t i e) : g < w.heap.size := (Array.getElem?_eq_some_iff.1 S).1
theorem Sm.ce (S : Sm w g h m a b c d body t i e) (o : Nat) : w.cell? ⟨g, o, none⟩ = (SV h m a b c d body t i e)[o]? := by
  unfold World.cell?; rw [show w.heap[g]? = _ from S]; rfl
theorem Sm.fz (S : Sm w g h m a b c d body t i e) (o : Nat) : w.frozen? ⟨g, o, none⟩ = false := by
  unfold World.frozen?; rw [show w.heap[g]? = _ from S]; simp
theorem Sm.keep (S : Sm w g h m a b c d body t i e) (k : y.heap[g]? = w.heap[g]?) : Sm y g h m a b c d body t i e := k.trans S
theorem Sm.below {B : Nat} (S : Sm w g h m a b c d body t i e) (k : Below B w y) (hB : g < B) : Sm y g h m a b c d body t i e := S.keep (k.block g hB)
theorem Sm.alloc (S : Sm w g h m a b c d body t i e) (o : Obj) : Sm (w.alloc o) g h m a b c d body t i e := S.keep (heap_alloc_old _ _ S.lt)
theorem Sm.set6 (S : Sm w g h m a b c d body t i e) (v : Value) : Sm (w.setCell ⟨g, 6, none⟩ v) g h m a b c d v t i e := setCell_heap S 6 v
theorem Sm.set7 (S : Sm w g h m a b c d body t i e) (n : Nat) : Sm (w.setCell ⟨g, 7, none⟩ (.int .i64 (n : Int))) g h m a b c d body n i e := setCell_heap S 7 _
theorem Sm.set8 (S : Sm w g h m a b c d body t i e) (n : Nat) : Sm (w.setCell ⟨g, 8, none⟩ (.int .i64 (n : Int))) g h m a b c d body t n e := setCell_heap S 8 _
theorem Sm.set9 (S : Sm w g h m a b c d body t i e) (n : Nat) : Sm (w.setCell ⟨g, 9, none⟩ (.int .i64 (n : Int))) g h m a b c d body t i n := setCell_heap S 9 _
end
theorem info1 : (Try.prog.info? 5).map (·.size) = some 1 := by kernel_rfl
theorem drop_any {w : World} {g h m : Nat} {a b c d : UInt8} {body : Value} {t i e : Nat} (S : Sm w g h m a b c d body t i e) :
    Calls Try.prog 38 #[.pointer (some ⟨g, 0, none⟩)] w fun e' w' => e' = .returned (.tuple #[]) ∧ Sm w' g h m a b c d (.slice none 0 0) 0 i e ∧ Fr [g] w w' := by
  have c6 : w.cell? ⟨g, 6, none⟩ = some body := S.ce 6
  have c7 : w.cell? ⟨g, 7, none⟩ = some (.int .i64 (t : Int)) := S.ce 7
  have f6 := S.fz 6
  have f7 := S.fz 7
  go_enter Try.func38, Try.ntmps38
  go_wp2
  go_end0
  exact ⟨rfl, (S.set6 _).set7 0, ((Fr.refl _ _).set (.inl (by simp)) _ _).set (.inl (by simp)) _ _⟩
set_option maxRecDepth 100000 in
/-- take, told by the rows -/
theorem take_core (w : World) (g t gp po N pc : Nat) (cur : List Value) (tp : TypeId) (hp : w.heap[gp]? = some (.cells cur.toArray tp (0, 0))) (hN : N ≤ pc) (htN : t < N) (hfit : po + N ≤ cur.length) (hpc : pc < 140737488355328)
    (gB o C : Nat) (bl : List UInt8) (hbC : bl.length ≤ C) (hb : ∀ j u, bl[j]? = some u → w.cell? ⟨gB, o + j, none⟩ = some (.int .u8 (u.toNat : Int)))
    (k : Nat) (hk : k = min (N - t) bl.length) (W : World) (hW : w.setRow gp (cur.take (po + t) ++ bs (bl.take k) ++ cur.drop (po + t + k)).toArray = W)
    (c7 : w.cell? ⟨g, 7, none⟩ = some (.int .i64 (t : Int))) (d7 : W.cell? ⟨g, 7, none⟩ = some (.int .i64 (t : Int))) (f7 : W.frozen? ⟨g, 7, none⟩ = false) :
    Calls Try.prog 35 #[.pointer (some ⟨g, 0, none⟩), .slice (some ⟨gp, po, none⟩) N pc, .slice (some ⟨gB, o, none⟩) bl.length C] w fun e w' => (∃ o', (k < C → o' = o + k) ∧ e = .returned (.slice (some ⟨gB, o', none⟩) (bl.length - k) (C - k))) ∧ w' = W.setCell ⟨g, 7, none⟩ (.int .i64 ((t + k : Nat) : Int)) := by
  have lk : (bs (bl.take k)).length = k := by rw [bs_length, List.length_take]; omega
  have hn : (bs (bl.take k)).length = Nat.min bl.length (N - t) := by rw [lk, hk]; exact Nat.min_comm _ _
  have hone : ∀ v ∈ bs (bl.take k), v.oneCell' = true := by
    intro v hv; simp only [bs, List.mem_map] at hv; obtain ⟨u, _, rfl⟩ := hv; rfl
  have hsrc : ∀ j v, (bs (bl.take k))[j]? = some v → w.cell? ((⟨gB, o, none⟩ : Addr).add j) = some v := by
    intro j v hj
    have ea : (⟨gB, o, none⟩ : Addr).add j = ⟨gB, o + j, none⟩ := by unfold Addr.add; split <;> simp_all
    rw [ea]
    simp only [bs, List.getElem?_map, Option.map_eq_some_iff] at hj
    obtain ⟨u, hu, rfl⟩ := hj
    refine hb j u ?_
    rw [List.getElem?_take] at hu
    split at hu
    · exact hu
    · cases hu
  have hr := fun ty => run_copy_row (P := Try.prog) w 37 37 ty 5 gp (po + t) (N - t) (pc - t) ⟨gB, o, none⟩ bl.length C cur.toArray tp (bs (bl.take k)) Try.underlying37 info1 hp hn hsrc (by rw [lk]; simp; omega) hone
  rw [lk] at hr
  simp only [List.toList_toArray, hW] at hr
  have q1 : (t : Int) ≤ (N : Int) := by omega
  have q2 : (N : Int) ≤ (pc : Int) := by omega
  have q3 : ¬ pc - t = 0 := by omega
  have q4 : t < pc := by omega
  have r1 : (k : Int) ≤ (bl.length : Int) := by omega
  have r2 : (bl.length : Int) ≤ (C : Int) := by omega
  have s1 : (t : Int) + (k : Int) ≤ 9223372036854775807 := by omega
  clear hW lk hp hsrc hone hn hb hk hfit htN hN hpc hbC
  generalize bl.length = n at *
  go_enter Try.func35, Try.ntmps35
  go_wp2_with fail
  · go_ret
    exact ⟨⟨o, rfl⟩, rfl⟩
  · go_ret
    exact ⟨⟨o + k, fun _ => rfl, rfl⟩, rfl⟩
/-- bytes that lie in a block -/
def Inb (w : World) (gB o : Nat) (bl : List UInt8) : Prop := ∀ j u, bl[j]? = some u → w.cell? ⟨gB, o + j, none⟩ = some (.int .u8 (u.toNat : Int))
theorem Inb.drop {w : World} {gB o : Nat} {bl : List UInt8} (h : Inb w gB o bl) (k : Nat) : Inb w gB (o + k) (bl.drop k) := by
  intro j u hj
  rw [List.getElem?_drop] at hj
  rw [Nat.add_assoc]
  exact h _ _ hj
theorem Inb.keep {w y : World} {gB o : Nat} {bl : List UInt8} (h : Inb w gB o bl) (k : y.heap[gB]? = w.heap[gB]?) : Inb y gB o bl := by
  intro j u hj
  rw [← h j u hj]
  simp [World.cell?, k]
theorem SV_list (h m : Nat) (a b c d : UInt8) (body : Value) (t i e : Nat) : SV h m a b c d body t i e = (.int .i64 (h : Int) :: .int .i64 (m : Int) :: (bs [a, b, c, d] ++ [body, .int .i64 (t : Int), .int .i64 (i : Int), .int .i64 (e : Int)])).toArray := rfl
theorem four {α : Type} (q : List α) (h : q.length = 4) : ∃ a b c d, [a, b, c, d] = q := by
  match q, h with
  | [a, b, c, d], _ => exact ⟨a, b, c, d, rfl⟩
theorem take_head {w : World} {g h m : Nat} {a b c d : UInt8} {body : Value} {t i e : Nat} (S : Sm w g h m a b c d body t i e) (W : Nat) (hW : W ≤ 4) (ht : t < W)
    (gB o C : Nat) (bl : List UInt8) (hbC : bl.length ≤ C) (hb : Inb w gB o bl) (k : Nat) (hk : k = min (W - t) bl.length) :
    Calls Try.prog 35 #[.pointer (some ⟨g, 0, none⟩), .slice (some ⟨g, 2, none⟩) W 4, .slice (some ⟨gB, o, none⟩) bl.length C] w fun e' w' => ∃ a' b' c' d' o', [a', b', c', d'] = [a, b, c, d].take t ++ bl.take k ++ [a, b, c, d].drop (t + k) ∧ Sm w' g h m a' b' c' d' body (t + k) i e ∧ Fr [g] w w' ∧ (k < C → o' = o + k) ∧ e' = .returned (.slice (some ⟨gB, o', none⟩) (bl.length - k) (C - k)) := by
  obtain ⟨a', b', c', d', hq⟩ := four ([a, b, c, d].take t ++ bl.take k ++ [a, b, c, d].drop (t + k)) (by simp; omega)
  have hp : w.heap[g]? = some (.cells (.int .i64 (h : Int) :: .int .i64 (m : Int) :: (bs [a, b, c, d] ++ [body, .int .i64 (t : Int), .int .i64 (i : Int), .int .i64 (e : Int)])).toArray 70 (0, 0)) := S
  have hrow : ((.int .i64 (h : Int) :: .int .i64 (m : Int) :: (bs [a, b, c, d] ++ [body, .int .i64 (t : Int), .int .i64 (i : Int), .int .i64 (e : Int)])).take (2 + t) ++ bs (bl.take k) ++ (Value.int .i64 (h : Int) :: .int .i64 (m : Int) :: (bs [a, b, c, d] ++ [body, .int .i64 (t : Int), .int .i64 (i : Int), .int .i64 (e : Int)])).drop (2 + t + k)).toArray = SV h m a' b' c' d' body t i e := by
    rw [SV_list, hq]
    congr 1
    have l4 : (bs [a, b, c, d]).length = 4 := rfl
    rw [show 2 + t = t + 1 + 1 by omega, show t + 1 + 1 + k = (t + k) + 1 + 1 by omega, List.take_succ_cons, List.take_succ_cons, List.drop_succ_cons, List.drop_succ_cons, List.take_append_of_le_length (by rw [l4]; omega), List.drop_append_of_le_length (by rw [l4]; omega)]
    simp only [bs, List.map_append, List.map_take, List.map_drop, List.append_assoc, List.cons_append]
  have S2 : Sm (w.setRow g (SV h m a' b' c' d' body t i e)) g h m a' b' c' d' body t i e := setRow_at S _
  have p := take_core w g t g 2 W 4 _ 70 hp hW ht (by simp [bs]; omega) (by omega) gB o C bl hbC hb k hk _ (by rw [hrow]) (S.ce 7) (S2.ce 7) (S2.fz 7)
  refine p.mono ?_
  rintro e' y ⟨⟨o', ho, rfl⟩, rfl⟩
  exact ⟨a', b', c', d', o', hq, S2.set7 _, ((Fr.refl _ _).row (.inl (by simp)) _).set (.inl (by simp)) _ _, ho, rfl⟩
theorem take_body {w : World} {g h m : Nat} {a b c d : UInt8} {gp N : Nat} {t i e : Nat} (S : Sm w g h m a b c d (.slice (some ⟨gp, 0, none⟩) N N) t i e) (l z : List UInt8) (hp : w.heap[gp]? = some (.cells (bs (l ++ z)).toArray 5)) (hl : l.length = t) (hN : l.length + z.length = N) (ht : t < N) (hN2 : N ≤ 9999) (hne : gp ≠ g)
    (gB o C : Nat) (bl : List UInt8) (hbC : bl.length ≤ C) (hb : Inb w gB o bl) (k : Nat) (hk : k = min (N - t) bl.length) :
    Calls Try.prog 35 #[.pointer (some ⟨g, 0, none⟩), .slice (some ⟨gp, 0, none⟩) N N, .slice (some ⟨gB, o, none⟩) bl.length C] w fun e' w' => ∃ o', Sm w' g h m a b c d (.slice (some ⟨gp, 0, none⟩) N N) (t + k) i e ∧ w'.heap[gp]? = some (.cells (bs ((l ++ bl.take k) ++ z.drop k)).toArray 5) ∧ Fr [g, gp] w w' ∧ (k < C → o' = o + k) ∧ e' = .returned (.slice (some ⟨gB, o', none⟩) (bl.length - k) (C - k)) := by
  have hrow : ((bs (l ++ z)).take (0 + t) ++ bs (bl.take k) ++ (bs (l ++ z)).drop (0 + t + k)).toArray = (bs ((l ++ bl.take k) ++ z.drop k)).toArray := by
    congr 1
    subst hl
    rw [bs_append, Nat.zero_add, show l.length = (bs l).length from (bs_length l).symm, List.take_left, List.drop_append]
    simp only [bs, List.map_append, List.map_drop, List.length_map]
    rw [show List.drop (l.length + k) (List.map (fun b : UInt8 => Value.int .u8 (b.toNat : Int)) l) = [] from List.drop_eq_nil_of_le (by simp), Nat.add_sub_cancel_left]
    simp
  have S2 : Sm (w.setRow gp (bs ((l ++ bl.take k) ++ z.drop k)).toArray) g h m a b c d (.slice (some ⟨gp, 0, none⟩) N N) t i e := (setRow_ne hne _).trans S
  have p := take_core w g t gp 0 N N _ 5 hp (Nat.le_refl _) ht (by rw [bs_length, List.length_append]; omega) (by omega) gB o C bl hbC hb k hk _ (by rw [hrow]) (S.ce 7) (S2.ce 7) (S2.fz 7)
  refine p.mono ?_
  rintro e' y ⟨⟨o', ho, rfl⟩, rfl⟩
  exact ⟨o', S2.set7 _, (setCell_ne (Ne.symm hne) _ _).trans (setRow_at hp _), ((Fr.refl _ _).row (.inl (by simp)) _).set (.inl (by simp)) _ _, ho, rfl⟩
end Go.Proofs.Ytfoddooehanemaa.Fm
