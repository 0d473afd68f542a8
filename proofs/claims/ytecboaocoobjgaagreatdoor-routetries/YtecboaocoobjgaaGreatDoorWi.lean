/- RouteTries: something is done in the midst. -/
import Derived.Test.YtecboaocoobjgaaGreatDoorWs
namespace Go.Proofs.YtecboaocoobjgaaGreatDoor.Wi
set_option linter.unusedVariables false
set_option linter.unusedSimpArgs false
open Go.RowKit Go.Shelf Lib0 Kb Rp Rw Rs Li Mj Tj Kq Sr Ra Rj Da Db Dc Dd De Wd Ws
theorem below_four (w : World) (a b c d : Obj) : Below w.heap.size w ((((w.alloc a).alloc b).alloc c).alloc d) := (Kb.below_three w a b c).alloc (by simp only [World.size_alloc]; omega) _
theorem h4_0 (w : World) (a b c d : Obj) : ((((w.alloc a).alloc b).alloc c).alloc d).heap[w.heap.size]? = some a := (Below.heap_alloc _ d _ (by simp only [World.size_alloc]; omega)).trans (Kb.h3_0 w a b c)
theorem h4_1 (w : World) (a b c d : Obj) : ((((w.alloc a).alloc b).alloc c).alloc d).heap[w.heap.size + 1]? = some b := (Below.heap_alloc _ d _ (by simp only [World.size_alloc]; omega)).trans (Kb.h3_1 w a b c)
theorem h4_2 (w : World) (a b c d : Obj) : ((((w.alloc a).alloc b).alloc c).alloc d).heap[w.heap.size + 1 + 1]? = some c := (Below.heap_alloc _ d _ (by simp only [World.size_alloc]; omega)).trans (Kb.h3_2 w a b c)
theorem h4_3 (w : World) (a b c d : Obj) : ((((w.alloc a).alloc b).alloc c).alloc d).heap[w.heap.size + 1 + 1 + 1]? = some d := by
  have := Kb.h1_0 (((w.alloc a).alloc b).alloc c) d
  rwa [World.size_alloc, World.size_alloc, World.size_alloc] at this
theorem froz {x : World} {u : Nat} {c : Array Value} {t : TypeId} (h : x.heap[u]? = some (.cells c t)) (o : Nat) : x.frozen? ⟨u, o, none⟩ = false := by simp [World.frozen?, h]
theorem fr_mono {B C : List Nat} {w x : World} (h : Fr B w x) (hc : ∀ b ∈ B, b ∈ C) : Fr C w x := ⟨h.os, h.tape, h.output, h.size, fun b hb hn => h.block b hb fun h2 => hn (hc b h2)⟩
theorem tri_keptQ {w w' : World} {X : List Nat} {b : Nat} {L : LT} (h : Tri w X b L) (k : KQ X w w') (hb : w'.heap[b]? = w.heap[b]?) : Tri w' X b L :=
  ⟨h.mem, fun x hx => Nat.lt_of_lt_of_le (h.all x hx) k.size, h.srt, h.keys, let ⟨T, h1, h2, h3, h4⟩ := h.tree; ⟨T, hb.trans h1, In.keptQ k T h2, h3, h4⟩⟩
/-- a store into a block of other things -/
theorem Wd_set {w y : World} {X : List Nat} {W : Nat} {t r u : Nat → Nat} {L : Nat → LT} (h : Wd w y X W t r u L) {q : Nat} {c : Array Value} {s : TypeId} (hq : y.heap[q]? = some (.cells c s)) (n1 : s ≠ tR) (n2 : s ≠ tTr) (n3 : s ≠ tP) (n4 : s ≠ tW) (ns : NoS y q) (lo : w.heap.size ≤ q) (o : Nat) (v : Value) (kq : KQ X y (y.setCell ⟨q, o, none⟩ v)) : Wd w (y.setCell ⟨q, o, none⟩ v) X W t r u L := by
  have kk : ∀ {b : Nat} {c' : Array Value} {s' : TypeId}, y.heap[b]? = some (.cells c' s') → s ≠ s' → (y.setCell ⟨q, o, none⟩ v).heap[b]? = some (.cells c' s') := fun e n => (setCell_ne (blk_ne hq e n) _ _).trans e
  have fr : Fr [q] y (y.setCell ⟨q, o, none⟩ v) := (Fr.refl _ _).set (.inl (by simp)) _ _
  refine ⟨kk h.blk n4, fun j hj => ?_, fun j hj => ?_, fun j hj => kk (h.fnb j hj) n3, h.nt, h.nr, h.inX, h.lo, h.bel.setCell (p := ⟨q, o, none⟩) lo v⟩
  · obtain ⟨T, h1, _⟩ := (h.tri j hj).tree
    exact tri_keptQ (h.tri j hj) kq (setCell_ne (blk_ne hq h1 n1) _ _)
  · obtain ⟨v', a, b, c'⟩ := h.row j hj
    exact ⟨v', kk a n2, b, row_fr c' ns fr⟩
theorem noS_bool {y : World} {q : Nat} {b : Bool} (h : y.heap[q]? = some (.cells #[.bool b] 4)) : NoS y q := by
  intro p hp s e
  subst hp
  simp only [World.cell?, h] at e
  match ho : p.off with
  | 0 => rw [ho] at e; simp at e
  | n + 1 => rw [ho] at e; simp at e
theorem Wd_bool {w y : World} {X : List Nat} {W : Nat} {t r u : Nat → Nat} {L : Nat → LT} (h : Wd w y X W t r u L) {q : Nat} {b : Bool} (hq : y.heap[q]? = some (.cells #[.bool b] 4)) (lo : w.heap.size ≤ q) (v : Value) : Wd w (y.setCell ⟨q, 0, none⟩ v) X W t r u L :=
  Wd_set h hq (by decide) (by decide) (by decide) (by decide) (noS_bool hq) lo 0 v (KQ.set hq (by unfold tOk; decide) 0 v)
theorem cset {x : World} {g q o' : Nat} {u : Value} (v : Value) (n : g ≠ q) (h : x.cell? ⟨q, o', none⟩ = some u) : (x.setCell ⟨g, 0, none⟩ v).cell? ⟨q, o', none⟩ = some u := (World.cell?_of_block (a := ⟨q, o', none⟩) (setCell_ne n _ _)).trans h
theorem fin_M {fn : Func} {p : Tmp} (hr : fn.results = #[.cell p 4]) (tm : Array Value) (x : World) (q : Nat) (v : Bool) (hp : tm.getD p undef = .pointer (some ⟨q, 0, none⟩)) (hq : x.heap[q]? = some (.cells #[.bool v] 4)) {Q : Ending → World → Prop} (h : Q (.returned (.bool v)) x) : bodyPostM Fence.wide 8 Tryz.prog fn Q .ret ⟨tm, []⟩ x := by
  have cr : x.cell? ⟨q, 0, none⟩ = some (.bool v) := cell1 hq
  have hp' : tm[p]?.getD undef = .pointer (some ⟨q, 0, none⟩) := by simpa using hp
  refine ⟨.bool v, ?_, h⟩
  simp [results, hr, go_sem, cr, hp']
set_option maxRecDepth 100000 in
set_option maxHeartbeats 3200000 in
theorem within0 {w y : World} {X : List Nat} {W : Nat} {t r u : Nat → Nat} {L : Nat → LT} (h : Wd w y X W t r u L) (o : Stp) (k : Nat) (hk : k < 2) (hin : ¬ o.inn = 1 ∧ ¬ o.inn = 2 ∧ ¬ o.inn = 3) (hp : o.oth.size ≤ maxLen) (hL : (L k).length ≤ 900000) :
    Calls Tryz.prog 36 #[.pointer (some ⟨W, 0, none⟩), .int .i64 (k : Int), .agg o.cs] y fun e y' => e = .returned (.bool true) ∧ Wd w y' X W t r u L ∧ Fr [t k, r k] y y' := by
  obtain ⟨kind, on, pr, v, leave, inn, oth⟩ := o
  dsimp only at *
  obtain ⟨i1, i2, i3⟩ := hin
  simp only [Stp.cs]
  obtain ⟨z, hz⟩ : ∃ z, (((y.alloc (.cells #[.pointer (some ⟨W, 0, none⟩)] 24)).alloc (.cells #[.int .i64 (k : Int)] 3)).alloc (.cells #[.int .i64 kind, .int .i64 on, .string pr, .int .i64 v, .int .i64 leave, .int .i64 inn, .string oth] tO)).alloc (.cells #[.bool false] 4) = z := ⟨_, rfl⟩
  have hy4 : Below y.heap.size y z := hz ▸ below_four y _ _ _ _
  have hz0 : z.heap[y.heap.size]? = some (.cells #[.pointer (some ⟨W, 0, none⟩)] 24) := hz ▸ h4_0 y _ _ _ _
  have hz1 : z.heap[y.heap.size + 1]? = some (.cells #[.int .i64 (k : Int)] 3) := hz ▸ h4_1 y _ _ _ _
  have hz2 : z.heap[y.heap.size + 1 + 1]? = some (.cells #[.int .i64 kind, .int .i64 on, .string pr, .int .i64 v, .int .i64 leave, .int .i64 inn, .string oth] tO) := hz ▸ h4_2 y _ _ _ _
  have hz3 : z.heap[y.heap.size + 1 + 1 + 1]? = some (.cells #[.bool false] 4) := hz ▸ h4_3 y _ _ _ _
  have h0 := h.below hy4
  have HWL : Hid (W < y.heap.size) := (Array.getElem?_eq_some_iff.1 h.blk).1
  have HWB : Hid (w.heap.size ≤ y.heap.size) := h.bel.size
  have HZ : Hid ((((y.alloc (.cells #[.pointer (some ⟨W, 0, none⟩)] 24)).alloc (.cells #[.int .i64 (k : Int)] 3)).alloc (.cells #[.int .i64 kind, .int .i64 on, .string pr, .int .i64 v, .int .i64 leave, .int .i64 inn, .string oth] tO)).alloc (.cells #[.bool false] 4) = z) := hz
  clear hz
  clear hz0 hz1 hz2 hz3 h0 HZ hy4 HWL HWB z
  have i1' : (inn == 1) = false := by simpa using i1
  have i2' : (inn == 2) = false := by simpa using i2
  have i3' : (inn == 3) = false := by simpa using i3
  refine (callsIn_wide (n := 8)).1 ?_
  refine callsIn_of_wp_marks Tryz.func36 rfl trivial ?_ rfl
  simp only [Tryz.ntmps36, List.size_toArray, List.length_cons, List.length_nil, Nat.reduceAdd, Nat.reduceSub, Array.replicate_succ, Array.replicate_zero, List.push_toArray, List.append_toArray, List.nil_append, List.cons_append]
  refine wpIn_wide.2 ?_
  go_wp2_with fail
  exact fin_M rfl _ _ (y.heap.size + 1 + 1 + 1) true rfl (h4_3 y _ _ _ _) ⟨rfl, h.below (below_four y _ _ _ _), Fr.of (below_four y _ _ _ _)⟩
set_option maxRecDepth 100000 in
set_option maxHeartbeats 3200000 in
theorem within1 {w y : World} {X : List Nat} {W : Nat} {t r u : Nat → Nat} {L : Nat → LT} (h : Wd w y X W t r u L) (o : Stp) (k : Nat) (hk : k < 2) (hin : o.inn = 1) (hp : o.oth.size ≤ maxLen) (hL : (L k).length ≤ 900000) :
    Calls Tryz.prog 36 #[.pointer (some ⟨W, 0, none⟩), .int .i64 (k : Int), .agg o.cs] y fun e y' => e = .returned (.bool true) ∧ Wd w y' X W t r u (fun j => if j = k then putL (L k) o.oth.data.toList o.v else L j) ∧ Fr [t k, r k] y y' := by
  obtain ⟨kind, on, pr, v, leave, inn, oth⟩ := o
  dsimp only at *
  subst hin
  simp only [Stp.cs]
  obtain ⟨z, hz⟩ : ∃ z, (((y.alloc (.cells #[.pointer (some ⟨W, 0, none⟩)] 24)).alloc (.cells #[.int .i64 (k : Int)] 3)).alloc (.cells #[.int .i64 kind, .int .i64 on, .string pr, .int .i64 v, .int .i64 leave, .int .i64 1, .string oth] tO)).alloc (.cells #[.bool false] 4) = z := ⟨_, rfl⟩
  have hy4 : Below y.heap.size y z := hz ▸ below_four y _ _ _ _
  have hz0 : z.heap[y.heap.size]? = some (.cells #[.pointer (some ⟨W, 0, none⟩)] 24) := hz ▸ h4_0 y _ _ _ _
  have hz1 : z.heap[y.heap.size + 1]? = some (.cells #[.int .i64 (k : Int)] 3) := hz ▸ h4_1 y _ _ _ _
  have hz2 : z.heap[y.heap.size + 1 + 1]? = some (.cells #[.int .i64 kind, .int .i64 on, .string pr, .int .i64 v, .int .i64 leave, .int .i64 1, .string oth] tO) := hz ▸ h4_2 y _ _ _ _
  have hz3 : z.heap[y.heap.size + 1 + 1 + 1]? = some (.cells #[.bool false] 4) := hz ▸ h4_3 y _ _ _ _
  have h0 := h.below hy4
  have HWL : Hid (W < y.heap.size) := (Array.getElem?_eq_some_iff.1 h.blk).1
  have HWB : Hid (w.heap.size ≤ y.heap.size) := h.bel.size
  have HZ : Hid ((((y.alloc (.cells #[.pointer (some ⟨W, 0, none⟩)] 24)).alloc (.cells #[.int .i64 (k : Int)] 3)).alloc (.cells #[.int .i64 kind, .int .i64 on, .string pr, .int .i64 v, .int .i64 leave, .int .i64 1, .string oth] tO)).alloc (.cells #[.bool false] 4) = z) := hz
  clear hz
  refine (callsIn_wide (n := 8)).1 ?_
  refine callsIn_of_wp_marks Tryz.func36 rfl trivial ?_ rfl
  simp only [Tryz.ntmps36, List.size_toArray, List.length_cons, List.length_nil, Nat.reduceAdd, Nat.reduceSub, Array.replicate_succ, Array.replicate_zero, List.push_toArray, List.append_toArray, List.nil_append, List.cons_append]
  refine wpIn_wide.2 ?_
  go_wp2_with fail
  rw [HZ.out]
  have HBY : Hid (Below y.heap.size y z) := hy4
  obtain ⟨b, hb⟩ : ∃ b, y.heap.size = b := ⟨_, rfl⟩
  rw [hb] at hz0 hz1 hz2 hz3
  rw [hb]
  have HBE : Hid (y.heap.size = b) := hb
  clear HZ h hb hy4
  have k0 : (0 : Int) ≤ (k : Int) := by omega
  have k1 : (k : Int) < 2 := by omega
  have h1 : Wd w z.drew X W t r u L := h0.below ((Below.refl _ z).drew)
  obtain ⟨w0, w1, _⟩ := Wd.cells h1 k hk
  have c0 : z.drew.cell? ⟨b, 0, none⟩ = some (.pointer (some ⟨W, 0, none⟩)) := cell1 (x := z.drew) hz0
  have c1 : z.drew.cell? ⟨b + 1, 0, none⟩ = some (.int .i64 (k : Int)) := cell1 (x := z.drew) hz1
  have hq1 : z.drew.heap[b + 1 + 1]? = some (.cells #[.int .i64 kind, .int .i64 on, .string pr, .int .i64 v, .int .i64 leave, .int .i64 1, .string oth] tO) := hz2
  have c2 : z.drew.cell? ⟨b + 1 + 1, 6, none⟩ = some (.string oth) := by simp [World.cell?, hq1]
  have c3 : z.drew.cell? ⟨b + 1 + 1, 3, none⟩ = some (.int .i64 v) := by simp [World.cell?, hq1]
  have PA := put_first h1 hk oth v hp hL
  have PB := fun x (M : Md w z.drew x X W t r u L k (putL (L k) oth.data.toList v)) => put_second (x := x) (s := oth) (v := v) M hp hL
  have CE : ∀ x : World, x.heap[b]? = some (.cells #[.pointer (some ⟨W, 0, none⟩)] 24) → x.heap[b + 1]? = some (.cells #[.int .i64 (k : Int)] 3) → x.heap[b + 1 + 1]? = some (.cells #[.int .i64 kind, .int .i64 on, .string pr, .int .i64 v, .int .i64 leave, .int .i64 1, .string oth] tO) → x.cell? ⟨b, 0, none⟩ = some (.pointer (some ⟨W, 0, none⟩)) ∧ x.cell? ⟨b + 1, 0, none⟩ = some (.int .i64 (k : Int)) ∧ x.cell? ⟨b + 1 + 1, 6, none⟩ = some (.string oth) ∧ x.cell? ⟨b + 1 + 1, 3, none⟩ = some (.int .i64 v) := fun x e0 e1 e2 => ⟨cell1 e0, cell1 e1, by simp [World.cell?, e2], by simp [World.cell?, e2]⟩
  have KM : ∀ x, Md w z.drew x X W t r u L k (putL (L k) oth.data.toList v) → x.heap[b]? = some (.cells #[.pointer (some ⟨W, 0, none⟩)] 24) ∧ x.heap[b + 1]? = some (.cells #[.int .i64 (k : Int)] 3) ∧ x.heap[b + 1 + 1]? = some (.cells #[.int .i64 kind, .int .i64 on, .string pr, .int .i64 v, .int .i64 leave, .int .i64 1, .string oth] tO) ∧ x.heap[b + 1 + 1 + 1]? = some (.cells #[.bool false] 4) ∧ x.heap[W]? = some (.cells #[pA (t 0), pA (t 1), pA (r 0), pA (r 1), fvA (u 0), fvA (u 1)] tW) := fun x M => ⟨md_kx M (b := b) hz0 (by decide), md_kx M (b := b + 1) hz1 (by decide), md_kx M (b := b + 1 + 1) hz2 (by decide), md_kx M (b := b + 1 + 1 + 1) hz3 (by decide), md_kx M h1.blk (by decide)⟩
  have CW : ∀ x : World, x.heap[W]? = some (.cells #[pA (t 0), pA (t 1), pA (r 0), pA (r 1), fvA (u 0), fvA (u 1)] tW) → x.cell? ⟨W, k, none⟩ = some (.pointer (some ⟨t k, 0, none⟩)) ∧ x.cell? ⟨W, 2 + k, none⟩ = some (.pointer (some ⟨r k, 0, none⟩)) := fun x e => by
    have : k = 0 ∨ k = 1 := by omega
    rcases this with rfl | rfl <;> simp [World.cell?, e, pA]
  have hWb : b + 1 + 1 + 1 ≠ W := by have h8 := HWL.out; have h9 := HBE.out; omega
  have HWX : Hid (w.heap.size ≤ b) := by show _ ≤ _; rw [← HBE.out]; exact HWB.out
  clear hz0 hz1 hz2 hz3 hq1 h0 h1
  go_region_held3 (fun x => x.cell? ⟨b, 0, none⟩ = some (.pointer (some ⟨W, 0, none⟩)) ∧ x.cell? ⟨b + 1, 0, none⟩ = some (.int .i64 (k : Int)) ∧ x.cell? ⟨b + 1 + 1, 6, none⟩ = some (.string oth) ∧ x.cell? ⟨b + 1 + 1, 3, none⟩ = some (.int .i64 v) ∧ x.cell? ⟨W, k, none⟩ = some (.pointer (some ⟨t k, 0, none⟩)) ∧ x.cell? ⟨W, 2 + k, none⟩ = some (.pointer (some ⟨r k, 0, none⟩))) (first | exact ⟨by assumption, by assumption, by assumption, by assumption, by assumption, by assumption⟩ | (go_keep; done)) (first
    | (go_at_call 8; refine PA.mono ?_; rintro e x ⟨rfl, M⟩; obtain ⟨m0, m1, m2, m3, m4⟩ := KM x M; obtain ⟨d0, d1, d2, d3⟩ := CE x m0 m1 m2; obtain ⟨d4, d5⟩ := CW x m4; have PC := PB x M; have HF1 : Hid (Fr [t k, r k] y x) := ((Fr.of (HBY.out.drew)).trans (fr_mono M.fr (by simp))); clear M)
    | (go_at_call 15; refine PC.mono ?_; rintro e x2 ⟨rfl, hW, hb2, hf2⟩; have HF2 : Hid (Fr [t k, r k] y x2) := HF1.out.trans (fr_mono hf2 (by simp)); obtain ⟨g0, g1, g2, g3⟩ := CE x2 (hb2 _ _ _ m0 (by decide)) (hb2 _ _ _ m1 (by decide)) (hb2 _ _ _ m2 (by decide)); obtain ⟨g4, g5⟩ := CW x2 (hb2 _ _ _ m4 (by decide)); have n3 := hb2 _ _ _ m3 (by decide); have n4 := cell1 n3; have n5 := froz n3 0; have s0 := cset (x := x2) (.bool true) (show b + 1 + 1 + 1 ≠ b by omega) g0; have s1 := cset (x := x2) (.bool true) (show b + 1 + 1 + 1 ≠ b + 1 by omega) g1; have s2 := cset (x := x2) (.bool true) (show b + 1 + 1 + 1 ≠ b + 1 + 1 by omega) g2; have s3 := cset (x := x2) (.bool true) (show b + 1 + 1 + 1 ≠ b + 1 + 1 by omega) g3; have s4 := cset (x := x2) (.bool true) hWb g4; have s5 := cset (x := x2) (.bool true) hWb g5; clear hb2 hf2))
  go_wp2_with fail
  refine fin_M rfl _ _ (b + 1 + 1 + 1) true rfl (setCell_heap n3 0 _) ⟨rfl, Wd_bool hW n3 (by have := HWX.out; omega) _, HF2.out.set (.inr (by rw [HBE.out]; omega)) _ _⟩
set_option maxRecDepth 100000 in
set_option maxHeartbeats 3200000 in
theorem within2 {w y : World} {X : List Nat} {W : Nat} {t r u : Nat → Nat} {L : Nat → LT} (h : Wd w y X W t r u L) (o : Stp) (k : Nat) (hk : k < 2) (hin : o.inn = 2) (hp : o.oth.size ≤ maxLen) (hL : (L k).length ≤ 900000) :
    Calls Tryz.prog 36 #[.pointer (some ⟨W, 0, none⟩), .int .i64 (k : Int), .agg o.cs] y fun e y' => e = .returned (.bool true) ∧ Wd w y' X W t r u (fun j => if j = k then dl (L k) o.oth else L j) ∧ Fr [t k, r k] y y' := by
  obtain ⟨kind, on, pr, v, leave, inn, oth⟩ := o
  dsimp only at *
  subst hin
  simp only [Stp.cs]
  obtain ⟨z, hz⟩ : ∃ z, (((y.alloc (.cells #[.pointer (some ⟨W, 0, none⟩)] 24)).alloc (.cells #[.int .i64 (k : Int)] 3)).alloc (.cells #[.int .i64 kind, .int .i64 on, .string pr, .int .i64 v, .int .i64 leave, .int .i64 2, .string oth] tO)).alloc (.cells #[.bool false] 4) = z := ⟨_, rfl⟩
  have hy4 : Below y.heap.size y z := hz ▸ below_four y _ _ _ _
  have hz0 : z.heap[y.heap.size]? = some (.cells #[.pointer (some ⟨W, 0, none⟩)] 24) := hz ▸ h4_0 y _ _ _ _
  have hz1 : z.heap[y.heap.size + 1]? = some (.cells #[.int .i64 (k : Int)] 3) := hz ▸ h4_1 y _ _ _ _
  have hz2 : z.heap[y.heap.size + 1 + 1]? = some (.cells #[.int .i64 kind, .int .i64 on, .string pr, .int .i64 v, .int .i64 leave, .int .i64 2, .string oth] tO) := hz ▸ h4_2 y _ _ _ _
  have hz3 : z.heap[y.heap.size + 1 + 1 + 1]? = some (.cells #[.bool false] 4) := hz ▸ h4_3 y _ _ _ _
  have h0 := h.below hy4
  have HWL : Hid (W < y.heap.size) := (Array.getElem?_eq_some_iff.1 h.blk).1
  have HWB : Hid (w.heap.size ≤ y.heap.size) := h.bel.size
  have HZ : Hid ((((y.alloc (.cells #[.pointer (some ⟨W, 0, none⟩)] 24)).alloc (.cells #[.int .i64 (k : Int)] 3)).alloc (.cells #[.int .i64 kind, .int .i64 on, .string pr, .int .i64 v, .int .i64 leave, .int .i64 2, .string oth] tO)).alloc (.cells #[.bool false] 4) = z) := hz
  clear hz
  refine (callsIn_wide (n := 8)).1 ?_
  refine callsIn_of_wp_marks Tryz.func36 rfl trivial ?_ rfl
  simp only [Tryz.ntmps36, List.size_toArray, List.length_cons, List.length_nil, Nat.reduceAdd, Nat.reduceSub, Array.replicate_succ, Array.replicate_zero, List.push_toArray, List.append_toArray, List.nil_append, List.cons_append]
  refine wpIn_wide.2 ?_
  go_wp2_with fail
  rw [HZ.out]
  have HBY : Hid (Below y.heap.size y z) := hy4
  obtain ⟨b, hb⟩ : ∃ b, y.heap.size = b := ⟨_, rfl⟩
  rw [hb] at hz0 hz1 hz2 hz3
  rw [hb]
  have HBE : Hid (y.heap.size = b) := hb
  clear HZ h hb hy4
  have k0 : (0 : Int) ≤ (k : Int) := by omega
  have k1 : (k : Int) < 2 := by omega
  have h1 : Wd w z.drew X W t r u L := h0.below ((Below.refl _ z).drew)
  obtain ⟨w0, w1, _⟩ := Wd.cells h1 k hk
  have c0 : z.drew.cell? ⟨b, 0, none⟩ = some (.pointer (some ⟨W, 0, none⟩)) := cell1 (x := z.drew) hz0
  have c1 : z.drew.cell? ⟨b + 1, 0, none⟩ = some (.int .i64 (k : Int)) := cell1 (x := z.drew) hz1
  have hq1 : z.drew.heap[b + 1 + 1]? = some (.cells #[.int .i64 kind, .int .i64 on, .string pr, .int .i64 v, .int .i64 leave, .int .i64 2, .string oth] tO) := hz2
  have c2 : z.drew.cell? ⟨b + 1 + 1, 6, none⟩ = some (.string oth) := by simp [World.cell?, hq1]
  have c3 : z.drew.cell? ⟨b + 1 + 1, 3, none⟩ = some (.int .i64 v) := by simp [World.cell?, hq1]
  have PA := drop_first h1 hk oth hp hL
  have PB := fun x (M : Md w z.drew x X W t r u L k (dl (L k) oth)) => drop_second (x := x) (s := oth) M hL
  have CE : ∀ x : World, x.heap[b]? = some (.cells #[.pointer (some ⟨W, 0, none⟩)] 24) → x.heap[b + 1]? = some (.cells #[.int .i64 (k : Int)] 3) → x.heap[b + 1 + 1]? = some (.cells #[.int .i64 kind, .int .i64 on, .string pr, .int .i64 v, .int .i64 leave, .int .i64 2, .string oth] tO) → x.cell? ⟨b, 0, none⟩ = some (.pointer (some ⟨W, 0, none⟩)) ∧ x.cell? ⟨b + 1, 0, none⟩ = some (.int .i64 (k : Int)) ∧ x.cell? ⟨b + 1 + 1, 6, none⟩ = some (.string oth) ∧ x.cell? ⟨b + 1 + 1, 3, none⟩ = some (.int .i64 v) := fun x e0 e1 e2 => ⟨cell1 e0, cell1 e1, by simp [World.cell?, e2], by simp [World.cell?, e2]⟩
  have KM : ∀ x, Md w z.drew x X W t r u L k (dl (L k) oth) → x.heap[b]? = some (.cells #[.pointer (some ⟨W, 0, none⟩)] 24) ∧ x.heap[b + 1]? = some (.cells #[.int .i64 (k : Int)] 3) ∧ x.heap[b + 1 + 1]? = some (.cells #[.int .i64 kind, .int .i64 on, .string pr, .int .i64 v, .int .i64 leave, .int .i64 2, .string oth] tO) ∧ x.heap[b + 1 + 1 + 1]? = some (.cells #[.bool false] 4) ∧ x.heap[W]? = some (.cells #[pA (t 0), pA (t 1), pA (r 0), pA (r 1), fvA (u 0), fvA (u 1)] tW) := fun x M => ⟨md_kx M (b := b) hz0 (by decide), md_kx M (b := b + 1) hz1 (by decide), md_kx M (b := b + 1 + 1) hz2 (by decide), md_kx M (b := b + 1 + 1 + 1) hz3 (by decide), md_kx M h1.blk (by decide)⟩
  have CW : ∀ x : World, x.heap[W]? = some (.cells #[pA (t 0), pA (t 1), pA (r 0), pA (r 1), fvA (u 0), fvA (u 1)] tW) → x.cell? ⟨W, k, none⟩ = some (.pointer (some ⟨t k, 0, none⟩)) ∧ x.cell? ⟨W, 2 + k, none⟩ = some (.pointer (some ⟨r k, 0, none⟩)) := fun x e => by
    have : k = 0 ∨ k = 1 := by omega
    rcases this with rfl | rfl <;> simp [World.cell?, e, pA]
  have hWb : b + 1 + 1 + 1 ≠ W := by have h8 := HWL.out; have h9 := HBE.out; omega
  have HWX : Hid (w.heap.size ≤ b) := by show _ ≤ _; rw [← HBE.out]; exact HWB.out
  clear hz0 hz1 hz2 hz3 hq1 h0 h1
  go_region_held3 (fun x => x.cell? ⟨b, 0, none⟩ = some (.pointer (some ⟨W, 0, none⟩)) ∧ x.cell? ⟨b + 1, 0, none⟩ = some (.int .i64 (k : Int)) ∧ x.cell? ⟨b + 1 + 1, 6, none⟩ = some (.string oth) ∧ x.cell? ⟨b + 1 + 1, 3, none⟩ = some (.int .i64 v) ∧ x.cell? ⟨W, k, none⟩ = some (.pointer (some ⟨t k, 0, none⟩)) ∧ x.cell? ⟨W, 2 + k, none⟩ = some (.pointer (some ⟨r k, 0, none⟩))) (first | exact ⟨by assumption, by assumption, by assumption, by assumption, by assumption, by assumption⟩ | (go_keep; done)) (first
    | (go_at_call 16; refine PA.mono ?_; rintro e x ⟨rfl, M⟩; obtain ⟨m0, m1, m2, m3, m4⟩ := KM x M; obtain ⟨d0, d1, d2, d3⟩ := CE x m0 m1 m2; obtain ⟨d4, d5⟩ := CW x m4; have PC := PB x M; have HF1 : Hid (Fr [t k, r k] y x) := ((Fr.of (HBY.out.drew)).trans (fr_mono M.fr (by simp))); clear M)
    | (go_at_call 17; refine PC.mono ?_; rintro e x2 ⟨rfl, hW, hb2, hf2⟩; have HF2 : Hid (Fr [t k, r k] y x2) := HF1.out.trans (fr_mono hf2 (by simp)); obtain ⟨g0, g1, g2, g3⟩ := CE x2 (hb2 _ _ _ m0 (by decide)) (hb2 _ _ _ m1 (by decide)) (hb2 _ _ _ m2 (by decide)); obtain ⟨g4, g5⟩ := CW x2 (hb2 _ _ _ m4 (by decide)); have n3 := hb2 _ _ _ m3 (by decide); have n4 := cell1 n3; have n5 := froz n3 0; have s0 := cset (x := x2) (.bool true) (show b + 1 + 1 + 1 ≠ b by omega) g0; have s1 := cset (x := x2) (.bool true) (show b + 1 + 1 + 1 ≠ b + 1 by omega) g1; have s2 := cset (x := x2) (.bool true) (show b + 1 + 1 + 1 ≠ b + 1 + 1 by omega) g2; have s3 := cset (x := x2) (.bool true) (show b + 1 + 1 + 1 ≠ b + 1 + 1 by omega) g3; have s4 := cset (x := x2) (.bool true) hWb g4; have s5 := cset (x := x2) (.bool true) hWb g5; clear hb2 hf2))
  go_wp2_with fail
  refine fin_M rfl _ _ (b + 1 + 1 + 1) true rfl (setCell_heap n3 0 _) ⟨rfl, Wd_bool hW n3 (by have := HWX.out; omega) _, HF2.out.set (.inr (by rw [HBE.out]; omega)) _ _⟩
end Go.Proofs.YtecboaocoobjgaaGreatDoor.Wi
