/- SessionPlays: one step of a script. -/
import Derived.Test.YthfpjkboglbcaaaSe
import Derived.Test.YthfpjkboglbcaaaSd
namespace Go.Proofs.Ythfpjkboglbcaaa.Py
set_option linter.unusedVariables false
set_option linter.unusedSimpArgs false
open Go.RowKit Lib0 Kb Sp
open Sc (res_to)
theorem same_any (c b : ByteArray) (l : Bool) (w : World) : Calls Try.prog 19 #[.agg #[.string c, .string b, .bool l], .agg #[.string c, .string b, .bool l]] w fun e w' => e = .returned (.bool true) ∧ Below w.heap.size w w' := by
  go_enter Try.func19, Try.ntmps19
  go_wp2_with fail
  go_ret
  exact ⟨rfl, Kb.below_two w _ _⟩
theorem keep_blk {B : List Nat} {y x : World} {n : Nat} {o : Obj} (hy : y.heap[n]? = some o) (Fx : Fr B y x) (h : n ∉ B) : x.heap[n]? = some o :=
  (Fx.block n (Array.getElem?_eq_some_iff.1 hy).1 h).trans hy
theorem keep_al {y : World} {n : Nat} {o o' : Obj} (hy : y.heap[n]? = some o) : (y.alloc o').heap[n]? = some o :=
  (Below.heap_alloc _ _ _ (Array.getElem?_eq_some_iff.1 hy).1).trans hy
theorem ty_ne {w : World} {ga gb : Nat} {S T : Ss} (A : Sm 63 w ga S) (B : Sm 65 w gb T) : ga ≠ gb := by
  rintro rfl
  have := A.symm.trans B
  injection this with h
  injection h with _ h2
  exact absurd h2 (by decide)
/-- a session and the document's, in one state -/
structure Two (w : World) (ga gb : Nat) (S : Ss) : Prop where
  a : Sm 63 w ga S
  b : Sm 65 w gb S
  ok : OK S
theorem Two.ne {w : World} {ga gb : Nat} {S : Ss} (h : Two w ga gb S) : ga ≠ gb := ty_ne h.a h.b
theorem Two.fr {w x : World} {ga gb : Nat} {S : Ss} {B : List Nat} (h : Two w ga gb S) (k : Fr B w x) (h1 : ga ∉ B) (h2 : gb ∉ B) : Two x ga gb S := ⟨h.a.fr k h1, h.b.fr k h2, h.ok⟩
theorem Two.below {w x : World} {ga gb : Nat} {S : Ss} (h : Two w ga gb S) (k : Below w.heap.size w x) : Two x ga gb S := ⟨h.a.below k h.a.lt, h.b.below k h.b.lt, h.ok⟩
/-- what is known of the two while a step is played -/
structure Pl (w y : World) (ga gb P Q : Nat) (kd on nm : Int) (c b : ByteArray) (S : Ss) : Prop where
  two : Two y ga gb S
  fr : Fr [ga, gb] w y
  p : y.heap[P]? = some (.cells #[.pointer (some ⟨ga, 0, none⟩), .pointer (some ⟨gb, 0, none⟩)] 33)
  q : y.heap[Q]? = some (.cells #[.int .i64 kd, .int .i64 on, .int .i64 nm, .string c, .string b] 35)
  pa : P ≠ ga
  pb : P ≠ gb
  qa : Q ≠ ga
  qb : Q ≠ gb
section
variable {w y x : World} {ga gb P Q : Nat} {kd on nm : Int} {c b : ByteArray} {S S' : Ss}
theorem Pl.below (h : Pl w y ga gb P Q kd on nm c b S) (k : Below y.heap.size y x) : Pl w x ga gb P Q kd on nm c b S :=
  ⟨h.two.below k, h.fr.trans (Fr.of k), (k.block _ (Array.getElem?_eq_some_iff.1 h.p).1).trans h.p, (k.block _ (Array.getElem?_eq_some_iff.1 h.q).1).trans h.q, h.pa, h.pb, h.qa, h.qb⟩
theorem Pl.alloc (h : Pl w y ga gb P Q kd on nm c b S) (o : Obj) : Pl w (y.alloc o) ga gb P Q kd on nm c b S := h.below (Kb.below_one y o)
theorem Pl.cp (h : Pl w y ga gb P Q kd on nm c b S) : y.cell? ⟨P, 0, none⟩ = some (.pointer (some ⟨ga, 0, none⟩)) ∧ y.cell? ⟨P, 1, none⟩ = some (.pointer (some ⟨gb, 0, none⟩)) := by
  constructor <;> simp [World.cell?, h.p]
theorem Pl.cq (h : Pl w y ga gb P Q kd on nm c b S) : y.cell? ⟨Q, 0, none⟩ = some (.int .i64 kd) ∧ y.cell? ⟨Q, 2, none⟩ = some (.int .i64 nm) ∧ y.cell? ⟨Q, 3, none⟩ = some (.string c) ∧ y.cell? ⟨Q, 4, none⟩ = some (.string b) := by
  refine ⟨?_, ?_, ?_, ?_⟩ <;> simp [World.cell?, h.q]
/-- behind a call of the program's -/
structure Mid (w y : World) (ga gb P Q : Nat) (kd on nm : Int) (c b : ByteArray) (S S' : Ss) : Prop where
  sa : Sm 63 y ga S'
  sb : Sm 65 y gb S
  ok : OK S'
  fr : Fr [ga, gb] w y
  p : y.heap[P]? = some (.cells #[.pointer (some ⟨ga, 0, none⟩), .pointer (some ⟨gb, 0, none⟩)] 33)
  q : y.heap[Q]? = some (.cells #[.int .i64 kd, .int .i64 on, .int .i64 nm, .string c, .string b] 35)
  pa : P ≠ ga
  pb : P ≠ gb
  qa : Q ≠ ga
  qb : Q ≠ gb
theorem Pl.mid (h : Pl w y ga gb P Q kd on nm c b S) (A : Sm 63 x ga S') (k : Fr [ga] y x) (ok : OK S') : Mid w x ga gb P Q kd on nm c b S S' :=
  ⟨A, h.two.b.fr k (by simpa using h.two.ne.symm), ok, h.fr.trans (k.mono (by simp)), keep_blk h.p k (by simpa using h.pa), keep_blk h.q k (by simpa using h.qa), h.pa, h.pb, h.qa, h.qb⟩
theorem Mid.below (h : Mid w y ga gb P Q kd on nm c b S S') (k : Below y.heap.size y x) : Mid w x ga gb P Q kd on nm c b S S' :=
  ⟨h.sa.below k h.sa.lt, h.sb.below k h.sb.lt, h.ok, h.fr.trans (Fr.of k), (k.block _ (Array.getElem?_eq_some_iff.1 h.p).1).trans h.p, (k.block _ (Array.getElem?_eq_some_iff.1 h.q).1).trans h.q, h.pa, h.pb, h.qa, h.qb⟩
theorem Mid.alloc (h : Mid w y ga gb P Q kd on nm c b S S') (o : Obj) : Mid w (y.alloc o) ga gb P Q kd on nm c b S S' := h.below (Kb.below_one y o)
theorem Mid.cp (h : Mid w y ga gb P Q kd on nm c b S S') : y.cell? ⟨P, 0, none⟩ = some (.pointer (some ⟨ga, 0, none⟩)) ∧ y.cell? ⟨P, 1, none⟩ = some (.pointer (some ⟨gb, 0, none⟩)) := by
  constructor <;> simp [World.cell?, h.p]
theorem Mid.cq (h : Mid w y ga gb P Q kd on nm c b S S') : y.cell? ⟨Q, 0, none⟩ = some (.int .i64 kd) ∧ y.cell? ⟨Q, 2, none⟩ = some (.int .i64 nm) ∧ y.cell? ⟨Q, 3, none⟩ = some (.string c) ∧ y.cell? ⟨Q, 4, none⟩ = some (.string b) := by
  refine ⟨?_, ?_, ?_, ?_⟩ <;> simp [World.cell?, h.q]
theorem Mid.back (h : Mid w y ga gb P Q kd on nm c b S S') (B : Sm 65 x gb S') (k : Fr [gb] y x) : Pl w x ga gb P Q kd on nm c b S' :=
  ⟨⟨h.sa.fr k (by simpa using ty_ne h.sa h.sb), B, h.ok⟩, h.fr.trans (k.mono (by simp)), keep_blk h.p k (by simpa using h.pb), keep_blk h.q k (by simpa using h.qb), h.pa, h.pb, h.qa, h.qb⟩
end
set_option maxHeartbeats 12800000 in
set_option maxRecDepth 100000 in
theorem play_any {w : World} {ga gb : Nat} {S : Ss} (D : Two w ga gb S) (kd on nm : Int) (c b : ByteArray) (n0 : -9223372036854775808 ≤ nm) (n1 : nm ≤ 9223372036854775807) (hc : c.size ≤ 281474976710656) :
    Calls Try.prog 12 #[.agg #[.pointer (some ⟨ga, 0, none⟩), .pointer (some ⟨gb, 0, none⟩)], .agg #[.int .i64 kd, .int .i64 on, .int .i64 nm, .string c, .string b]] w fun e w' => e = .returned (.bool true) ∧ ∃ S', Two w' ga gb S' ∧ Fr [ga, gb] w w' := by
  have la := D.a.lt
  have lb := D.b.lt
  obtain ⟨y, hy⟩ : ∃ y, (w.alloc (.cells #[.pointer (some ⟨ga, 0, none⟩), .pointer (some ⟨gb, 0, none⟩)] 33)).alloc (.cells #[.int .i64 kd, .int .i64 on, .int .i64 nm, .string c, .string b] 35) = y := ⟨_, rfl⟩
  have H0 : Hid (Pl w y ga gb w.heap.size (w.heap.size + 1) kd on nm c b S) := by
    refine ⟨⟨?_, ?_, D.ok⟩, ?_, ?_, ?_, by omega, by omega, by omega, by omega⟩
    · exact hy ▸ (D.a.alloc _).alloc _
    · exact hy ▸ (D.b.alloc _).alloc _
    · exact hy ▸ ((Fr.refl _ _).alloc _).alloc _
    · exact hy ▸ Kb.h2_0 w _ _
    · exact hy ▸ Kb.h2_1 w _ _
  have HY : Hid ((w.alloc (.cells #[.pointer (some ⟨ga, 0, none⟩), .pointer (some ⟨gb, 0, none⟩)] 33)).alloc (.cells #[.int .i64 kd, .int .i64 on, .int .i64 nm, .string c, .string b] 35) = y) := hy
  have p0 := H0.out.cp.1
  have p1 := H0.out.cp.2
  have q0 := H0.out.cq.1
  have q2 := H0.out.cq.2.1
  have q3 := H0.out.cq.2.2.1
  have q4 := H0.out.cq.2.2.2
  rw [← hy] at p0 p1 q0 q2 q3 q4
  have PK2 := fun x => Pick.pick_any nm 2 x n0 n1 (by decide) (by decide)
  have PK40 := fun x => Pick.pick_any nm 40 x n0 n1 (by decide) (by decide)
  clear hy la lb D
  have HOK : Hid (OK S) := H0.out.two.ok
  by_cases k1 : kd = 1
  · subst k1
    as_aux_lemma =>
      go_enter Try.func12, Try.ntmps12
      go_wp2_with fail
      rw [HY.out]
      generalize w.heap.size + 1 = Q at *
      generalize w.heap.size = P at *
      clear HY p0 p1 q0 q2 q3 q4
      refine (Sc.up_any H0.out.two.a).mono ?_
      rintro e y1 ⟨rfl, My, Fy⟩
      have H1 : Hid (Mid w y1 ga gb P Q 1 on nm c b _ (up1 S)) := H0.out.mid My Fy (ok_up HOK.out)
      clear My Fy
      obtain ⟨⟨sc, sb, sl⟩, hsy⟩ : ∃ sy, up2 S = sy := ⟨_, rfl⟩
      have HSY : Hid (sayV (up2 S) = .agg #[.string sc, .string sb, .bool sl]) := by show sayV _ = _; rw [hsy]; rfl
      clear hsy
      rw [HSY.out]
      have m1 := (H1.out.alloc (.cells #[.string sc, .string sb, .bool sl] 40)).cp.2
      have m3 := (H1.out.alloc (.cells #[.string sc, .string sb, .bool sl] 40)).cq.2.2.1
      have m4 := (H1.out.alloc (.cells #[.string sc, .string sb, .bool sl] 40)).cq.2.2.2
      go_wp2_with fail
      obtain ⟨q1, hq1⟩ : ∃ q1, y1.alloc (.cells #[.string sc, .string sb, .bool sl] 40) = q1 := ⟨_, rfl⟩
      have H2 : Hid (Mid w q1 ga gb P Q 1 on nm c b _ (up1 S)) := hq1 ▸ H1.out.alloc _
      have hX : q1.heap[y1.heap.size]? = some (.cells #[.string sc, .string sb, .bool sl] 40) := hq1 ▸ Kb.h1_0 y1 _
      have gX : y1.heap.size ≠ gb := by have := H1.out.sb.lt; omega
      obtain ⟨X, eX⟩ : ∃ X, y1.heap.size = X := ⟨_, rfl⟩
      rw [eX] at hX gX
      rw [hq1, eX]
      clear hq1 eX H1 m1 m3 m4
      refine (Sd.up_any H2.out.sb).mono ?_
      rintro e y2 ⟨rfl, My, Fy⟩
      have H3 : Hid (Pl w y2 ga gb P Q 1 on nm c b (up1 S)) := H2.out.back My Fy
      have hX2 := keep_blk hX Fy (by simpa using gX)
      have hX3 : (y2.alloc (.cells #[.string sc, .string sb, .bool sl] 42)).heap[X]? = some (.cells #[.string sc, .string sb, .bool sl] 40) := keep_al hX2
      obtain ⟨x0, x1, x2, _⟩ := Sc.cells3 hX3
      clear My Fy H2 hX hX2 hX3
      rw [HSY.out]
      clear HSY
      go_wp2_with fail
      refine (same_any sc sb sl _).mono ?_
      rintro e z ⟨rfl, Bz⟩
      have H4 : Hid (Pl w z ga gb P Q 1 on nm c b (up1 S)) := (H3.out.alloc _).below Bz
      clear Bz H3 x0 x1 x2
      go_wp2_with fail
      go_ret
      exact ⟨rfl, _, H4.out.two, H4.out.fr⟩
  by_cases k2 : kd = 2
  · subst k2
    as_aux_lemma =>
      go_enter Try.func12, Try.ntmps12
      go_wp2_with fail
      rw [HY.out]
      generalize w.heap.size + 1 = Q at *
      generalize w.heap.size = P at *
      clear HY p0 p1 q0 q2 q3 q4
      refine (Sa.down_any H0.out.two.a).mono ?_
      rintro e y1 ⟨rfl, My, Fy⟩
      have H2 : Hid (Mid w y1 ga gb P Q 2 on nm c b _ (down S)) := H0.out.mid My Fy (ok_down HOK.out)
      clear My Fy
      have m1 := H2.out.cp.2
      go_wp2_with fail
      refine (Sd.down_any H2.out.sb).mono ?_
      rintro e y2 ⟨rfl, My, Fy⟩
      have H4 : Hid (Pl w y2 ga gb P Q 2 on nm c b (down S)) := H2.out.back My Fy
      clear My Fy H2 m1
      go_wp2_with fail
      go_ret
      exact ⟨rfl, _, H4.out.two, H4.out.fr⟩
  by_cases k3 : kd = 3
  · subst k3
    as_aux_lemma =>
      go_enter Try.func12, Try.ntmps12
      go_wp2_with fail
      rw [HY.out]
      generalize w.heap.size + 1 = Q at *
      generalize w.heap.size = P at *
      clear HY p0 p1 q0 q2 q3 q4
      refine (Sa.heard_any H0.out.two.a).mono ?_
      rintro e y1 ⟨rfl, My, Fy⟩
      have H2 : Hid (Mid w y1 ga gb P Q 3 on nm c b _ (heard S)) := H0.out.mid My Fy (ok_heard HOK.out)
      clear My Fy
      have m1 := H2.out.cp.2
      go_wp2_with fail
      refine (Sd.heard_any H2.out.sb).mono ?_
      rintro e y2 ⟨rfl, My, Fy⟩
      have H4 : Hid (Pl w y2 ga gb P Q 3 on nm c b (heard S)) := H2.out.back My Fy
      clear My Fy H2 m1
      go_wp2_with fail
      go_ret
      exact ⟨rfl, _, H4.out.two, H4.out.fr⟩
  by_cases k4 : kd = 4
  · subst k4
    as_aux_lemma =>
      go_enter Try.func12, Try.ntmps12
      go_wp2_with fail
      rw [HY.out]
      generalize w.heap.size + 1 = Q at *
      generalize w.heap.size = P at *
      clear HY p0 p1 q0 q2 q3 q4
      refine (Sc.asked_any H0.out.two.a c hc).mono ?_
      rintro e y1 ⟨rfl, My, Fy⟩
      have H1 : Hid (Mid w y1 ga gb P Q 4 on nm c b _ (asked1 S c)) := H0.out.mid My Fy (ok_asked HOK.out c)
      clear My Fy
      obtain ⟨⟨sc, sb, sl⟩, hsy⟩ : ∃ sy, asked2 S c = sy := ⟨_, rfl⟩
      have HSY : Hid (sayV (asked2 S c) = .agg #[.string sc, .string sb, .bool sl]) := by show sayV _ = _; rw [hsy]; rfl
      clear hsy
      rw [HSY.out]
      have m1 := (H1.out.alloc (.cells #[.string sc, .string sb, .bool sl] 40)).cp.2
      have m3 := (H1.out.alloc (.cells #[.string sc, .string sb, .bool sl] 40)).cq.2.2.1
      have m4 := (H1.out.alloc (.cells #[.string sc, .string sb, .bool sl] 40)).cq.2.2.2
      go_wp2_with fail
      obtain ⟨q1, hq1⟩ : ∃ q1, y1.alloc (.cells #[.string sc, .string sb, .bool sl] 40) = q1 := ⟨_, rfl⟩
      have H2 : Hid (Mid w q1 ga gb P Q 4 on nm c b _ (asked1 S c)) := hq1 ▸ H1.out.alloc _
      have hX : q1.heap[y1.heap.size]? = some (.cells #[.string sc, .string sb, .bool sl] 40) := hq1 ▸ Kb.h1_0 y1 _
      have gX : y1.heap.size ≠ gb := by have := H1.out.sb.lt; omega
      obtain ⟨X, eX⟩ : ∃ X, y1.heap.size = X := ⟨_, rfl⟩
      rw [eX] at hX gX
      rw [hq1, eX]
      clear hq1 eX H1 m1 m3 m4
      refine (Sd.asked_any H2.out.sb c).mono ?_
      rintro e y2 ⟨rfl, My, Fy⟩
      have H3 : Hid (Pl w y2 ga gb P Q 4 on nm c b (asked1 S c)) := H2.out.back My Fy
      have hX2 := keep_blk hX Fy (by simpa using gX)
      have hX3 : (y2.alloc (.cells #[.string sc, .string sb, .bool sl] 42)).heap[X]? = some (.cells #[.string sc, .string sb, .bool sl] 40) := keep_al hX2
      obtain ⟨x0, x1, x2, _⟩ := Sc.cells3 hX3
      clear My Fy H2 hX hX2 hX3
      rw [HSY.out]
      clear HSY
      go_wp2_with fail
      refine (same_any sc sb sl _).mono ?_
      rintro e z ⟨rfl, Bz⟩
      have H4 : Hid (Pl w z ga gb P Q 4 on nm c b (asked1 S c)) := (H3.out.alloc _).below Bz
      clear Bz H3 x0 x1 x2
      go_wp2_with fail
      go_ret
      exact ⟨rfl, _, H4.out.two, H4.out.fr⟩
  by_cases k5 : kd = 5
  · subst k5
    as_aux_lemma =>
      go_enter Try.func12, Try.ntmps12
      go_wp2_with fail
      rw [HY.out]
      generalize w.heap.size + 1 = Q at *
      generalize w.heap.size = P at *
      clear HY p0 p1 q0 q2 q3 q4
      refine (Sc.ansd_any H0.out.two.a c b).mono ?_
      rintro e y1 ⟨rfl, My, Fy⟩
      have H1 : Hid (Mid w y1 ga gb P Q 5 on nm c b _ (ansd S c b)) := H0.out.mid My Fy (ok_ansd HOK.out c b)
      clear My Fy
      obtain ⟨⟨sc, sb, sl⟩, hsy⟩ : ∃ sy, no = sy := ⟨_, rfl⟩
      have HSY : Hid (sayV (no) = .agg #[.string sc, .string sb, .bool sl]) := by show sayV _ = _; rw [hsy]; rfl
      clear hsy
      rw [HSY.out]
      have m1 := (H1.out.alloc (.cells #[.string sc, .string sb, .bool sl] 40)).cp.2
      have m3 := (H1.out.alloc (.cells #[.string sc, .string sb, .bool sl] 40)).cq.2.2.1
      have m4 := (H1.out.alloc (.cells #[.string sc, .string sb, .bool sl] 40)).cq.2.2.2
      go_wp2_with fail
      obtain ⟨q1, hq1⟩ : ∃ q1, y1.alloc (.cells #[.string sc, .string sb, .bool sl] 40) = q1 := ⟨_, rfl⟩
      have H2 : Hid (Mid w q1 ga gb P Q 5 on nm c b _ (ansd S c b)) := hq1 ▸ H1.out.alloc _
      have hX : q1.heap[y1.heap.size]? = some (.cells #[.string sc, .string sb, .bool sl] 40) := hq1 ▸ Kb.h1_0 y1 _
      have gX : y1.heap.size ≠ gb := by have := H1.out.sb.lt; omega
      obtain ⟨X, eX⟩ : ∃ X, y1.heap.size = X := ⟨_, rfl⟩
      rw [eX] at hX gX
      rw [hq1, eX]
      clear hq1 eX H1 m1 m3 m4
      refine (Sd.ansd_any H2.out.sb c b).mono ?_
      rintro e y2 ⟨rfl, My, Fy⟩
      have H3 : Hid (Pl w y2 ga gb P Q 5 on nm c b (ansd S c b)) := H2.out.back My Fy
      have hX2 := keep_blk hX Fy (by simpa using gX)
      have hX3 : (y2.alloc (.cells #[.string sc, .string sb, .bool sl] 42)).heap[X]? = some (.cells #[.string sc, .string sb, .bool sl] 40) := keep_al hX2
      obtain ⟨x0, x1, x2, _⟩ := Sc.cells3 hX3
      clear My Fy H2 hX hX2 hX3
      rw [HSY.out]
      clear HSY
      go_wp2_with fail
      refine (same_any sc sb sl _).mono ?_
      rintro e z ⟨rfl, Bz⟩
      have H4 : Hid (Pl w z ga gb P Q 5 on nm c b (ansd S c b)) := (H3.out.alloc _).below Bz
      clear Bz H3 x0 x1 x2
      go_wp2_with fail
      go_ret
      exact ⟨rfl, _, H4.out.two, H4.out.fr⟩
  by_cases k6 : kd = 6
  · subst k6
    as_aux_lemma =>
      go_enter Try.func12, Try.ntmps12
      go_wp2_with fail
      rw [HY.out]
      generalize w.heap.size + 1 = Q at *
      generalize w.heap.size = P at *
      clear HY p0 p1 q0 q2 q3 q4
      refine (Sc.tick_any H0.out.two.a HOK.out).mono ?_
      rintro e y1 ⟨rfl, My, Fy⟩
      have H1 : Hid (Mid w y1 ga gb P Q 6 on nm c b _ (tick1 S)) := H0.out.mid My Fy (ok_tick HOK.out)
      clear My Fy
      obtain ⟨⟨sc, sb, sl⟩, hsy⟩ : ∃ sy, tick2 S = sy := ⟨_, rfl⟩
      have HSY : Hid (sayV (tick2 S) = .agg #[.string sc, .string sb, .bool sl]) := by show sayV _ = _; rw [hsy]; rfl
      clear hsy
      rw [HSY.out]
      have m1 := (H1.out.alloc (.cells #[.string sc, .string sb, .bool sl] 40)).cp.2
      have m3 := (H1.out.alloc (.cells #[.string sc, .string sb, .bool sl] 40)).cq.2.2.1
      have m4 := (H1.out.alloc (.cells #[.string sc, .string sb, .bool sl] 40)).cq.2.2.2
      go_wp2_with fail
      obtain ⟨q1, hq1⟩ : ∃ q1, y1.alloc (.cells #[.string sc, .string sb, .bool sl] 40) = q1 := ⟨_, rfl⟩
      have H2 : Hid (Mid w q1 ga gb P Q 6 on nm c b _ (tick1 S)) := hq1 ▸ H1.out.alloc _
      have hX : q1.heap[y1.heap.size]? = some (.cells #[.string sc, .string sb, .bool sl] 40) := hq1 ▸ Kb.h1_0 y1 _
      have gX : y1.heap.size ≠ gb := by have := H1.out.sb.lt; omega
      obtain ⟨X, eX⟩ : ∃ X, y1.heap.size = X := ⟨_, rfl⟩
      rw [eX] at hX gX
      rw [hq1, eX]
      clear hq1 eX H1 m1 m3 m4
      refine (Sd.tick_any H2.out.sb HOK.out).mono ?_
      rintro e y2 ⟨rfl, My, Fy⟩
      have H3 : Hid (Pl w y2 ga gb P Q 6 on nm c b (tick1 S)) := H2.out.back My Fy
      have hX2 := keep_blk hX Fy (by simpa using gX)
      have hX3 : (y2.alloc (.cells #[.string sc, .string sb, .bool sl] 42)).heap[X]? = some (.cells #[.string sc, .string sb, .bool sl] 40) := keep_al hX2
      obtain ⟨x0, x1, x2, _⟩ := Sc.cells3 hX3
      clear My Fy H2 hX hX2 hX3
      rw [HSY.out]
      clear HSY
      go_wp2_with fail
      refine (same_any sc sb sl _).mono ?_
      rintro e z ⟨rfl, Bz⟩
      have H4 : Hid (Pl w z ga gb P Q 6 on nm c b (tick1 S)) := (H3.out.alloc _).below Bz
      clear Bz H3 x0 x1 x2
      go_wp2_with fail
      go_ret
      exact ⟨rfl, _, H4.out.two, H4.out.fr⟩
  by_cases k7 : kd = 7
  · subst k7
    have lo := Pick.pick_lo nm 40 (by decide)
    have hi := Pick.pick_hi nm 40 (by decide)
    generalize Pick.pickOf nm 40 = R at *
    as_aux_lemma =>
      go_enter Try.func12, Try.ntmps12
      go_wp2_with fail
      rw [HY.out]
      generalize w.heap.size + 1 = Q at *
      generalize w.heap.size = P at *
      clear HY p0 p1 q0 q2 q3 q4
      go_loopw [13] (fun iv wr => ∃ (i : Int) (S : Ss), iv = .int .i64 i ∧ 0 ≤ i ∧ i ≤ R ∧ Pl w wr ga gb P Q 7 on nm c b S) (fun iv _ => (R + 1 - intOf iv).toNat)
      case atStart => exact ⟨0, S, rfl, by omega, by omega, H0.out⟩
      case round =>
        obtain ⟨i, S, rfl, i0, i1, HPl⟩ := hrel
        clear H0 HOK
        have H0 : Hid (Pl w wr ga gb P Q 7 on nm c b S) := HPl
        have HOK : Hid (OK S) := HPl.two.ok
        have p0 := HPl.cp.1
        have q2 := HPl.cq.2.1
        clear HPl
        by_cases hi : i < R
        · go_wp2_with fail
          refine (PK40 _).mono ?_
          rintro e x0 ⟨rfl, hx0⟩
          rw [hx0]
          clear hx0 x0
          go_wp2_with fail
          clear p0 q2
          refine (Sc.tick_any H0.out.two.a HOK.out).mono ?_
          rintro e y1 ⟨rfl, My, Fy⟩
          have H1 : Hid (Mid w y1 ga gb P Q 7 on nm c b _ (tick1 S)) := H0.out.mid My Fy (ok_tick HOK.out)
          clear My Fy
          obtain ⟨⟨sc, sb, sl⟩, hsy⟩ : ∃ sy, tick2 S = sy := ⟨_, rfl⟩
          have HSY : Hid (sayV (tick2 S) = .agg #[.string sc, .string sb, .bool sl]) := by show sayV _ = _; rw [hsy]; rfl
          clear hsy
          rw [HSY.out]
          have m1 := (H1.out.alloc (.cells #[.string sc, .string sb, .bool sl] 40)).cp.2
          have m3 := (H1.out.alloc (.cells #[.string sc, .string sb, .bool sl] 40)).cq.2.2.1
          have m4 := (H1.out.alloc (.cells #[.string sc, .string sb, .bool sl] 40)).cq.2.2.2
          go_wp2_with fail
          obtain ⟨q1, hq1⟩ : ∃ q1, y1.alloc (.cells #[.string sc, .string sb, .bool sl] 40) = q1 := ⟨_, rfl⟩
          have H2 : Hid (Mid w q1 ga gb P Q 7 on nm c b _ (tick1 S)) := hq1 ▸ H1.out.alloc _
          have hX : q1.heap[y1.heap.size]? = some (.cells #[.string sc, .string sb, .bool sl] 40) := hq1 ▸ Kb.h1_0 y1 _
          have gX : y1.heap.size ≠ gb := by have := H1.out.sb.lt; omega
          obtain ⟨X, eX⟩ : ∃ X, y1.heap.size = X := ⟨_, rfl⟩
          rw [eX] at hX gX
          rw [hq1, eX]
          clear hq1 eX H1 m1 m3 m4
          refine (Sd.tick_any H2.out.sb HOK.out).mono ?_
          rintro e y2 ⟨rfl, My, Fy⟩
          have H3 : Hid (Pl w y2 ga gb P Q 7 on nm c b (tick1 S)) := H2.out.back My Fy
          have hX2 := keep_blk hX Fy (by simpa using gX)
          have hX3 : (y2.alloc (.cells #[.string sc, .string sb, .bool sl] 42)).heap[X]? = some (.cells #[.string sc, .string sb, .bool sl] 40) := keep_al hX2
          obtain ⟨x0, x1, x2, _⟩ := Sc.cells3 hX3
          clear My Fy H2 hX hX2 hX3
          rw [HSY.out]
          clear HSY
          go_wp2_with fail
          refine (same_any sc sb sl _).mono ?_
          rintro e z ⟨rfl, Bz⟩
          have H4 : Hid (Pl w z ga gb P Q 7 on nm c b (tick1 S)) := (H3.out.alloc _).below Bz
          clear Bz H3 x0 x1 x2
          go_wp2_with fail
          refine ⟨⟨i + 1, _, by simp, by omega, by omega, H4.out⟩, ?_⟩
          simp only [intOf]
          omega
        · go_wp2_with fail
          refine (PK40 _).mono ?_
          rintro e x0 ⟨rfl, hx0⟩
          rw [hx0]
          clear hx0 x0
          go_wp2_with fail
          go_ret
          exact ⟨rfl, _, H0.out.two, H0.out.fr⟩
  by_cases k8 : kd = 8
  · subst k8
    have hK : Pick.pickOf nm 2 = 0 ∨ Pick.pickOf nm 2 = 1 := by have := Pick.pick_lo nm 2 (by decide); have := Pick.pick_hi nm 2 (by decide); omega
    generalize Pick.pickOf nm 2 = K at *
    rcases hK with rfl | rfl
    · as_aux_lemma =>
        go_enter Try.func12, Try.ntmps12
        go_wp2_with fail
        refine (PK2 _).mono ?_
        rintro e x0 ⟨rfl, hx0⟩
        rw [hx0, HY.out]
        clear hx0 x0
        have hV : (y.alloc (.cells #[.string ⟨#[48, 48, 49]⟩, .string ⟨#[51, 48, 49]⟩] 9)).heap[w.heap.size + 1 + 1]? = some (.cells #[.string ⟨#[48, 48, 49]⟩, .string ⟨#[51, 48, 49]⟩] 9) := by rw [← HY.out]; exact Kb.h3_2 w _ _ _
        obtain ⟨z, hz⟩ : ∃ z, y.alloc (.cells #[.string ⟨#[48, 48, 49]⟩, .string ⟨#[51, 48, 49]⟩] 9) = z := ⟨_, rfl⟩
        have H9 : Hid (Pl w z ga gb w.heap.size (w.heap.size + 1) 8 on nm c b S) := hz ▸ H0.out.alloc _
        rw [hz] at hV
        rw [hz]
        have v0 : z.cell? ⟨w.heap.size + 1 + 1, 0, none⟩ = some (.string ⟨#[48, 48, 49]⟩) := by simp [World.cell?, hV]
        have v1 : z.cell? ⟨w.heap.size + 1 + 1, 1, none⟩ = some (.string ⟨#[51, 48, 49]⟩) := by simp [World.cell?, hV]
        have z0 := H9.out.cp.1
        clear hz hV H0 HY p0 p1 q0 q2 q3 q4
        generalize w.heap.size + 1 = Q at *
        generalize w.heap.size = P at *
        go_wp2_with fail
        clear v0 v1 z0
        refine (Sc.ansd_any H9.out.two.a ⟨#[48, 48, 49]⟩ t00).mono ?_
        rintro e y1 ⟨rfl, My, Fy⟩
        have H1 : Hid (Mid w y1 ga gb P Q 8 on nm c b _ (ansd S ⟨#[48, 48, 49]⟩ t00)) := H9.out.mid My Fy (ok_ansd HOK.out ⟨#[48, 48, 49]⟩ t00)
        clear My Fy
        obtain ⟨⟨sc, sb, sl⟩, hsy⟩ : ∃ sy, no = sy := ⟨_, rfl⟩
        have HSY : Hid (sayV (no) = .agg #[.string sc, .string sb, .bool sl]) := by show sayV _ = _; rw [hsy]; rfl
        clear hsy
        rw [HSY.out]
        have m1 := (H1.out.alloc (.cells #[.string sc, .string sb, .bool sl] 40)).cp.2
        have m3 := (H1.out.alloc (.cells #[.string sc, .string sb, .bool sl] 40)).cq.2.2.1
        have m4 := (H1.out.alloc (.cells #[.string sc, .string sb, .bool sl] 40)).cq.2.2.2
        go_wp2_with fail
        obtain ⟨q1, hq1⟩ : ∃ q1, y1.alloc (.cells #[.string sc, .string sb, .bool sl] 40) = q1 := ⟨_, rfl⟩
        have H2 : Hid (Mid w q1 ga gb P Q 8 on nm c b _ (ansd S ⟨#[48, 48, 49]⟩ t00)) := hq1 ▸ H1.out.alloc _
        have hX : q1.heap[y1.heap.size]? = some (.cells #[.string sc, .string sb, .bool sl] 40) := hq1 ▸ Kb.h1_0 y1 _
        have gX : y1.heap.size ≠ gb := by have := H1.out.sb.lt; omega
        obtain ⟨X, eX⟩ : ∃ X, y1.heap.size = X := ⟨_, rfl⟩
        rw [eX] at hX gX
        rw [hq1, eX]
        clear hq1 eX H1 m1 m3 m4
        refine (Sd.ansd_any H2.out.sb ⟨#[48, 48, 49]⟩ t00).mono ?_
        rintro e y2 ⟨rfl, My, Fy⟩
        have H3 : Hid (Pl w y2 ga gb P Q 8 on nm c b (ansd S ⟨#[48, 48, 49]⟩ t00)) := H2.out.back My Fy
        have hX2 := keep_blk hX Fy (by simpa using gX)
        have hX3 : (y2.alloc (.cells #[.string sc, .string sb, .bool sl] 42)).heap[X]? = some (.cells #[.string sc, .string sb, .bool sl] 40) := keep_al hX2
        obtain ⟨x0, x1, x2, _⟩ := Sc.cells3 hX3
        clear My Fy H2 hX hX2 hX3
        rw [HSY.out]
        clear HSY
        go_wp2_with fail
        refine (same_any sc sb sl _).mono ?_
        rintro e z ⟨rfl, Bz⟩
        have H4 : Hid (Pl w z ga gb P Q 8 on nm c b (ansd S ⟨#[48, 48, 49]⟩ t00)) := (H3.out.alloc _).below Bz
        clear Bz H3 x0 x1 x2
        go_wp2_with fail
        go_ret
        exact ⟨rfl, _, H4.out.two, H4.out.fr⟩
    · as_aux_lemma =>
        go_enter Try.func12, Try.ntmps12
        go_wp2_with fail
        refine (PK2 _).mono ?_
        rintro e x0 ⟨rfl, hx0⟩
        rw [hx0, HY.out]
        clear hx0 x0
        have hV : (y.alloc (.cells #[.string ⟨#[48, 48, 49]⟩, .string ⟨#[51, 48, 49]⟩] 9)).heap[w.heap.size + 1 + 1]? = some (.cells #[.string ⟨#[48, 48, 49]⟩, .string ⟨#[51, 48, 49]⟩] 9) := by rw [← HY.out]; exact Kb.h3_2 w _ _ _
        obtain ⟨z, hz⟩ : ∃ z, y.alloc (.cells #[.string ⟨#[48, 48, 49]⟩, .string ⟨#[51, 48, 49]⟩] 9) = z := ⟨_, rfl⟩
        have H9 : Hid (Pl w z ga gb w.heap.size (w.heap.size + 1) 8 on nm c b S) := hz ▸ H0.out.alloc _
        rw [hz] at hV
        rw [hz]
        have v0 : z.cell? ⟨w.heap.size + 1 + 1, 0, none⟩ = some (.string ⟨#[48, 48, 49]⟩) := by simp [World.cell?, hV]
        have v1 : z.cell? ⟨w.heap.size + 1 + 1, 1, none⟩ = some (.string ⟨#[51, 48, 49]⟩) := by simp [World.cell?, hV]
        have z0 := H9.out.cp.1
        clear hz hV H0 HY p0 p1 q0 q2 q3 q4
        generalize w.heap.size + 1 = Q at *
        generalize w.heap.size = P at *
        go_wp2_with fail
        clear v0 v1 z0
        refine (Sc.ansd_any H9.out.two.a ⟨#[51, 48, 49]⟩ t00).mono ?_
        rintro e y1 ⟨rfl, My, Fy⟩
        have H1 : Hid (Mid w y1 ga gb P Q 8 on nm c b _ (ansd S ⟨#[51, 48, 49]⟩ t00)) := H9.out.mid My Fy (ok_ansd HOK.out ⟨#[51, 48, 49]⟩ t00)
        clear My Fy
        obtain ⟨⟨sc, sb, sl⟩, hsy⟩ : ∃ sy, no = sy := ⟨_, rfl⟩
        have HSY : Hid (sayV (no) = .agg #[.string sc, .string sb, .bool sl]) := by show sayV _ = _; rw [hsy]; rfl
        clear hsy
        rw [HSY.out]
        have m1 := (H1.out.alloc (.cells #[.string sc, .string sb, .bool sl] 40)).cp.2
        have m3 := (H1.out.alloc (.cells #[.string sc, .string sb, .bool sl] 40)).cq.2.2.1
        have m4 := (H1.out.alloc (.cells #[.string sc, .string sb, .bool sl] 40)).cq.2.2.2
        go_wp2_with fail
        obtain ⟨q1, hq1⟩ : ∃ q1, y1.alloc (.cells #[.string sc, .string sb, .bool sl] 40) = q1 := ⟨_, rfl⟩
        have H2 : Hid (Mid w q1 ga gb P Q 8 on nm c b _ (ansd S ⟨#[51, 48, 49]⟩ t00)) := hq1 ▸ H1.out.alloc _
        have hX : q1.heap[y1.heap.size]? = some (.cells #[.string sc, .string sb, .bool sl] 40) := hq1 ▸ Kb.h1_0 y1 _
        have gX : y1.heap.size ≠ gb := by have := H1.out.sb.lt; omega
        obtain ⟨X, eX⟩ : ∃ X, y1.heap.size = X := ⟨_, rfl⟩
        rw [eX] at hX gX
        rw [hq1, eX]
        clear hq1 eX H1 m1 m3 m4
        refine (Sd.ansd_any H2.out.sb ⟨#[51, 48, 49]⟩ t00).mono ?_
        rintro e y2 ⟨rfl, My, Fy⟩
        have H3 : Hid (Pl w y2 ga gb P Q 8 on nm c b (ansd S ⟨#[51, 48, 49]⟩ t00)) := H2.out.back My Fy
        have hX2 := keep_blk hX Fy (by simpa using gX)
        have hX3 : (y2.alloc (.cells #[.string sc, .string sb, .bool sl] 42)).heap[X]? = some (.cells #[.string sc, .string sb, .bool sl] 40) := keep_al hX2
        obtain ⟨x0, x1, x2, _⟩ := Sc.cells3 hX3
        clear My Fy H2 hX hX2 hX3
        rw [HSY.out]
        clear HSY
        go_wp2_with fail
        refine (same_any sc sb sl _).mono ?_
        rintro e z ⟨rfl, Bz⟩
        have H4 : Hid (Pl w z ga gb P Q 8 on nm c b (ansd S ⟨#[51, 48, 49]⟩ t00)) := (H3.out.alloc _).below Bz
        clear Bz H3 x0 x1 x2
        go_wp2_with fail
        go_ret
        exact ⟨rfl, _, H4.out.two, H4.out.fr⟩
  have n1' : (kd == 1) = false := by simpa using k1
  have n2' : (kd == 2) = false := by simpa using k2
  have n3' : (kd == 3) = false := by simpa using k3
  have n4' : (kd == 4) = false := by simpa using k4
  have n5' : (kd == 5) = false := by simpa using k5
  have n6' : (kd == 6) = false := by simpa using k6
  have n7' : (kd == 7) = false := by simpa using k7
  have n8' : (kd == 8) = false := by simpa using k8
  go_enter Try.func12, Try.ntmps12
  go_wp2_with fail
  rw [HY.out]
  go_ret
  exact ⟨rfl, _, H0.out.two, H0.out.fr⟩
end Go.Proofs.Ythfpjkboglbcaaa.Py
