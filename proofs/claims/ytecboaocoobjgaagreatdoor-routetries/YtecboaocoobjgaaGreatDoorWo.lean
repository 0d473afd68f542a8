/- RouteTries: all are gone over, as they were when that began. -/
import Derived.Test.YtecboaocoobjgaaGreatDoorWn
namespace Go.Proofs.YtecboaocoobjgaaGreatDoor.Wo
set_option linter.unusedVariables false
set_option linter.unusedSimpArgs false
open Go.RowKit Go.Shelf Lib0 Kb Rp Rw Rs Li Mj Tj Kq Sr Ra Rj Da Db Dc Dd De Wd Ws Wi Wk Wn
attribute [local go_sem] Oper.semAt_some
/-- a whole row is appended to nothing -/
theorem wpList_append_all {w : World} {ops : Array Oper} {rest : List Oper} {o : Oper} {a : Act} {Q : Exit → Act → World → Prop} (hgd : o.guard = none) (s x : Operand)
    (ho : o.op = .call { callee := .builtin .append, args := #[s, x], argTypes := #[35, 35] }) (hs : a.eval s = .slice none 0 0) (v0 : Value) (hx : a.eval x = v0) (L : LT) (hr : RowL w v0 L) (hc : Cp v0) (hL : L.length ≤ 900000)
    (h : ∀ o' n c w', RowL w' (.slice o' n c) L → n = L.length → Below w.heap.size w w' → wpList Tryz.prog ops Q rest (a.put o.dst (.slice o' n c)) w') : wpList Tryz.prog ops Q (o :: rest) a w := by
  obtain ⟨i0, hi, hz0, hz1, hz2⟩ := info_parts infoL
  obtain ⟨o0, n0, c0, rfl, q1, q2, q3⟩ := hc
  obtain rfl : n0 = L.length := by
    obtain ⟨o', cap', e', _⟩ := hr
    injection e' with _ e2 _
  cases o0 with
  | none =>
    obtain rfl := q3 rfl
    have hl : L.length = 0 := by omega
    rw [hl] at hx hr
    refine wpList_append_none _ hgd _ _ _ ho tL i0 Tryz.underlying35 hi none 0 0 (Nat.le_refl _) hs hx ?_
    exact h none 0 0 w hr hl.symm (Below.refl _ _)
  | some ad =>
    refine wpList_append_own_at _ hgd _ _ _ ho w.heap.size tL i0 _ 2 24 Tryz.underlying35 hi hz0 hz1 hz2 rfl (by omega) _ 0 [] hs (World.ownsRow_nil _ _ _ _) ad L.length c0 (cel L) hx (cel_len L) (row_cells hr) (cel_one L) (by unfold maxLen; omega) (by omega) (Nat.le_refl _) ?_
    intro v1 y1 hown1 hgrow1 _ _
    rw [Nat.zero_add, List.nil_append] at hown1
    obtain ⟨o2, n2, c2, rfl⟩ := own_form hown1
    have hn : n2 = L.length := by
      rcases hown1.2 with ⟨e, e2⟩ | ⟨g, cap', cur, e, _⟩
      · have e3 : n2 = 0 := by cases e; rfl
        rw [e3, e2]
      · cases e; rfl
    exact h o2 n2 c2 y1 (row_own (by omega) hown1) hn ((Below.refl _ _).grown hgrow1 (Nat.le_refl _) (fun r e => by cases e))
theorem pick_k (c n : Int) (w : World) (h0 : -9223372036854775808 ≤ c) (h1 : c ≤ 9223372036854775807) (h2 : 0 < n) (h3 : n ≤ 9223372036854775807) :
    ∃ k : Nat, (k : Int) < n ∧ ∀ w, Calls Tryz.prog 14 #[.int .i64 c, .int .i64 n] w fun e w' => e = .returned (.int .i64 (k : Int)) ∧ w' = w := by
  have hz : (n == 0) = false := by simp; omega
  have ho : (n == -1) = false := by simp; omega
  have lo : 0 ≤ (if c < 0 then -(c + 1) else c) % n := Int.emod_nonneg _ (by omega)
  have hi : (if c < 0 then -(c + 1) else c) % n < n := Int.emod_lt_of_pos _ h2
  refine ⟨((if c < 0 then -(c + 1) else c) % n).toNat, by omega, fun w => ?_⟩
  rw [show ((((if c < 0 then -(c + 1) else c) % n).toNat : Nat) : Int) = (if c < 0 then -(c + 1) else c) % n by omega]
  by_cases g : c < 0
  · go_enter Tryz.func14, Tryz.ntmps14
    go_wp2
    go_ret
    exact ⟨by rw [← Int.tmod_eq_emod_of_nonneg (by omega), Int.neg_tmod]; rfl, rfl⟩
  · go_enter Tryz.func14, Tryz.ntmps14
    go_wp2
    go_ret
    exact ⟨rfl, rfl⟩
/-- between the rounds -/
structure Jv (y w : World) (X : List Nat) (W : Nat) (t r u : Nat → Nat) (b q k : Nat) (o : Stp) (v : Value) (Lk : LT) (B : Nat → Nat) (n : Int) (V : World) : Prop where
  wd : ∃ L2, Wd w V ([q] ++ X) W t r u L2 ∧ ∀ j, (L2 j).length ≤ B j
  z0 : V.heap[b]? = some (.cells #[.pointer (some ⟨W, 0, none⟩)] 24)
  z1 : V.heap[b + 1]? = some (.cells #[.int .i64 (k : Int)] 3)
  z2 : V.heap[b + 1 + 1]? = some (.cells o.cs tO)
  z3 : V.heap[b + 1 + 1 + 1]? = some (.cells #[.bool false] 4)
  z4 : V.heap[b + 1 + 1 + 1 + 1]? = some (.cells #[v] 35)
  zq : V.heap[q]? = some (.cells #[.int .i64 n] 3)
  row : RowL V v Lk
  ko : ∀ (b' : Nat) (c : Array Value), y.heap[b']? = some (.cells c tO) → V.heap[b']? = some (.cells c tO)
def Jr (y w : World) (X : List Nat) (W : Nat) (t r u : Nat → Nat) (b q : Nat) (B : Nat → Nat) (V : World) : Prop := (∃ L2, Wd w V ([q] ++ X) W t r u L2 ∧ ∀ j, (L2 j).length ≤ B j) ∧ V.heap[b + 1 + 1 + 1]? = some (.cells #[.bool true] 4) ∧ ∀ (b' : Nat) (c : Array Value), y.heap[b']? = some (.cells c tO) → V.heap[b']? = some (.cells c tO)
section
variable {y w : World} {X : List Nat} {W : Nat} {t r u : Nat → Nat} {b q k : Nat} {o : Stp} {v : Value} {Lk : LT} {B : Nat → Nat} {n : Int} {V V' : World}
theorem Jv.kt (h : Jv y w X W t r u b q k o v Lk B n V) (c : KT [] V V') (bl : Below w.heap.size w V') : Jv y w X W t r u b q k o v Lk B n V' :=
  ⟨let ⟨L2, d, e⟩ := h.wd; ⟨L2, Wd_kt (Y := []) d (fun q hq => by cases hq) c bl, e⟩, c.cells _ _ _ _ (by simp) h.z0, c.cells _ _ _ _ (by simp) h.z1, c.cells _ _ _ _ (by simp) h.z2, c.cells _ _ _ _ (by simp) h.z3, c.cells _ _ _ _ (by simp) h.z4, c.cells _ _ _ _ (by simp) h.zq, row_kt h.row (fun q hq => by cases hq) c, fun b' c' e => c.cells _ _ _ _ (by simp) (h.ko b' c' e)⟩
theorem Jv.low (h : Jv y w X W t r u b q k o v Lk B n V) : Below w.heap.size w V := let ⟨_, d, _⟩ := h.wd; d.bel
theorem Jv.drew (h : Jv y w X W t r u b q k o v Lk B n V) (m : Nat) : Jv y w X W t r u b q k o v Lk B n (V.drewN m) := h.kt ⟨Nat.le_refl _, fun _ _ _ _ _ e => e⟩ (below_drewN h.low m)
theorem Jv.own (h : Jv y w X W t r u b q k o v Lk B n V) {row : Option Nat} (hg : V.grownBy V' row) (hr : ∀ r, row = some r → w.heap.size ≤ r ∧ ∃ o : Obj, V.heap[r]? = some o ∧ o.isCells = false) : Jv y w X W t r u b q k o v Lk B n V' :=
  h.kt (KT.grown hg fun r e => (hr r e).2) (h.low.grown hg h.low.size (fun k e => (hr k e).1))
theorem Jr.own (h : Jr y w X W t r u b q B V) {row : Option Nat} (hg : V.grownBy V' row) (hr : ∀ r, row = some r → w.heap.size ≤ r ∧ ∃ o : Obj, V.heap[r]? = some o ∧ o.isCells = false) : Jr y w X W t r u b q B V' :=
  ⟨let ⟨L2, d, e⟩ := h.1; ⟨L2, Wd_kt (Y := []) d (fun q hq => by cases hq) (KT.grown hg fun r e => (hr r e).2) (d.bel.grown hg d.bel.size (fun k e => (hr k e).1)), e⟩, cells_grown hg (fun r e => (hr r e).2) h.2.1, fun b' c' e => cells_grown hg (fun r e => (hr r e).2) (h.2.2 b' c' e)⟩
theorem Jv.inc (h : Jv y w X W t r u b q k o v Lk B n V) (hb : b + 1 + 1 + 1 + 1 < q) (hw : w.heap.size ≤ q) (n' : Int) : Jv y w X W t r u b q k o v Lk B n' (V.setCell ⟨q, 0, none⟩ (.int .i64 n')) := by
  have c : KT [q] V (V.setCell ⟨q, 0, none⟩ (.int .i64 n')) := KT.set (by simp) _ _
  obtain ⟨L2, d, e⟩ := h.wd
  refine ⟨⟨L2, Wd_kt (Y := [q]) d (fun q' hq' => by rw [List.mem_singleton.1 hq']; exact ⟨by simp, oth_int h.zq⟩) c (d.bel.setCell (p := ⟨q, 0, none⟩) hw _), e⟩, c.cells _ _ _ _ (by simp; omega) h.z0, c.cells _ _ _ _ (by simp; omega) h.z1, c.cells _ _ _ _ (by simp; omega) h.z2, c.cells _ _ _ _ (by simp; omega) h.z3, c.cells _ _ _ _ (by simp; omega) h.z4, ?_, row_kt h.row (fun q' hq' => by rw [List.mem_singleton.1 hq']; exact noS_int h.zq) c, fun b' c' e => c.cells _ _ _ _ (by simpa using blk_ne (h.ko b' c' e) h.zq (by decide)) (h.ko b' c' e)⟩
  rw [setCell_heap h.zq 0]; rfl
theorem Jv.ret (h : Jv y w X W t r u b q k o v Lk B n V) (hw : w.heap.size ≤ b) : Jr y w X W t r u b q B (V.setCell ⟨b + 1 + 1 + 1, 0, none⟩ (.bool true)) := by
  obtain ⟨L2, d, e⟩ := h.wd
  exact ⟨⟨L2, Wd_bool d h.z3 (by omega) _, e⟩, by rw [setCell_heap h.z3 0]; rfl, fun b' c' e => (setCell_ne (blk_ne h.z3 (h.ko b' c' e) (by decide)) _ _).trans (h.ko b' c' e)⟩
theorem Jv.up (h : Jv y w X W t r u b q k o v Lk B n V) {B' : Nat → Nat} (hB : ∀ j, B j ≤ B' j) : Jv y w X W t r u b q k o v Lk B' n V :=
  { h with wd := let ⟨L2, d, e⟩ := h.wd; ⟨L2, d, fun j => Nat.le_trans (e j) (hB j)⟩ }
/-- behind a change of both -/
theorem Jv.call (h : Jv y w X W t r u b q k o v Lk B n V) (hk : k < 2) {L2 L' : Nat → LT} (d : Wd w V ([q] ++ X) W t r u L2) (d' : Wd w V' ([q] ++ X) W t r u L') {B' : Nat → Nat} (hl : ∀ j, (L' j).length ≤ B' j) (f : Fr [t k, r k] V V') :
    Jv y w X W t r u b q k o v Lk B' n V' ∧ ∀ m, KeepsFrom m V V' ∧ KQ ([q] ++ X) V V' := by
  obtain ⟨T, h1, _⟩ := (d.tri k hk).tree
  obtain ⟨vr, a0, b0, c0⟩ := d.row k hk
  have kz : ∀ {b : Nat} {c : Array Value} {s : TypeId}, V.heap[b]? = some (.cells c s) → s ≠ tR → s ≠ tTr → V'.heap[b]? = some (.cells c s) := fun e n1 n2 => (f.block _ (Array.getElem?_eq_some_iff.1 e).1 (by simp only [List.mem_cons, List.not_mem_nil, or_false, not_or]; exact ⟨blk_ne e h1 n1, blk_ne e a0 n2⟩)).trans e
  have kt : KT [t k, r k] V V' := f.kt
  refine ⟨⟨⟨L', d', hl⟩, kz h.z0 (by decide) (by decide), kz h.z1 (by decide) (by decide), kz h.z2 (by decide) (by decide), kz h.z3 (by decide) (by decide), kz h.z4 (by decide) (by decide), kz h.zq (by decide) (by decide), row_kt h.row (fun q' hq' => ?_) kt, fun b' c' e => kz (h.ko b' c' e) (by decide) (by decide)⟩, fun m => ⟨⟨f.size, fun i ob _ e ho => ?_⟩, KQ.kt (kt.mono fun b hb => ?_)⟩⟩
  · rcases List.mem_cons.1 hq' with rfl | h2
    · exact noS_tri (d.tri k hk)
    · rw [List.mem_singleton.1 h2]; exact noS_ref a0 b0
  · refine (f.block _ (Array.getElem?_eq_some_iff.1 e).1 ?_).trans e
    intro hm
    rcases List.mem_cons.1 hm with rfl | h2
    · rw [h1] at e; cases e; cases ho
    · rw [List.mem_singleton.1 h2, a0] at e; cases e; cases ho
  · rcases List.mem_cons.1 hb with rfl | h2
    · exact (d.tri k hk).mem
    · rw [List.mem_singleton.1 h2]; exact d.inX k hk
end
theorem hid {p : Prop} (h : p) : Hid p := h
theorem noS_sl {y : World} {q : Nat} {o : Option Addr} {n c : Nat} {s : TypeId} (h : y.heap[q]? = some (.cells #[.slice o n c] s)) : NoS y q := by
  intro p hp s e
  subst hp
  simp only [World.cell?, h] at e
  match ho : p.off with
  | 0 => rw [ho] at e; simp at e
  | n + 1 => rw [ho] at e; simp at e
set_option maxRecDepth 100000 in
set_option maxHeartbeats 3200000 in
theorem over_any {w y : World} {X : List Nat} {W : Nat} {t r u : Nat → Nat} {L : Nat → LT} (h : Wd w y X W t r u L) (o : Stp) (k : Nat) (hk : k < 2) (bt : Nat) (hbt : y.heap[bt]? = some (.cells #[pA (t k)] tP)) (hp : o.oth.size ≤ maxLen) (hL : ∀ j, (L j).length ≤ 800000) (v0 : -9223372036854775808 ≤ o.v) (v1 : o.v ≤ 9223372036854775807) :
    Calls Tryz.prog 20 #[.pointer (some ⟨W, 0, none⟩), .int .i64 (k : Int), fvA bt, .agg o.cs] y fun e y' => e = .returned (.bool true) ∧ ∃ L', Wd w y' X W t r u L' ∧ (∀ j, (L' j).length ≤ (L j).length + 1) ∧ ∀ (b' : Nat) (c : Array Value), y.heap[b']? = some (.cells c tO) → y'.heap[b']? = some (.cells c tO) := by
  obtain ⟨kind, on, pr, v, leave, inn, oth⟩ := o
  dsimp only at *
  have WI := fun (x : World) (L2 : Nat → LT) (X2 : List Nat) (D : Wd w x X2 W t r u L2) (hl : (L2 k).length ≤ 900000) => within_any D ⟨kind, on, pr, v, leave, inn, oth⟩ k hk hp hl
  obtain ⟨pk, hpk, PK⟩ := pick_k v 5 w v0 v1 (by decide) (by decide)
  simp only [Stp.cs] at WI ⊢
  obtain ⟨z, hz⟩ : ∃ z, (((y.alloc (.cells #[.pointer (some ⟨W, 0, none⟩)] 24)).alloc (.cells #[.int .i64 (k : Int)] 3)).alloc (.cells #[.int .i64 kind, .int .i64 on, .string pr, .int .i64 v, .int .i64 leave, .int .i64 inn, .string oth] tO)).alloc (.cells #[.bool false] 4) = z := ⟨_, rfl⟩
  have hy4 : Below y.heap.size y z := hz ▸ below_four y _ _ _ _
  have hz0 : z.heap[y.heap.size]? = some (.cells #[.pointer (some ⟨W, 0, none⟩)] 24) := hz ▸ h4_0 y _ _ _ _
  have hz1 : z.heap[y.heap.size + 1]? = some (.cells #[.int .i64 (k : Int)] 3) := hz ▸ h4_1 y _ _ _ _
  have hz2 : z.heap[y.heap.size + 1 + 1]? = some (.cells #[.int .i64 kind, .int .i64 on, .string pr, .int .i64 v, .int .i64 leave, .int .i64 inn, .string oth] tO) := hz ▸ h4_2 y _ _ _ _
  have hz3 : z.heap[y.heap.size + 1 + 1 + 1]? = some (.cells #[.bool false] 4) := hz ▸ h4_3 y _ _ _ _
  have h0 := h.below hy4
  have HWL : Hid (W < y.heap.size) := (Array.getElem?_eq_some_iff.1 h.blk).1
  have HWB : Hid (w.heap.size ≤ y.heap.size) := h.bel.size
  have HZ : Hid ((((y.alloc (.cells #[.pointer (some ⟨W, 0, none⟩)] 24)).alloc (.cells #[.int .i64 (k : Int)] 3)).alloc (.cells #[.int .i64 kind, .int .i64 on, .string pr, .int .i64 v, .int .i64 leave, .int .i64 inn, .string oth] tO)).alloc (.cells #[.bool false] 4) = z) := hz
  clear hz
  refine (callsIn_wide (n := 8)).1 ?_
  refine callsIn_of_wp_marks Tryz.func20 rfl trivial ?_ rfl
  simp only [Tryz.ntmps20, List.size_toArray, List.length_cons, List.length_nil, Nat.reduceAdd, Nat.reduceSub, Array.replicate_succ, Array.replicate_zero, List.push_toArray, List.append_toArray, List.nil_append, List.cons_append]
  refine wpIn_wide.2 ?_
  go_wp2_with fail
  rw [HZ.out]
  have HSZ : Hid (z.heap.size = y.heap.size + 1 + 1 + 1 + 1) := by show _ = _; rw [← HZ.out]; simp
  have HBE : Hid (w.heap.size ≤ y.heap.size) := h.bel.size
  have HYE : Hid (bt < y.heap.size) := (Array.getElem?_eq_some_iff.1 hbt).1
  replace hbt := kept hy4 hbt
  have ko : Hid (∀ (b' : Nat) (c : Array Value), y.heap[b']? = some (.cells c tO) → z.heap[b']? = some (.cells c tO)) := fun b' c e => kept hy4 e
  obtain ⟨b, hb⟩ : ∃ b, y.heap.size = b := ⟨_, rfl⟩
  rw [hb] at hz0 hz1 hz2 hz3 HSZ HBE HWL HYE
  rw [hb]
  clear HZ h hb hy4 HWB
  have k0 : (0 : Int) ≤ (k : Int) := by omega
  have k1 : (k : Int) < 2 := by omega
  obtain ⟨y5, hy5⟩ : ∃ y5, z.alloc (.cells #[.slice none 0 0] 35) = y5 := ⟨_, rfl⟩
  have B5 : Below z.heap.size z y5 := hy5 ▸ Kb.below_one z _
  have h4 : y5.heap[z.heap.size]? = some (.cells #[.slice none 0 0] 35) := hy5 ▸ Kb.h1_0 z _
  rw [HSZ.out] at h4
  have h5 := h0.below B5
  replace hz0 := kept B5 hz0
  replace hz1 := kept B5 hz1
  replace hz2 := kept B5 hz2
  replace hz3 := kept B5 hz3
  replace hbt := kept B5 hbt
  replace ko : Hid (∀ (b' : Nat) (c : Array Value), y.heap[b']? = some (.cells c tO) → y5.heap[b']? = some (.cells c tO)) := fun b' c e => kept B5 (ko.out b' c e)
  rw [hy5]
  clear hy5 B5 h0
  obtain ⟨w0, w1, -⟩ := Wd.cells h5 k hk
  have c0 := cell1 hz0
  have c1 := cell1 hz1
  have c4 := cell1 h4
  obtain ⟨vr, e1, e2, e3⟩ := h5.row k hk
  have cr := cell1 e1
  have HCP : Hid (Cp vr ∧ RowL y5 vr (L k)) := ⟨e2, e3⟩
  obtain ⟨o0, n0, cap0, hvr, -⟩ := e2
  have HVR : Hid (vr = .slice o0 n0 cap0) := hvr
  rw [hvr] at cr
  clear hvr e1 e3
  refine Qt.region_tail 10 1 (C := fun w' => ∃ n, w' = y5.drewN n) (by kernel_rfl) rfl (by kernel_rfl) (by kernel_rfl) (by kernel_rfl) ⟨1, rfl⟩ ?_
  dsimp only [List.take, List.drop]
  repeat (go_big_quiet_step (fail))
  refine wpQuiet_nil ?_
  intro _ hw'
  obtain ⟨nq, hw''⟩ := hw'
  subst hw''
  refine wpList_append_all rfl _ _ rfl rfl _ rfl (L k) (by have := row_below HCP.out.2 (below_drewN (Below.refl _ y5) nq); rw [HVR.out] at this; exact this) (by have := HCP.out.1; rw [HVR.out] at this; exact this) (by have := hL k; omega) ?_
  intro o1 n1 c1' y6 row6 hn1 B6'
  have B6 : Below y5.heap.size y5 y6 := (below_drewN (Below.refl _ y5) nq).trans (B6'.mono (Nat.le_refl _))
  have h6 := h5.below B6
  replace hz0 := kept B6 hz0
  replace hz1 := kept B6 hz1
  replace hz2 := kept B6 hz2
  replace hz3 := kept B6 hz3
  replace h4 := kept B6 h4
  replace hbt := kept B6 hbt
  replace ko : Hid (∀ (b' : Nat) (c : Array Value), y.heap[b']? = some (.cells c tO) → y6.heap[b']? = some (.cells c tO)) := fun b' c e => kept B6 (ko.out b' c e)
  have cw := cell1 h4
  have fw := Wi.froz h4 0
  have HN1 : Hid (n1 = (L k).length) := hn1
  have HROW : Hid (RowL y6 (.slice o1 n1 c1') (L k)) := row6
  clear row6 hn1 B6 B6' HCP HVR cr c0 c1 c4 w0 w1 h5
  go_wp2_with fail
  obtain ⟨y7, hy7⟩ : ∃ y7, y6.setCell ⟨b + 1 + 1 + 1 + 1, 0, none⟩ (.slice o1 n1 c1') = y7 := ⟨_, rfl⟩
  have h7 : Wd w y7 X W t r u L := hy7 ▸ Wd_set h6 h4 (by decide) (by decide) (by decide) (by decide) (noS_sl h4) (by have := HBE.out; omega) 0 _ (KQ.set h4 (by unfold tOk; decide) 0 _)
  have row7 : RowL y7 (.slice o1 n1 c1') (L k) := hy7 ▸ row_fr HROW.out (noS_sl h4) ((Fr.refl _ _).set (.inl (by simp)) _ _)
  replace hz0 := hy7 ▸ (setCell_ne (show b + 1 + 1 + 1 + 1 ≠ b by omega) 0 (.slice o1 n1 c1')).trans hz0
  replace hz1 := hy7 ▸ (setCell_ne (show b + 1 + 1 + 1 + 1 ≠ b + 1 by omega) 0 (.slice o1 n1 c1')).trans hz1
  replace hz2 := hy7 ▸ (setCell_ne (show b + 1 + 1 + 1 + 1 ≠ b + 1 + 1 by omega) 0 (.slice o1 n1 c1')).trans hz2
  replace hz3 := hy7 ▸ (setCell_ne (show b + 1 + 1 + 1 + 1 ≠ b + 1 + 1 + 1 by omega) 0 (.slice o1 n1 c1')).trans hz3
  replace hbt := hy7 ▸ (setCell_ne (show b + 1 + 1 + 1 + 1 ≠ bt by have := HYE.out; omega) 0 (.slice o1 n1 c1')).trans hbt
  replace ko : Hid (∀ (b' : Nat) (c : Array Value), y.heap[b']? = some (.cells c tO) → y7.heap[b']? = some (.cells c tO)) := fun b' c e => hy7 ▸ (setCell_ne (blk_ne h4 (ko.out b' c e) (by decide)) 0 (.slice o1 n1 c1')).trans (ko.out b' c e)
  have hq5 : b + 1 + 1 + 1 + 1 < y6.heap.size := (Array.getElem?_eq_some_iff.1 h4).1
  replace h4 : y7.heap[b + 1 + 1 + 1 + 1]? = some (.cells #[.slice o1 n1 c1'] 35) := hy7 ▸ setCell_heap h4 0 _
  have hs7 : y7.heap.size = y6.heap.size := hy7 ▸ setCell_size _ _ _ _
  rw [hy7, ← hs7]
  rw [← hs7] at hq5
  clear hy7 hs7 HROW h6 cw fw
  obtain ⟨y8, hy8⟩ : ∃ y8, y7.alloc (.cells #[.int .i64 0] 3) = y8 := ⟨_, rfl⟩
  have B8 : Below y7.heap.size y7 y8 := hy8 ▸ Kb.below_one y7 _
  have hq8 : y8.heap[y7.heap.size]? = some (.cells #[.int .i64 0] 3) := hy8 ▸ Kb.h1_0 y7 _
  rw [hy8]
  obtain ⟨q, HQ⟩ : ∃ q, Hid (y7.heap.size = q) := ⟨_, rfl⟩
  rw [HQ.out] at hq5 hq8
  rw [HQ.out]
  have h8 : Wd w y8 ([q] ++ X) W t r u L := Wd_more h7 B8 (fun x hx => by
    rw [List.mem_singleton.1 hx]
    exact ⟨by rw [HQ.out]; exact Nat.le_refl _, (Array.getElem?_eq_some_iff.1 hq8).1⟩)
  have HX : Hid ((∀ k, k < 2 → t k ∈ X) ∧ ∀ k, k < 2 → r k ∈ X) := ⟨fun j hj => (h7.tri j hj).mem, h7.inX⟩
  have HW8 : Hid (w.heap.size ≤ y8.heap.size) := h8.bel.size
  have HWQ : Hid (w.heap.size ≤ q) := by show _ ≤ _; have := HBE.out; omega
  have HB5 : Hid (b + 1 + 1 + 1 + 1 < q) := hq5
  have J0 : Jv y w X W t r u b q k ⟨kind, on, pr, v, leave, inn, oth⟩ (.slice o1 n1 c1') (L k) (fun j => (L j).length + if pk < 0 then 1 else 0) 0 y8 := ⟨⟨L, h8, fun j => by simp⟩, kept B8 hz0, kept B8 hz1, kept B8 hz2, kept B8 hz3, kept B8 h4, hq8, row_below row7 B8, fun b' c e => kept B8 (ko.out b' c e)⟩
  have hb8 := kept B8 hbt
  have hT8 := h8.tri k hk
  clear ko hy8 B8 hz0 hz1 hz2 hz3 h4 hq8 row7 h7 h8 hbt
  refine (wpIn_wide (n := 8)).1 ?_
  refine range2 (by omega) (gf := 12) (lb := #[.pointer (some ⟨bt, 0, none⟩)]) rfl (enters_of Tryz.func12 (by kernel_rfl) rfl)
    (goes_all (X := [q] ++ X) (b := t k) (bt := bt) (L := L k) _ y8 hT8 hb8) (fun h k => h.trans k) (fun W l o o' _ h hc _ => KQ.put h hc o') (fun W => KQ.refl _ W) (Below.refl _ _) 11 12
    (fun pre V => Jv y w X W t r u b q k ⟨kind, on, pr, v, leave, inn, oth⟩ (.slice o1 n1 c1') (L k) (fun j => (L j).length + if pk < pre.length then 1 else 0) (pre.length : Int) V) (fun c _ V => c = .ret ∧ Jr y w X W t r u b q (fun j => (L j).length + 1) V)
    (fun s A B row hs hg hr => hs.own hg (fun r e => ⟨by have := (hr r e).1; have := HW8.out; omega, (hr r e).2⟩)) (fun c s A B row hs hg hr => ⟨hs.1, hs.2.own hg (fun r e => ⟨by have := (hr r e).1; have := HW8.out; omega, (hr r e).2⟩)⟩) J0 ?assign ?body ?done ?stop
  case assign =>
    intro l x V K hK
    gi_wp2
    exact hK
  case body =>
    rintro l pre x V hl J hpx
    simp only [List.setIfInBounds_toArray, List.set_cons_succ, List.set_cons_zero]
    obtain ⟨hlen, hx⟩ := at_pre hpx
    have HJ : Hid (Jv y w X W t r u b q k ⟨kind, on, pr, v, leave, inn, oth⟩ (.slice o1 n1 c1') (L k) (fun j => (L j).length + if pk < pre.length then 1 else 0) (pre.length : Int) V) := J
    have c0 := cell1 J.z0
    have c1 := cell1 J.z1
    have cq := cell1 J.zq
    have c4 := cell1 J.z4
    have z2 := J.z2
    simp only [Stp.cs] at z2
    have c24 : V.cell? ⟨b + 1 + 1, 4, none⟩ = some (.int .i64 leave) := by simp [World.cell?, z2]
    have c23 : V.cell? ⟨b + 1 + 1, 3, none⟩ = some (.int .i64 v) := by simp [World.cell?, z2]
    have fq := Wi.froz J.zq 0
    have c3 := cell1 J.z3
    have f3 := Wi.froz J.z3 0
    obtain ⟨o9, cap9, e9, -, hrow⟩ := J.row
    obtain ⟨ra, e8, r0, r1⟩ := hrow pre.length hlen
    obtain ⟨rfl, rfl, rfl⟩ : o1 = o9 ∧ n1 = (L k).length ∧ c1' = cap9 := by injection e9 with a b c; exact ⟨a, b, c⟩
    subst e8
    rw [hx] at r0 r1
    obtain ⟨xp, xv⟩ := x
    simp only at r0 r1
    obtain ⟨P, HP⟩ : ∃ P, Hid (pre.length = P) := ⟨_, rfl⟩
    obtain ⟨N, HN⟩ : ∃ N, Hid ((L k).length = N) := ⟨_, rfl⟩
    rw [HP.out] at r0 r1 cq hlen HJ
    rw [HN.out] at c4 hlen
    rw [HN.out] at HJ
    have r2 := r1
    rw [add_field _ _ _ (by decide)] at r2
    have hL9 : N ≤ 900000 := by rw [← HN.out]; have := hL k; omega
    have p0 : (P : Int) < (N : Int) := by omega
    have p1 : (0 : Int) ≤ (P : Int) := by omega
    have p2 : decide (N ≤ P) = false := by simp; omega
    have p3 : decide ((N : Int) ≤ (P : Int)) = false := by simp; omega
    have p4 : ¬ (N : Int) ≤ (P : Int) := by omega
    have p5 : (P : Int) + 1 ≤ 9223372036854775807 := by omega
    have FIN : Hid (∀ V2, Jv y w X W t r u b q k ⟨kind, on, pr, v, leave, inn, oth⟩ (.slice (some ra) N c1') (L k) (fun j => (L j).length + if pk < P + 1 then 1 else 0) (P : Int) V2 → KeepsFrom y8.heap.size V V2 → KQ ([q] ++ X) V V2 →
        (KeepsFrom y8.heap.size V (V2.setCell ⟨q, 0, none⟩ (.int .i64 ((P : Int) + 1))) ∧ KQ ([q] ++ X) V (V2.setCell ⟨q, 0, none⟩ (.int .i64 ((P : Int) + 1))) ∧ Jv y w X W t r u b q k ⟨kind, on, pr, v, leave, inn, oth⟩ (.slice (some ra) (L k).length c1') (L k) (fun j => (L j).length + if pk < (pre ++ [(xp, xv)]).length then 1 else 0) ((pre ++ [(xp, xv)]).length : Int) (V2.setCell ⟨q, 0, none⟩ (.int .i64 ((P : Int) + 1)))) ∧
        KeepsFrom y8.heap.size V ((V2.setCell ⟨q, 0, none⟩ (.int .i64 ((P : Int) + 1))).setCell ⟨b + 1 + 1 + 1, 0, none⟩ (.bool true)) ∧ Code.ret = Code.ret ∧ Jr y w X W t r u b q (fun j => (L j).length + 1) ((V2.setCell ⟨q, 0, none⟩ (.int .i64 ((P : Int) + 1))).setCell ⟨b + 1 + 1 + 1, 0, none⟩ (.bool true))) := fun V2 J2 k1 k2 => by
      have J3 := J2.inc HB5.out HWQ.out ((P : Int) + 1)
      have k3 := k1.trans (kf_set J2.zq 0 (.int .i64 ((P : Int) + 1)))
      have hl1 : (pre ++ [(xp, xv)]).length = P + 1 := by simp [HP.out]
      refine ⟨⟨k3, k2.trans (KQ.setX (by simp) _ _), ?_⟩, k3.trans (kf_set J3.z3 0 (.bool true)), rfl, (J3.up (fun j => ?_)).ret HBE.out⟩
      · rw [hl1, HN.out]
        exact J3
      · split <;> omega
    clear hpx J z2 hrow e9 hlen hL9 hx J0 hT8 hb8
    try clear hlen
    gi_wp2
    refine Qv.region_round (F := Fence.wide) rfl (by kernel_rfl) (by kernel_rfl) (by kernel_rfl) ?_
    repeat (gi_big_quiet_step (fail))
    refine BigFrame.wpQuietIn_want (fun _ _ _ _ => trivial) rfl (fun K hK => ?_)
    gi_big_quiet_op
    apply Exists.intro
    refine ⟨fun _ => ?_, hK _ ?_⟩
    · gi_at_call 14
      exact CallsIn.quiet_of_same (callsIn_wide.2 (PK _))
    clear hK K
    repeat (gi_big_quiet_step (fail))
    refine wpQuietIn_nil ?_
    intro _ hw'
    obtain ⟨nq2, hw''⟩ := hw'
    subst hw''
    obtain ⟨V1, hV1⟩ : ∃ V1, V.drewN nq2 = V1 := ⟨_, rfl⟩
    have J1 := HJ.out.drew nq2
    have K1 : Hid (KeepsFrom y8.heap.size V V1 ∧ KQ ([q] ++ X) V V1) := hV1 ▸ ⟨⟨Nat.le_refl _, fun _ _ _ e _ => e⟩, ⟨Nat.le_refl _, fun _ _ _ _ _ _ e => e⟩⟩
    rw [hV1] at J1
    rw [hV1]
    clear hV1 c0 c1 cq c4 c24 c23 fq c3 f3 r0 r1 r2 HJ p0 p1 p2 p3 p4
    have p1 : (0 : Int) ≤ (P : Int) := by omega
    by_cases hpk2 : P = pk
    · subst hpk2
      rw [show ((P : Int) == (P : Int)) = true by simp]
      obtain ⟨L2, D2, hl2⟩ := J1.wd
      have HM : Hid (∀ j, (L2 j).length ≤ (L j).length) := fun j => by have := hl2 j; simpa using this
      have HJ1 : Hid (Jv y w X W t r u b q k ⟨kind, on, pr, v, leave, inn, oth⟩ (.slice (some ra) N c1') (L k) (fun j => (L j).length + if P < P then 1 else 0) (P : Int) V1) := J1
      have HD2 : Hid (Wd w V1 ([q] ++ X) W t r u L2) := D2
      have c0 := cell1 J1.z0
      have c1 := cell1 J1.z1
      have z2 := J1.z2
      simp only [Stp.cs] at z2
      have c20 : V1.cell? ⟨b + 1 + 1, 0, none⟩ = some (.int .i64 kind) := by simp [World.cell?, z2]
      have c21 : V1.cell? ⟨b + 1 + 1, 1, none⟩ = some (.int .i64 on) := by simp [World.cell?, z2]
      have c22 : V1.cell? ⟨b + 1 + 1, 2, none⟩ = some (.string pr) := by simp [World.cell?, z2]
      have c23 : V1.cell? ⟨b + 1 + 1, 3, none⟩ = some (.int .i64 v) := by simp [World.cell?, z2]
      have c24 : V1.cell? ⟨b + 1 + 1, 4, none⟩ = some (.int .i64 leave) := by simp [World.cell?, z2]
      have c25 : V1.cell? ⟨b + 1 + 1, 5, none⟩ = some (.int .i64 inn) := by simp [World.cell?, z2]
      have c26 : V1.cell? ⟨b + 1 + 1, 6, none⟩ = some (.string oth) := by simp [World.cell?, z2]
      clear J1 D2 hl2 hpk PK z2
      repeat (first | (refine ⟨trivial, ?_⟩; gi_at_call 36) | go_values | gi_guarded | gi_step | gi_upon | gi_in | gi_back)
      refine (CallsIn.inRound l (callsIn_wide.2 (WI V1 L2 _ HD2.out (by have := HM.out k; have := hL k; omega)))).mono ?_
      rintro e V2 ⟨rfl, L', d', hl', fr'⟩
      obtain ⟨J2, K2⟩ := HJ1.out.call hk HD2.out d' (B' := fun j => (L j).length + if P < P + 1 then 1 else 0) (fun j => by have := hl' j; have := HM.out j; rw [if_pos (by omega)]; omega) fr'
      have HFF := hid (FIN.out V2 J2 (K1.out.1.trans (K2 _).1) (K1.out.2.trans (K2 0).2))
      clear c20 c21 c22 c23 c24 c25 c26 c0 c1
      have cq := cell1 J2.zq
      have fq := Wi.froz J2.zq 0
      have c3 := cell1 J2.z3
      have f3 := Wi.froz J2.z3 0
      have z2 := J2.z2
      simp only [Stp.cs] at z2
      have c24 : V2.cell? ⟨b + 1 + 1, 4, none⟩ = some (.int .i64 leave) := by simp [World.cell?, z2]
      clear J2 K2 z2 d' hl' fr' WI
      by_cases hlv : (P : Int) + 1 = leave
      · subst hlv
        gi_wp2
        exact ⟨HFF.out.2.1, rfl, HFF.out.2.2.2⟩
      · have hlw : ((P : Int) + 1 == leave) = false := by simpa using hlv
        gi_wp2
        exact HFF.out.1
    · rw [show ((P : Int) == (pk : Int)) = false by simp; omega]
      have HFF := hid (FIN.out V1 (J1.up fun j => by split <;> split <;> omega) K1.out.1 K1.out.2)
      have cq := cell1 J1.zq
      have fq := Wi.froz J1.zq 0
      have c3 := cell1 J1.z3
      have f3 := Wi.froz J1.z3 0
      have z2 := J1.z2
      simp only [Stp.cs] at z2
      have c24 : V1.cell? ⟨b + 1 + 1, 4, none⟩ = some (.int .i64 leave) := by simp [World.cell?, z2]
      clear J1 z2 hpk2 hpk PK WI
      by_cases hlv : (P : Int) + 1 = leave
      · subst hlv
        gi_wp2
        exact ⟨HFF.out.2.1, rfl, HFF.out.2.2.2⟩
      · have hlw : ((P : Int) + 1 == leave) = false := by simpa using hlv
        gi_wp2
        exact HFF.out.1
  case stop =>
    rintro D c pre V hD hp ⟨rfl, ⟨L2, d, hl2⟩, h3, ko3⟩ hK
    clear J0 hT8 hb8
    have KO3 := hid ko3
    clear ko3
    gi_wp2
    refine ⟨by simp, .inl ⟨_, _, rfl, run_takeDeferred hK, ?_⟩⟩
    have lo : w.heap.size ≤ D := by have := HW8.out; omega
    have hW2 : Wd w (V.putObj D (.deferred none)) ([q] ++ X) W t r u L2 := Wd_kt (Y := []) d (fun q hq => by cases hq) (KT.put hK rfl _) (d.bel.trans (belowK_b (w := w) (Nat.le_refl _) _ D _ (.deferred none) lo hK rfl rfl))
    have cr := cell1 ((World.putObj_heap_other (o := .deferred none) (show b + 1 + 1 + 1 ≠ D by rintro rfl; rw [h3] at hK; cases hK)).trans h3)
    refine ⟨.bool true, ?_, rfl, L2, Wd_less hW2 HX.out.1 HX.out.2, hl2, fun b' c e => (World.putObj_heap_other (o := .deferred none) (show b' ≠ D by rintro rfl; have := KO3.out _ _ e; rw [hK] at this; cases this)).trans (KO3.out b' c e)⟩
    simp [results, Tryz.f20, go_sem, cr]
  case done =>
    rintro D V hD J hK
    obtain ⟨o9, cap9, e9, -, -⟩ := J.row
    obtain rfl : n1 = (L k).length := by injection e9
    clear e9
    have HJ : Hid (Jv y w X W t r u b q k ⟨kind, on, pr, v, leave, inn, oth⟩ (.slice o1 (L k).length c1') (L k) (fun j => (L j).length + if pk < (L k).length then 1 else 0) ((L k).length : Int) V) := J
    have HK : Hid (V.heap[D]? = some (.deferred (some []))) := hK
    have HD : Hid (w.heap.size ≤ D) := by show _ ≤ _; have := HW8.out; omega
    have cq := cell1 J.zq
    have c4 := cell1 J.z4
    have c3 := cell1 J.z3
    have f3 := Wi.froz J.z3 0
    obtain ⟨N, HN⟩ : ∃ N, Hid ((L k).length = N) := ⟨_, rfl⟩
    rw [HN.out] at c4 cq
    clear J hK J0 hT8 hb8 hD
    go_wp2_with fail
    have J3 := (HJ.out.up (B' := fun j => (L j).length + 1) (fun j => by split <;> omega)).ret HBE.out
    obtain ⟨⟨L2, d, hl2⟩, h3, ko3⟩ := J3
    have KO3 := hid ko3
    clear ko3
    have hK : (V.setCell ⟨b + 1 + 1 + 1, 0, none⟩ (.bool true)).heap[D]? = some (.deferred (some [])) := (setCell_ne (by rintro rfl; have e1 := HJ.out.z3; have e2 := HK.out; rw [e1] at e2; cases e2) _ _).trans HK.out
    generalize V.setCell ⟨b + 1 + 1 + 1, 0, none⟩ (.bool true) = V0 at *
    refine ⟨by simp, .inl ⟨_, _, rfl, run_takeDeferred hK, ?_⟩⟩
    have hW2 : Wd w (V0.putObj D (.deferred none)) ([q] ++ X) W t r u L2 := Wd_kt (Y := []) d (fun q hq => by cases hq) (KT.put hK rfl _) (d.bel.trans (belowK_b (w := w) (Nat.le_refl _) _ D _ (.deferred none) HD.out hK rfl rfl))
    have cr := cell1 ((World.putObj_heap_other (o := .deferred none) (show b + 1 + 1 + 1 ≠ D by rintro rfl; rw [h3] at hK; cases hK)).trans h3)
    refine ⟨.bool true, ?_, rfl, L2, Wd_less hW2 HX.out.1 HX.out.2, hl2, fun b' c e => (World.putObj_heap_other (o := .deferred none) (show b' ≠ D by rintro rfl; have := KO3.out _ _ e; rw [hK] at this; cases this)).trans (KO3.out b' c e)⟩
    simp [results, Tryz.f20, go_sem, cr]
end Go.Proofs.YtecboaocoobjgaaGreatDoor.Wo
