/- RouteTries: gone over within itself. -/
import Derived.Test.YtecboaocoobjgaaGreatDoorWk
import Derived.Test.YtecboaocoobjgaaGreatDoorQt
namespace Go.Proofs.YtecboaocoobjgaaGreatDoor.Wn
set_option linter.unusedVariables false
set_option linter.unusedSimpArgs false
open Go.RowKit Go.Shelf Lib0 Kb Rp Rw Rs Li Mj Tj Kq Sr Ra Rj Da Db Dc Dd De Wd Ws Wi Wk
attribute [local go_sem] Oper.semAt_some
/-- between the rounds: the count, and all else stays -/
def I3 (w y6 : World) (q : Nat) (pre : LT) (V : World) : Prop := V.heap[q]? = some (.cells #[.int .i64 (pre.length : Int)] 3) ∧ KT [q] y6 V ∧ Below w.heap.size w V
theorem I3_own {w y6 : World} {q : Nat} (hw : w.heap.size ≤ y6.heap.size) : OwnFrom y6.heap.size (fun pre V => I3 w y6 q pre V) := fun s A B row hs hg hr =>
  let ⟨a1, a4, a5⟩ := hs
  ⟨cells_grown hg (fun r e => (hr r e).2) a1, a4.trans (KT.grown hg fun r e => (hr r e).2), a5.grown hg a5.size (fun k e => by have := (hr k e).1; omega)⟩
theorem kf_set {n : Nat} {A : World} {g : Nat} {c : Array Value} {t : TypeId} (h : A.heap[g]? = some (.cells c t)) (o : Nat) (v : Value) : KeepsFrom n A (A.setCell ⟨g, o, none⟩ v) :=
  ⟨by rw [setCell_size]; exact Nat.le_refl _, fun k ob _ e ho => (setCell_ne (fun e2 : g = k => by subst e2; rw [h] at e; cases e; cases ho) o v).trans e⟩
theorem noS_int {y : World} {q : Nat} {b : Int} (h : y.heap[q]? = some (.cells #[.int .i64 b] 3)) : NoS y q := by
  intro p hp s e
  subst hp
  simp only [World.cell?, h] at e
  match ho : p.off with
  | 0 => rw [ho] at e; simp at e
  | n + 1 => rw [ho] at e; simp at e
theorem oth_int {y : World} {q : Nat} {b : Int} (h : y.heap[q]? = some (.cells #[.int .i64 b] 3)) : Oth y q := ⟨noS_int h, _, _, h, by decide, by decide, by decide, by decide⟩
theorem add_field (a : Addr) (m j : Nat) (hj : 0 < j) : a.add (m + j) = ⟨(a.add m).block, (a.add m).off + j, Option.none⟩ := by
  unfold Addr.add
  rw [if_neg (by omega)]
  split
  · next h => subst h; simp
  · simp [Nat.add_assoc]
theorem at_pre {L pre : LT} {x : K × Int} (h : pre ++ [x] <+: L) : ∃ hl : pre.length < L.length, L[pre.length] = x := by
  have hlen : pre.length < L.length := by have := h.length_le; simp at this; omega
  refine ⟨hlen, ?_⟩
  obtain ⟨t, ht⟩ := h
  have : L[pre.length]? = some x := by rw [← ht]; simp
  rw [List.getElem?_eq_getElem hlen] at this
  exact Option.some.inj this
set_option maxRecDepth 100000 in
set_option maxHeartbeats 3200000 in
theorem within3 {w y : World} {X : List Nat} {W : Nat} {t r u : Nat → Nat} {L : Nat → LT} (h : Wd w y X W t r u L) (o : Stp) (k : Nat) (hk : k < 2) (hin : o.inn = 3) (hp : o.oth.size ≤ maxLen) (hL : (L k).length ≤ 900000) :
    Calls Tryz.prog 36 #[.pointer (some ⟨W, 0, none⟩), .int .i64 (k : Int), .agg o.cs] y fun e y' => e = .returned (.bool true) ∧ Wd w y' X W t r u L ∧ Fr [t k, r k] y y' := by
  obtain ⟨kind, on, pr, v, leave, inn, oth⟩ := o
  dsimp only at *
  subst hin
  simp only [Stp.cs]
  obtain ⟨z, hz⟩ : ∃ z, (((y.alloc (.cells #[.pointer (some ⟨W, 0, none⟩)] 24)).alloc (.cells #[.int .i64 (k : Int)] 3)).alloc (.cells #[.int .i64 kind, .int .i64 on, .string pr, .int .i64 v, .int .i64 leave, .int .i64 3, .string oth] tO)).alloc (.cells #[.bool false] 4) = z := ⟨_, rfl⟩
  have hy4 : Below y.heap.size y z := hz ▸ below_four y _ _ _ _
  have hz0 : z.heap[y.heap.size]? = some (.cells #[.pointer (some ⟨W, 0, none⟩)] 24) := hz ▸ h4_0 y _ _ _ _
  have hz1 : z.heap[y.heap.size + 1]? = some (.cells #[.int .i64 (k : Int)] 3) := hz ▸ h4_1 y _ _ _ _
  have hz2 : z.heap[y.heap.size + 1 + 1]? = some (.cells #[.int .i64 kind, .int .i64 on, .string pr, .int .i64 v, .int .i64 leave, .int .i64 3, .string oth] tO) := hz ▸ h4_2 y _ _ _ _
  have hz3 : z.heap[y.heap.size + 1 + 1 + 1]? = some (.cells #[.bool false] 4) := hz ▸ h4_3 y _ _ _ _
  have h0 := h.below hy4
  have HWL : Hid (W < y.heap.size) := (Array.getElem?_eq_some_iff.1 h.blk).1
  have HWB : Hid (w.heap.size ≤ y.heap.size) := h.bel.size
  have HZ : Hid ((((y.alloc (.cells #[.pointer (some ⟨W, 0, none⟩)] 24)).alloc (.cells #[.int .i64 (k : Int)] 3)).alloc (.cells #[.int .i64 kind, .int .i64 on, .string pr, .int .i64 v, .int .i64 leave, .int .i64 3, .string oth] tO)).alloc (.cells #[.bool false] 4) = z) := hz
  clear hz
  refine (callsIn_wide (n := 8)).1 ?_
  refine callsIn_of_wp_marks Tryz.func36 rfl trivial ?_ rfl
  simp only [Tryz.ntmps36, List.size_toArray, List.length_cons, List.length_nil, Nat.reduceAdd, Nat.reduceSub, Array.replicate_succ, Array.replicate_zero, List.push_toArray, List.append_toArray, List.nil_append, List.cons_append]
  refine wpIn_wide.2 ?_
  go_wp2_with fail
  rw [HZ.out]
  have HSZ : Hid (z.heap.size = y.heap.size + 1 + 1 + 1 + 1) := by show _ = _; rw [← HZ.out]; simp
  have HBE : Hid (w.heap.size ≤ y.heap.size) := h.bel.size
  have HYW : Hid (Below w.heap.size w y) := h.bel
  have HYZ : Hid (Below y.heap.size y z) := hy4
  have HYS : Hid (∃ b, y.heap.size = b) := ⟨_, rfl⟩
  obtain ⟨b, hb⟩ : ∃ b, y.heap.size = b := ⟨_, rfl⟩
  have HYE : Hid (y.heap.size = b) := hb
  rw [hb] at hz0 hz1 hz2 hz3 HSZ HBE HWL
  rw [hb]
  clear HZ h hb hy4 HWB
  have k0 : (0 : Int) ≤ (k : Int) := by omega
  have k1 : (k : Int) < 2 := by omega
  obtain ⟨y5, hy5⟩ : ∃ y5, z.alloc (.cells #[.int .i64 0] 3) = y5 := ⟨_, rfl⟩
  have B5 : Below z.heap.size z y5 := hy5 ▸ Kb.below_one z _
  have hq5 : y5.heap[z.heap.size]? = some (.cells #[.int .i64 0] 3) := hy5 ▸ Kb.h1_0 z _
  rw [HSZ.out] at hq5
  have h5 : Wd w y5 ([b + 1 + 1 + 1 + 1] ++ X) W t r u L := Wd_more h0 B5 (fun q hq => by
    rw [List.mem_singleton.1 hq]
    exact ⟨by rw [HSZ.out]; exact Nat.le_refl _, (Array.getElem?_eq_some_iff.1 hq5).1⟩)
  have HX : Hid ((∀ k, k < 2 → t k ∈ X) ∧ ∀ k, k < 2 → r k ∈ X) := ⟨fun j hj => (h0.tri j hj).mem, h0.inX⟩
  replace hz0 := kept B5 hz0
  replace hz1 := kept B5 hz1
  replace hz2 := kept B5 hz2
  replace hz3 := kept B5 hz3
  rw [hy5]
  have HY5 : Hid (Below y.heap.size y y5) := Kb.keepB HYZ.out B5
  clear hy5 B5 h0
  obtain ⟨w0, w1, w2⟩ := Wd.cells h5 k hk
  have c0 := cell1 hz0
  have c1 := cell1 hz1
  go_quiet (fail)
  obtain ⟨y6, hy6⟩ : ∃ y6, y5.drewN nq = y6 := ⟨_, rfl⟩
  have B6 : Below y5.heap.size y5 y6 := hy6 ▸ below_drewN (Below.refl _ _) _
  have h6 := h5.below B6
  replace hz0 := kept B6 hz0
  replace hz1 := kept B6 hz1
  replace hz2 := kept B6 hz2
  replace hz3 := kept B6 hz3
  replace hq5 := kept B6 hq5
  have HYB : Hid (Below y.heap.size y y6) := Kb.keepB HY5.out B6
  rw [hy6]
  obtain ⟨q, HQ⟩ : ∃ q, Hid (b + 1 + 1 + 1 + 1 = q) := ⟨_, rfl⟩
  rw [HQ.out] at hq5 h6
  rw [HQ.out]
  have hql : q < y6.heap.size := (Array.getElem?_eq_some_iff.1 hq5).1
  have hyq : Hid (y.heap.size ≤ q) := by show _ ≤ _; have := HYE.out; have := HQ.out; omega
  have hwq : w.heap.size ≤ q := by have := HBE.out; have := HQ.out; omega
  have hw6 : w.heap.size ≤ y6.heap.size := h6.bel.size
  clear hy6 B6 h5 w0 w1 w2 c0 c1
  go_wp2_with fail
  refine (wpIn_wide (n := 8)).1 ?_
  refine range2 (by omega) (gf := 12) (lb := #[.pointer (some ⟨u k, 0, none⟩)]) rfl (enters_of Tryz.func12 (by kernel_rfl) rfl)
    (goes_all (X := [q] ++ X) (b := t k) (bt := u k) (L := L k) _ y6 (h6.tri k hk) (h6.fnb k hk)) (fun h k => h.trans k) (fun W l o o' _ h hc _ => KQ.put h hc o') (fun W => KQ.refl _ W) (Below.refl _ _) 8 9
    (fun pre V => I3 y y6 q pre V) (fun _ _ _ => False)
    (I3_own HYB.out.size) (fun c s A B row hs hg hr => hs) ⟨hq5, KT.refl _ _, HYB.out⟩ ?assign ?body ?done ?stop
  case assign =>
    intro l x V K hK
    gi_wp2
    exact hK
  case body =>
    rintro l pre x V hl ⟨a1, a2, a3⟩ hpx
    simp only [List.setIfInBounds_toArray, List.set_cons_succ, List.set_cons_zero]
    obtain ⟨hlen, hx⟩ := at_pre hpx
    have hV : Wd w V ([q] ++ X) W t r u L := Wd_kt h6 (Y := [q]) (fun q' hq' => by rw [List.mem_singleton.1 hq']; exact ⟨by simp, oth_int hq5⟩) a2 (HYW.out.trans (a3.mono HYW.out.size))
    obtain ⟨w0, w1, _⟩ := Wd.cells hV k hk
    have c0 := cell1 (a2.cells _ _ _ _ (by have := HQ.out; simp; omega) hz0)
    have c1 := cell1 (a2.cells _ _ _ _ (by have := HQ.out; simp; omega) hz1)
    obtain ⟨v0, e1, e2, o0, cap0, rfl, _, hrow⟩ := hV.row k hk
    obtain ⟨ra, rfl, r0, r1⟩ := hrow pre.length hlen
    rw [hx] at r0 r1
    have cr := cell1 e1
    have cq := cell1 a1
    have fq := Wi.froz a1 0
    obtain ⟨xp, xv⟩ := x
    simp only at r0 r1
    obtain ⟨P, HP⟩ : ∃ P, Hid (pre.length = P) := ⟨_, rfl⟩
    obtain ⟨N, HN⟩ : ∃ N, Hid ((L k).length = N) := ⟨_, rfl⟩
    rw [HP.out] at r0 r1 cq hlen
    rw [HN.out] at cr hlen
    have r2 := r1
    rw [add_field _ _ _ (by decide)] at r2
    have hL9 : N ≤ 900000 := by rw [← HN.out]; exact hL
    have p0 : (P : Int) < (N : Int) := by omega
    have p1 : (0 : Int) ≤ (P : Int) := by omega
    have p2 : decide (N ≤ P) = false := by simp; omega
    have p3 : decide ((N : Int) ≤ (P : Int)) = false := by simp; omega
    have p4 : ¬ (N : Int) ≤ (P : Int) := by omega
    have p5 : (P : Int) + 1 ≤ 9223372036854775807 := by omega
    have HS : Hid (∀ m, KeepsFrom y6.heap.size V ((V.drewN m).setCell ⟨q, 0, none⟩ (.int .i64 ((P : Int) + 1))) ∧ KQ ([q] ++ X) V ((V.drewN m).setCell ⟨q, 0, none⟩ (.int .i64 ((P : Int) + 1))) ∧ I3 y y6 q (pre ++ [(xp, xv)]) ((V.drewN m).setCell ⟨q, 0, none⟩ (.int .i64 ((P : Int) + 1)))) := fun m => by
      have b1 : (V.drewN m).heap[q]? = some (.cells #[.int .i64 (pre.length : Int)] 3) := a1
      have kd : KeepsFrom y6.heap.size V (V.drewN m) := ⟨Nat.le_refl _, fun _ _ _ e _ => e⟩
      have qd : KQ ([q] ++ X) V (V.drewN m) := ⟨Nat.le_refl _, fun _ _ _ _ _ _ e => e⟩
      have td : KT [q] y6 (V.drewN m) := ⟨a2.size, a2.cells⟩
      refine ⟨kd.trans (kf_set b1 _ _), qd.trans (KQ.setX (by simp) _ _), ?_, td.trans (KT.set (by simp) _ _), (below_drewN a3 m).setCell (p := ⟨q, 0, none⟩) hyq.out _⟩
      rw [setCell_heap b1 0, List.length_append, HP.out]
      simp
    clear hpx a1 a2 a3 hV hrow e1 e2 hlen hL9 hx
    gi_wp2
    refine Qv.region_round (F := Fence.wide) rfl (by kernel_rfl) (by kernel_rfl) (by kernel_rfl) ?_
    repeat (gi_big_quiet_step (fail))
    refine wpQuietIn_nil ?_
    intro _ hw'
    obtain ⟨nq2, hw''⟩ := hw'
    subst hw''
    gi_wp2
    exact HS.out _
  case stop =>
    rintro D c pre V hD hp h hK
    exact h.elim
  case done =>
    rintro D V hD ⟨a1, a2, a3⟩ hK
    have hV : Wd w V ([q] ++ X) W t r u L := Wd_kt h6 (Y := [q]) (fun q' hq' => by rw [List.mem_singleton.1 hq']; exact ⟨by simp, oth_int hq5⟩) a2 (HYW.out.trans (a3.mono HYW.out.size))
    obtain ⟨w0, w1, _⟩ := Wd.cells hV k hk
    have c0 := cell1 (a2.cells _ _ _ _ (by have := HQ.out; simp; omega) hz0)
    have c1 := cell1 (a2.cells _ _ _ _ (by have := HQ.out; simp; omega) hz1)
    have h3 := a2.cells _ _ _ _ (by have := HQ.out; simp; omega) hz3
    obtain ⟨v0, e1, e2, o0, cap0, rfl, _, hrow⟩ := hV.row k hk
    have cr := cell1 e1
    have cq := cell1 a1
    have c3 := cell1 h3
    have f3 := Wi.froz h3 0
    have HV : Hid (Wd w V ([q] ++ X) W t r u L) := hV
    have HVY : Hid (Below y.heap.size y V) := a3
    have HK : Hid (V.heap[D]? = some (.deferred (some []))) := hK
    have H3 : Hid (V.heap[b + 1 + 1 + 1]? = some (.cells #[.bool false] 4)) := h3
    obtain ⟨N, HN⟩ : ∃ N, Hid ((L k).length = N) := ⟨_, rfl⟩
    rw [HN.out] at cr cq
    have HD : Hid (b + 1 + 1 + 1 < D ∧ w.heap.size ≤ D ∧ w.heap.size ≤ b) := ⟨by have := HQ.out; omega, by omega, HBE.out⟩
    clear a1 a2 a3 hV hrow e1 e2 hK h3 hD
    go_wp2_with fail
    refine Qt.region_tail 12 0 (C := fun w' => ∃ n, w' = V.drewN n) (by kernel_rfl) rfl (by kernel_rfl) (by kernel_rfl) (by kernel_rfl) ⟨1, rfl⟩ ?_
    dsimp only [List.take, List.drop]
    repeat (go_big_quiet_step (fail))
    refine wpQuiet_nil ?_
    intro _ hw'
    obtain ⟨nq3, hw''⟩ := hw'
    subst hw''
    go_wp2_with fail
    have h3 : (V.drewN nq3).heap[b + 1 + 1 + 1]? = some (.cells #[.bool false] 4) := H3.out
    have hK : (V.drewN nq3).heap[D]? = some (.deferred (some [])) := HK.out
    have hW1 := Wd_bool (HV.out.below (below_drewN (Below.refl _ V) nq3)) h3 (by have := HD.out; omega) (.bool true)
    have u1 : ((V.drewN nq3).setCell ⟨b + 1 + 1 + 1, 0, none⟩ (.bool true)).heap[D]? = some (.deferred (some [])) := (setCell_ne (by have := HD.out; omega) _ _).trans hK
    have u3 := setCell_heap h3 0 (.bool true)
    have B0 : Below y.heap.size y ((V.drewN nq3).setCell ⟨b + 1 + 1 + 1, 0, none⟩ (.bool true)) := (below_drewN HVY.out nq3).setCell (p := ⟨b + 1 + 1 + 1, 0, none⟩) (by rw [HYE.out]; show b ≤ b + 1 + 1 + 1; omega) _
    generalize (V.drewN nq3).setCell ⟨b + 1 + 1 + 1, 0, none⟩ (.bool true) = V0 at *
    have HFF : Fr [t k, r k] y (V0.putObj D (.deferred none)) := Fr.of (B0.trans (belowK_b (w := y) (Nat.le_refl _) _ D _ (.deferred none) (by rw [HYE.out]; have := HD.out; omega) u1 rfl rfl))
    refine ⟨by simp, .inl ⟨_, _, rfl, run_takeDeferred u1, ?_⟩⟩
    have hW2 : Wd w (V0.putObj D (.deferred none)) ([q] ++ X) W t r u L := Wd_kt (Y := []) hW1 (fun q hq => by cases hq) (KT.put u1 rfl _) (hW1.bel.trans (belowK_b (w := w) (Nat.le_refl _) _ D _ (.deferred none) HD.out.2.1 u1 rfl rfl))
    have cr := cell1 ((World.putObj_heap_other (o := .deferred none) (show b + 1 + 1 + 1 ≠ D by have := HD.out; omega)).trans u3)
    refine ⟨.bool true, ?_, rfl, Wd_less hW2 HX.out.1 HX.out.2, HFF⟩
    simp [results, Tryz.f36, go_sem, cr]
theorem putL_len (L : LT) (p : K) (n : Int) : (putL L p n).length ≤ L.length + 1 := by
  unfold putL
  split
  · rw [ins_len]; exact Nat.le_refl _
  · omega
theorem dl_len (L : LT) (s : ByteArray) : (dl L s).length ≤ L.length + 1 := by
  unfold dl
  split
  · have := (del_sub L s.data.toList).length_le; omega
  · omega
/-- whatever is done in the midst -/
theorem within_any {w y : World} {X : List Nat} {W : Nat} {t r u : Nat → Nat} {L : Nat → LT} (h : Wd w y X W t r u L) (o : Stp) (k : Nat) (hk : k < 2) (hp : o.oth.size ≤ maxLen) (hL : (L k).length ≤ 900000) :
    Calls Tryz.prog 36 #[.pointer (some ⟨W, 0, none⟩), .int .i64 (k : Int), .agg o.cs] y fun e y' => e = .returned (.bool true) ∧ ∃ L', Wd w y' X W t r u L' ∧ (∀ j, (L' j).length ≤ (L j).length + 1) ∧ Fr [t k, r k] y y' := by
  by_cases h1 : o.inn = 1
  · refine (within1 h o k hk h1 hp hL).mono ?_
    rintro e y' ⟨rfl, a, b⟩
    refine ⟨rfl, _, a, fun j => ?_, b⟩
    by_cases e : j = k
    · subst e; simp only [if_true]; exact putL_len _ _ _
    · simp only [e, if_false]; omega
  by_cases h2 : o.inn = 2
  · refine (within2 h o k hk h2 hp hL).mono ?_
    rintro e y' ⟨rfl, a, b⟩
    refine ⟨rfl, _, a, fun j => ?_, b⟩
    by_cases e : j = k
    · subst e; simp only [if_true]; exact dl_len _ _
    · simp only [e, if_false]; omega
  by_cases h3 : o.inn = 3
  · refine (within3 h o k hk h3 hp hL).mono ?_
    rintro e y' ⟨rfl, a, b⟩
    exact ⟨rfl, _, a, fun j => by omega, b⟩
  · refine (within0 h o k hk ⟨h1, h2, h3⟩ hp hL).mono ?_
    rintro e y' ⟨rfl, a, b⟩
    exact ⟨rfl, _, a, fun j => by omega, b⟩
end Go.Proofs.YtecboaocoobjgaaGreatDoor.Wn
