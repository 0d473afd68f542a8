/- An advice, plain; copied. -/
import Derived.Test.YtmpcgmpobmnmmaaZe
namespace Go.Proofs.Ytmpcgmpobmnmmaa.Sa
set_option linter.unusedVariables false
set_option linter.unusedSimpArgs false
open Go.RowKit Go.Maps Lib0 Kb Xp Ic Ix If Ig Za Zb Zc Zd Ze
abbrev tA : TypeId := 54
structure Av where
  link : Int
  no : Int
  m1 : ByteArray
  L1 : List Fl
  m2 : ByteArray
  L2 : List Fl
def acs (r : Av) (v1 v2 : Value) : Array Value := #[.int .i64 r.link, .int .i64 r.no, .string r.m1, v1, .string r.m2, v2]
def av (r : Av) (v1 v2 : Value) : Value := .agg (acs r v1 v2)
def zA : Array Value := #[.int .i64 0, .int .i64 0, .string ⟨#[]⟩, .slice none 0 0, .string ⟨#[]⟩, .slice none 0 0]
def I64 (n : Int) : Prop := -9223372036854775808 ≤ n ∧ n ≤ 9223372036854775807
/-- its messages can be read -/
structure Rm (w : World) (r : Av) (v1 v2 : Value) : Prop where
  one : Ms w r.m1 v1 r.L1
  two : Ms w r.m2 v2 r.L2
theorem Rm.below {w x : World} {r : Av} {v1 v2 : Value} (h : Rm w r v1 v2) (k : Below w.heap.size w x) : Rm x r v1 v2 := ⟨h.one.below k, h.two.below k⟩
theorem infoA : (Try.prog.info? tA).map (·.size) = some 6 := by kernel_rfl
structure Cp (w y : World) (cs : Array Value) : Prop where
  box : y.heap[w.heap.size]? = some (.cells cs tA (0, 0))
  res : y.heap[w.heap.size + 1]? = some (.cells zA tA (0, 0))
  bel : Below w.heap.size w y
theorem Cp.next {w y x : World} {cs : Array Value} (h : Cp w y cs) (k : Below y.heap.size y x) : Cp w x cs := ⟨kept k h.box, kept k h.res, keepB h.bel k⟩
theorem Cp.set {w y : World} {cs : Array Value} (h : Cp w y cs) (o : Nat) (v : Value) {cs' : Array Value} (hc : cs.setIfInBounds o v = cs') : Cp w (y.setCell ⟨w.heap.size, o, none⟩ v) cs' :=
  ⟨by rw [setCell_heap h.box, hc], by rw [setCell_ne (p := ⟨w.heap.size, o, none⟩) (by show w.heap.size ≠ w.heap.size + 1; omega)]; exact h.res, h.bel.setCell (Nat.le_refl _) _⟩
theorem Cp.cell {w y : World} {cs : Array Value} (h : Cp w y cs) (o : Nat) {v : Value} (hv : cs[o]? = some v) : y.cell? ⟨w.heap.size, o, none⟩ = some v := by simp [World.cell?, h.box, hv]
theorem Cp.frz {w y : World} {cs : Array Value} (h : Cp w y cs) (o : Nat) : y.frozen? ⟨w.heap.size, o, none⟩ = false := by simp [World.frozen?, h.box]
/-- a copy of an advice: in memory of its own -/
def PostA (w : World) (r : Av) (e : Ending) (w' : World) : Prop := ∃ u1 u2, e = .returned (av r u1 u2) ∧ w'.ownsRow w.heap.size tF 3 u1 r.L1.length (fc r.L1) ∧ w'.ownsRow w.heap.size tF 3 u2 r.L2.length (fc r.L2) ∧ Below w.heap.size w w'
set_option maxRecDepth 100000 in
set_option maxHeartbeats 1600000 in
theorem copied_any (r : Av) (v1 v2 : Value) (w : World) (hm : Rm w r v1 v2) : Calls Try.prog 42 #[av r v1 v2] w (PostA w r) := by
  have HM : Hid (Rm w r v1 v2) := hm
  obtain ⟨o1, n1, cap1, rfl⟩ := hm.one.slice
  obtain ⟨o2, n2, cap2, rfl⟩ := hm.two.slice
  obtain ⟨lk, no, m1, L1, m2, L2⟩ := r
  have HC : Hid (Cp w ((w.alloc (.cells (acs ⟨lk, no, m1, L1, m2, L2⟩ (.slice o1 n1 cap1) (.slice o2 n2 cap2)) tA)).alloc (.cells zA tA)) (acs ⟨lk, no, m1, L1, m2, L2⟩ (.slice o1 n1 cap1) (.slice o2 n2 cap2))) := ⟨h2_0 _ _ _, h2_1 _ _ _, below_two _ _ _⟩
  unfold av
  simp only [acs, zA] at HC ⊢
  clear hm
  have d8 := HC.out.cell 2 (v := .string m1) rfl
  have d9 := HC.out.cell 3 (v := .slice o1 n1 cap1) rfl
  have HM1 : Hid (Ms _ m1 (.slice o1 n1 cap1) L1) := HM.out.one.below HC.out.bel
  go_enter Try.func42, Try.ntmps42
  go_wp2_with fail
  refine (copy_flat m1 (.slice o1 n1 cap1) L1 _ HM1.out).mono ?_
  rintro e z ⟨u1, rfl, hr, hnl, hb⟩
  have E8 : Hid (Cp w z #[.int .i64 lk, .int .i64 no, .string m1, .slice o1 n1 cap1, .string m2, .slice o2 n2 cap2]) := HC.out.next hb
  have HR1 : Hid (z.ownsRow w.heap.size tF 3 u1 L1.length (fc L1)) := own_low hr HC.out.bel.size
  obtain ⟨p1, q1, eu1, -⟩ := own_form hr
  obtain ⟨K1, HK1⟩ : ∃ K1, Hid (L1.length = K1) := ⟨_, rfl⟩
  rw [HK1.out] at eu1 HR1
  subst eu1
  clear hr hnl hb HC d8 d9 HM1
  have c8 := E8.out.cell 2 (v := .string m1) rfl
  have c9 := E8.out.cell 3 (v := .slice o1 n1 cap1) rfl
  have f8 := E8.out.frz 2
  have f9 := E8.out.frz 3
  obtain ⟨z2, hz2⟩ : ∃ z2, (z.setCell ⟨w.heap.size, 2, none⟩ (.string m1)).setCell ⟨w.heap.size, 3, none⟩ (.slice p1 K1 q1) = z2 := ⟨_, rfl⟩
  have D9 : Hid (Cp w z2 #[.int .i64 lk, .int .i64 no, .string m1, .slice p1 K1 q1, .string m2, .slice o2 n2 cap2]) := hz2 ▸ (E8.out.set 2 (.string m1) rfl).set 3 (.slice p1 K1 q1) rfl
  have d10 := D9.out.cell 4 (v := .string m2) rfl
  have d11 := D9.out.cell 5 (v := .slice o2 n2 cap2) rfl
  have HOUT : Hid (∀ v n xs, z.ownsRow w.heap.size tF 3 v n xs → z2.ownsRow w.heap.size tF 3 v n xs) := fun v n xs h => own_keep h fun g hg => by
    have hne : w.heap.size ≠ g := fun e => by
      obtain ⟨cy, hcy⟩ := own_ty h hg
      rw [← e, E8.out.box] at hcy
      injection hcy with hcy; injection hcy with _ hcy; exact absurd hcy (by decide)
    rw [← hz2, setCell_ne (p := ⟨w.heap.size, 3, none⟩) hne, setCell_ne (p := ⟨w.heap.size, 2, none⟩) hne]
  have HM4 : Hid (Ms z2 m2 (.slice o2 n2 cap2) L2) := HM.out.two.below D9.out.bel
  have HR3 : Hid (z2.ownsRow w.heap.size tF 3 (.slice p1 K1 q1) K1 (fc L1)) := HOUT.out _ _ _ HR1.out
  clear HR1 HOUT HM
  go_wp2_with fail
  refine (copy_flat m2 (.slice o2 n2 cap2) L2 _ HM4.out).mono ?_
  rintro e z3 ⟨u2, rfl, hr, hnl, hb⟩
  clear hz2 c8 c9 f8 f9 d10 d11
  have E10 : Hid (Cp w z3 #[.int .i64 lk, .int .i64 no, .string m1, .slice p1 K1 q1, .string m2, .slice o2 n2 cap2]) := D9.out.next hb
  have HR2 : Hid (z3.ownsRow w.heap.size tF 3 u2 L2.length (fc L2)) := own_low hr D9.out.bel.size
  have HR4 : Hid (z3.ownsRow w.heap.size tF 3 (.slice p1 K1 q1) K1 (fc L1)) := own_keep HR3.out fun g hg => by
    obtain ⟨cy, hcy⟩ := own_ty HR3.out hg
    rw [kept hb hcy, hcy]
  obtain ⟨p2, q2, eu2, -⟩ := own_form hr
  obtain ⟨K2, HK2⟩ : ∃ K2, Hid (L2.length = K2) := ⟨_, rfl⟩
  rw [HK2.out] at eu2 HR2
  subst eu2
  clear hr hnl hb D9 HM4 HR3 E8
  have c10 := E10.out.cell 4 (v := .string m2) rfl
  have c11 := E10.out.cell 5 (v := .slice o2 n2 cap2) rfl
  have f10 := E10.out.frz 4
  have f11 := E10.out.frz 5
  obtain ⟨z4, hz4⟩ : ∃ z4, (z3.setCell ⟨w.heap.size, 4, none⟩ (.string m2)).setCell ⟨w.heap.size, 5, none⟩ (.slice p2 K2 q2) = z4 := ⟨_, rfl⟩
  have D11 : Hid (Cp w z4 #[.int .i64 lk, .int .i64 no, .string m1, .slice p1 K1 q1, .string m2, .slice p2 K2 q2]) := hz4 ▸ (E10.out.set 4 (.string m2) rfl).set 5 (.slice p2 K2 q2) rfl
  have HOUT : Hid (∀ v n xs, z3.ownsRow w.heap.size tF 3 v n xs → z4.ownsRow w.heap.size tF 3 v n xs) := fun v n xs h => own_keep h fun g hg => by
    have hne : w.heap.size ≠ g := fun e => by
      obtain ⟨cy, hcy⟩ := own_ty h hg
      rw [← e, E10.out.box] at hcy
      injection hcy with hcy; injection hcy with _ hcy; exact absurd hcy (by decide)
    rw [← hz4, setCell_ne (p := ⟨w.heap.size, 5, none⟩) hne, setCell_ne (p := ⟨w.heap.size, 4, none⟩) hne]
  have HX : Hid (z4.heap[w.heap.size]? = some (.cells #[.int .i64 lk, .int .i64 no, .string m1, .slice p1 K1 q1, .string m2, .slice p2 K2 q2] tA (0, 0))) := D11.out.box
  have HY : Hid (z4.heap[w.heap.size + 1]? = some (.cells zA tA (0, 0))) := D11.out.res
  go_wp2_with (first | (refine wpList_load_row rfl tA _ rfl w.heap.size rfl _ _ _ _ HX.out Try.underlying54 rfl infoA ?_) | (refine wpList_store_row rfl tA _ _ rfl (w.heap.size + 1) _ rfl rfl _ _ HY.out infoA rfl (by simp [Value.oneCell']) ?_) | fail)
  have HF : Hid (∀ v n xs, z4.ownsRow w.heap.size tF 3 v n xs → (z4.setRow (w.heap.size + 1) #[.int .i64 lk, .int .i64 no, .string m1, .slice p1 K1 q1, .string m2, .slice p2 K2 q2]).ownsRow w.heap.size tF 3 v n xs) := fun v n xs h => own_keep h fun g hg => by
    have hne : w.heap.size + 1 ≠ g := fun e => by
      obtain ⟨cy, hcy⟩ := own_ty h hg
      rw [← e, HY.out] at hcy
      injection hcy with hcy; injection hcy with _ hcy; exact absurd hcy (by decide)
    exact setRow_ne hne _
  refine bodyPost_ret (v := av ⟨lk, no, m1, L1, m2, L2⟩ (.slice p1 K1 q1) (.slice p2 K2 q2)) (results_cell_row (fn := Try.f42) rfl _ _ (w.heap.size + 1) tA _ _ _ rfl (setRow_at HY.out #[.int .i64 lk, .int .i64 no, .string m1, .slice p1 K1 q1, .string m2, .slice p2 K2 q2]) Try.underlying54 rfl infoA) rfl ⟨.slice p1 K1 q1, .slice p2 K2 q2, rfl, ?_, ?_, below_setRow D11.out.bel (by omega) _⟩
  · rw [HK1.out]; exact HF.out _ _ _ (HOUT.out _ _ _ HR4.out)
  · rw [HK2.out]; exact HF.out _ _ _ (HOUT.out _ _ _ HR2.out)
end Go.Proofs.Ytmpcgmpobmnmmaa.Sa
