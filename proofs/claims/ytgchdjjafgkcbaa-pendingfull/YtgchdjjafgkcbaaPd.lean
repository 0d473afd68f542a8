/- Small functions of a table: isWithin, nameOf, Has, holds, Len, Late. -/
import Derived.Test.YtgchdjjafgkcbaaPc
namespace Go.Proofs.Ytgchdjjafgkcbaa.Pd
set_option linter.unusedVariables false
set_option linter.unusedSimpArgs false
open Go.RowKit Go.Maps Lib0 Kb Xp Za Ze Ih Fh Hh Pa Pb Pc
attribute [local go_sem] Oper.semAt_some
theorem within_any (n m : Int) (w : World) : Calls Try.prog 20 #[.int .i64 n, .int .i64 m] w fun e w' => e = .returned (.bool (decide (1 ≤ n) && decide (n ≤ m))) ∧ w' = w := by
  by_cases h1 : 1 ≤ n <;> by_cases h2 : n ≤ m
  all_goals
    go_enter Try.func20, Try.ntmps20
    go_wp2
    go_ret
    refine ⟨?_, rfl⟩
    simp [h1, h2]
theorem nameOf_any (r : Rq) (v1 v2 : Value) (w : World) (h1 : ∃ o n c, v1 = .slice o n c) (h2 : ∃ o n c, v2 = .slice o n c) : Calls Try.prog 24 #[pv r v1 v2] w fun e w' => e = .returned (nv r) ∧ Below w.heap.size w w' := by
  obtain ⟨o1, n1, p1, rfl⟩ := h1
  obtain ⟨o2, n2, p2, rfl⟩ := h2
  obtain ⟨lk, cl, nu, st, tr, fr, to_, no, m1, L1, m2, L2⟩ := r
  have x0 := h2_0 w (.cells #[.int .i64 lk, .int .i64 cl, .string nu, .string st, .string tr, .int .i64 fr, .int .i64 to_, .int .i64 no, .string m1, .slice o1 n1 p1, .string m2, .slice o2 n2 p2] tP) (.cells #[.int .i64 0, .int .i64 0] tN)
  have c6 : ((w.alloc (.cells #[.int .i64 lk, .int .i64 cl, .string nu, .string st, .string tr, .int .i64 fr, .int .i64 to_, .int .i64 no, .string m1, .slice o1 n1 p1, .string m2, .slice o2 n2 p2] tP)).alloc (.cells #[.int .i64 0, .int .i64 0] tN)).cell? ⟨w.heap.size, 6, none⟩ = some (.int .i64 to_) := by simp [World.cell?, x0]
  have c7 : ((w.alloc (.cells #[.int .i64 lk, .int .i64 cl, .string nu, .string st, .string tr, .int .i64 fr, .int .i64 to_, .int .i64 no, .string m1, .slice o1 n1 p1, .string m2, .slice o2 n2 p2] tP)).alloc (.cells #[.int .i64 0, .int .i64 0] tN)).cell? ⟨w.heap.size, 7, none⟩ = some (.int .i64 no) := by simp [World.cell?, x0]
  clear x0
  unfold pv nv nameV
  simp only [pcs]
  go_enter Try.func24, Try.ntmps24
  go_wp2_with fail
  refine bodyPost_ret (v := .agg #[.int .i64 to_, .int .i64 no]) (results_cell_row (fn := Try.f24) rfl _ _ (w.heap.size + 1) tN _ _ _ rfl (h2_1 _ _ _) Try.underlying72 rfl (by kernel_rfl)) rfl ⟨rfl, below_two _ _ _⟩
theorem zeroE (w : World) : (zeroValue 78).run Try.prog w = .ok (.agg #[]) w := by kernel_rfl
theorem look_key {w : World} {kb ck : Nat} {Dk : DataW Value} (h : w.ownsMap Try.prog tK unitElem kb ck Dk) {k : Value} {l : Lit} (hk : keyOf Try.prog tK k = some l) : (Instr.lookup tMK (.map (some kb)) k true).run Try.prog w = .ok (.tuple #[.agg #[], .bool (Maps.has Dk l)]) w := by
  obtain ⟨v, ps, hrun, hv⟩ := h.look_ok lawK Try.underlying65 (zeroE w) unitElem_mk hk
  rw [hrun, (unitElem_inv hv).1]
theorem has_any {w : World} {base b wb rb kb hb : Nat} {Bw Br : Nat → Prop} {ck ch : Nat} {Dk Dh : DataW Value} {C : Cf} {old : Int} {XW XR : LT} {nw nr lw lr : Int} (h : Tm w base b wb rb kb hb Bw Br ck ch Dk Dh C old XW XR nw nr lw lr) (l c : Int) (n s t : ByteArray) (hk : keyOf Try.prog tK (keyV l c n s t) = some (keyL l c n s t)) : Calls Try.prog 18 #[.pointer (some ⟨b, 0, none⟩), keyV l c n s t] w fun e w' => e = .returned (.bool (Maps.has Dk (keyL l c n s t))) ∧ Below w.heap.size w w' := by
  obtain ⟨y, hy⟩ : ∃ y, w.alloc (.cells #[.int .i64 l, .int .i64 c, .string n, .string s, .string t] tK) = y := ⟨_, rfl⟩
  have HY : Hid (Below w.heap.size w y) := hy ▸ below_one _ _
  have ty := h.below HY.out
  have c6 := ty.cells.2.2.2.2.2.2.1
  have x0 : y.heap[w.heap.size]? = some (.cells #[.int .i64 l, .int .i64 c, .string n, .string s, .string t] tK) := hy ▸ h1_0 _ _
  have hlk0 : (Instr.lookup tMK (.map (some kb)) (keyV l c n s t) true).run Try.prog y = .ok (.tuple #[.agg #[], .bool (Maps.has Dk (keyL l c n s t))]) y := look_key ty.keys hk
  have hlk1 : (Instr.lookup tMK (.map (some kb)) (keyV l c n s t) true).run Try.prog y.drew = .ok (.tuple #[.agg #[], .bool (Maps.has Dk (keyL l c n s t))]) y.drew := look_key ty.keys.drew hk
  have hlk2 : (Instr.lookup tMK (.map (some kb)) (keyV l c n s t) true).run Try.prog (y.alloc (.cells #[] 78)) = .ok (.tuple #[.agg #[], .bool (Maps.has Dk (keyL l c n s t))]) (y.alloc (.cells #[] 78)) := look_key (ty.below (below_one _ _)).keys hk
  have hlk3 : (Instr.lookup tMK (.map (some kb)) (keyV l c n s t) true).run Try.prog (y.alloc (.cells #[] 78)).drew = .ok (.tuple #[.agg #[], .bool (Maps.has Dk (keyL l c n s t))]) (y.alloc (.cells #[] 78)).drew := look_key (ty.below (below_one _ _)).keys.drew hk
  generalize Maps.has Dk (keyL l c n s t) = B at *
  have d0 : y.cell? ⟨w.heap.size, 0, none⟩ = some (.int .i64 l) := by simp [World.cell?, x0]
  have d1 : y.cell? ⟨w.heap.size, 1, none⟩ = some (.int .i64 c) := by simp [World.cell?, x0]
  have d2 : y.cell? ⟨w.heap.size, 2, none⟩ = some (.string n) := by simp [World.cell?, x0]
  have d3 : y.cell? ⟨w.heap.size, 3, none⟩ = some (.string s) := by simp [World.cell?, x0]
  have d4 : y.cell? ⟨w.heap.size, 4, none⟩ = some (.string t) := by simp [World.cell?, x0]
  have lt : w.heap.size < y.heap.size := (Array.getElem?_eq_some_iff.1 x0).1
  have ltb : b < y.heap.size := (Array.getElem?_eq_some_iff.1 ty.blk).1
  have HA := below_one y (.cells #[] 78)
  have e0 := keepC HA d0 lt
  have e1 := keepC HA d1 lt
  have e2 := keepC HA d2 lt
  have e3 := keepC HA d3 lt
  have e4 := keepC HA d4 lt
  have e6 := keepC HA c6 ltb
  have HBY : Hid (Below w.heap.size w (y.alloc (.cells #[] 78))) := keepB HY.out HA
  unfold keyV at hlk0 hlk1 hlk2 hlk3 ⊢
  clear h ty x0 hk HA lt ltb
  go_enter Try.func18, Try.ntmps18
  go_wp2_with fail
  go_region
  all_goals (go_wp2_with fail)
  all_goals (go_ret)
  all_goals exact ⟨rfl, HBY.out.drew⟩
theorem zeroP (w : World) : (zeroValue 69).run Try.prog w = .ok (.pointer none) w := by kernel_rfl
theorem look_held {w : World} {hb ch : Nat} {Dh : DataW Value} (h : w.ownsMap Try.prog tN Pc.heldE hb ch Dh) {k : Value} {l : Lit} (hk : keyOf Try.prog tN k = some l) : ∃ v, (∀ m, (Instr.lookup tMH (.map (some hb)) k true).run Try.prog (w.drewN m) = .ok (.tuple #[v, .bool (Maps.has Dh l)]) (w.drewN m)) ∧ Dh.atKey l (.held (.pointer none)) = .held v := by
  have hd : ∀ m, (w.drewN m).ownsMap Try.prog tN Pc.heldE hb ch Dh := fun m => map_keep h ((Kb.below_drewN (Below.refl _ w) m).block hb h.lt)
  have key : ∀ m, ∃ v, (Instr.lookup tMH (.map (some hb)) k true).run Try.prog (w.drewN m) = .ok (.tuple #[v, .bool (Maps.has Dh l)]) (w.drewN m) ∧ Dh.atKey l (.held (.pointer none)) = .held v := fun m => by
    obtain ⟨v, ps, hrun, hv⟩ := (hd m).look_ok lawN Try.underlying66 (zeroP _) (zd := .held (.pointer none)) (zp := []) rfl hk
    refine ⟨v, hrun, ?_⟩
    simp only [Pc.heldE, Option.some.injEq, Prod.mk.injEq] at hv
    exact hv.1.symm
  obtain ⟨v, -, hv⟩ := key 0
  refine ⟨v, fun m => ?_, hv⟩
  obtain ⟨v2, h1, h2⟩ := key m
  have : v2 = v := by rw [hv] at h2; simp only [DataW.held.injEq] at h2; exact h2.symm
  rw [h1, this]
theorem holds_any {w : World} {base b wb rb kb hb : Nat} {Bw Br : Nat → Prop} {ck ch : Nat} {Dk Dh : DataW Value} {C : Cf} {old : Int} {XW XR : LT} {nw nr lw lr : Int} (h : Tm w base b wb rb kb hb Bw Br ck ch Dk Dh C old XW XR nw nr lw lr) (a c : Int) (hk : keyOf Try.prog tN (nameV a c) = some (nameL a c)) : Calls Try.prog 23 #[.pointer (some ⟨b, 0, none⟩), nameV a c] w fun e w' => e = .returned (.bool (Maps.has Dh (nameL a c))) ∧ Below w.heap.size w w' := by
  obtain ⟨y, hy⟩ : ∃ y, w.alloc (.cells #[.int .i64 a, .int .i64 c] tN) = y := ⟨_, rfl⟩
  have HY : Hid (Below w.heap.size w y) := hy ▸ below_one _ _
  have ty := h.below HY.out
  have c7 := ty.cells.2.2.2.2.2.2.2
  have x0 : y.heap[w.heap.size]? = some (.cells #[.int .i64 a, .int .i64 c] tN) := hy ▸ h1_0 _ _
  obtain ⟨v, hlk, -⟩ := look_held ty.held hk
  generalize Maps.has Dh (nameL a c) = B at *
  have d0 : y.cell? ⟨w.heap.size, 0, none⟩ = some (.int .i64 a) := by simp [World.cell?, x0]
  have d1 : y.cell? ⟨w.heap.size, 1, none⟩ = some (.int .i64 c) := by simp [World.cell?, x0]
  unfold nameV at hlk ⊢
  clear h ty x0 hk
  go_enter Try.func23, Try.ntmps23
  go_wp2_with fail
  go_quiet (fail)
  go_wp2_with fail
  go_ret
  exact ⟨rfl, Kb.below_drewN HY.out _⟩
theorem len_any {w : World} {base b wb rb kb hb : Nat} {Bw Br : Nat → Prop} {ck ch : Nat} {Dk Dh : DataW Value} {C : Cf} {old : Int} {XW XR : LT} {nw nr lw lr : Int} (h : Tm w base b wb rb kb hb Bw Br ck ch Dk Dh C old XW XR nw nr lw lr) : Calls Try.prog 11 #[.pointer (some ⟨b, 0, none⟩)] w fun e w' => e = .returned (.int .i64 (XW.length : Nat)) ∧ w' = w := by
  have c0 := h.cells.1
  have p := Th.len_any w wb Bw 256 XW nw lw h.ww
  clear h
  go_enter Try.func11, Try.ntmps11
  go_wp2_with fail
  refine p.mono ?_
  rintro e y ⟨rfl, rfl⟩
  go_wp2_with fail
  go_ret
  exact ⟨rfl, rfl⟩
theorem late_any {w : World} {base b wb rb kb hb : Nat} {Bw Br : Nat → Prop} {ck ch : Nat} {Dk Dh : DataW Value} {C : Cf} {old : Int} {XW XR : LT} {nw nr lw lr : Int} (h : Tm w base b wb rb kb hb Bw Br ck ch Dk Dh C old XW XR nw nr lw lr) : Calls Try.prog 12 #[.pointer (some ⟨b, 0, none⟩)] w fun e w' => e = .returned (.int .i64 (XR.length : Nat)) ∧ w' = w := by
  have c0 := h.cells.2.1
  have p := Th.len_any w rb Br 256 XR nr lr h.wr
  clear h
  go_enter Try.func12, Try.ntmps12
  go_wp2_with fail
  refine p.mono ?_
  rintro e y ⟨rfl, rfl⟩
  go_wp2_with fail
  go_ret
  exact ⟨rfl, rfl⟩
end Go.Proofs.Ytgchdjjafgkcbaa.Pd
