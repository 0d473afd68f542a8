/- totals: a tally: plus, isOver, counts. -/
import Derived.Test.YteaanenhefbkjaaDoorTb
import Derived.Test.YteaanenhefbkjaaDoorCnt
import Derived.Test.YteaanenhefbkjaaDoorQl
namespace Go.Proofs.YteaanenhefbkjaaDoor.Tc
set_option linter.unusedVariables false
set_option linter.unusedSimpArgs false
open Go.RowKit Lib0 Kb Xp Ic Ta Tb
attribute [local go_sem] Oper.semAt_some
abbrev tTa : TypeId := 53
def ta (f : Nat → Int) : Array Value := #[.int .i64 (f 0), .int .i64 (f 1), .int .i64 (f 2), .int .i64 (f 3), .int .i64 (f 4), .int .i64 (f 5), .int .i64 (f 6), .int .i64 (f 7), .int .i64 (f 8), .int .i64 (f 9), .int .i64 (f 10), .int .i64 (f 11)]
theorem twelve {k : Nat} (h : k < 12) : k = 0 ∨ k = 1 ∨ k = 2 ∨ k = 3 ∨ k = 4 ∨ k = 5 ∨ k = 6 ∨ k = 7 ∨ k = 8 ∨ k = 9 ∨ k = 10 ∨ k = 11 := by omega
theorem ta_at (f : Nat → Int) (k : Nat) (h : k < 12) : (ta f)[k]? = some (.int .i64 (f k)) := by
  rcases twelve h with rfl | rfl | rfl | rfl | rfl | rfl | rfl | rfl | rfl | rfl | rfl | rfl <;> rfl
def upd (f : Nat → Int) (k : Nat) (v : Int) : Nat → Int := fun j => if j = k then v else f j
theorem ta_set (f : Nat → Int) (k : Nat) (h : k < 12) (v : Int) : (ta f).setIfInBounds k (.int .i64 v) = ta (upd f k v) := by
  rcases twelve h with rfl | rfl | rfl | rfl | rfl | rfl | rfl | rfl | rfl | rfl | rfl | rfl <;> rfl
theorem ta_congr {f g : Nat → Int} (h : ∀ k, k < 12 → f k = g k) : ta f = ta g := by
  unfold ta
  rw [h 0 (by omega), h 1 (by omega), h 2 (by omega), h 3 (by omega), h 4 (by omega), h 5 (by omega), h 6 (by omega), h 7 (by omega), h 8 (by omega), h 9 (by omega), h 10 (by omega), h 11 (by omega)]
theorem ta_cell {w : World} {g : Nat} {f : Nat → Int} {t : TypeId} (h : w.heap[g]? = some (.cells (ta f) t (0, 0))) (k : Nat) (hk : k < 12) : w.cell? ⟨g, k, none⟩ = some (.int .i64 (f k)) ∧ w.frozen? ⟨g, k, none⟩ = false := ⟨by simp [World.cell?, h, ta_at f k hk], by simp [World.frozen?, h]⟩
theorem ta_put {w : World} {g : Nat} {f : Nat → Int} {t : TypeId} (h : w.heap[g]? = some (.cells (ta f) t (0, 0))) (k : Nat) (hk : k < 12) (v : Int) : (w.setCell ⟨g, k, none⟩ (.int .i64 v)).heap[g]? = some (.cells (ta (upd f k v)) t (0, 0)) := by
  rw [setCell_heap h, ta_set f k hk]
def mostK (k : Nat) : Int := if 8 ≤ k then 9999999999999999 else 9999999999
theorem mostOf_any (k : Nat) (w : World) : Calls Tryd.prog 31 #[.int .i64 (k : Int)] w fun e w' => e = .returned (.int .i64 (mostK k)) ∧ w' = w := by
  have HS : Hid (∀ y, Calls Tryd.prog 36 #[.int .i64 (k : Int)] y fun e w' => e = .returned (.bool (decide (8 ≤ k))) ∧ w' = y) := fun y => by
    go_enter Tryd.func36, Tryd.ntmps36
    by_cases h : 8 ≤ k
    · have q : (8 : Int) ≤ (k : Int) := by omega
      have q2 : decide (8 ≤ k) = true := decide_eq_true h
      go_wp2_with fail
      go_ret
      exact ⟨by simp [h], rfl⟩
    · have q : decide ((8 : Int) ≤ (k : Int)) = false := decide_eq_false (by omega)
      go_wp2_with fail
      go_ret
      exact ⟨by simp [h], rfl⟩
  go_enter Tryd.func31, Tryd.ntmps31
  go_wp2_with fail
  refine (HS.out _).mono ?_
  rintro e y ⟨rfl, rfl⟩
  by_cases h : 8 ≤ k
  · rw [decide_eq_true h]
    go_wp2_with fail
    go_ret
    exact ⟨by simp [mostK, h], rfl⟩
  · rw [decide_eq_false h]
    go_wp2_with fail
    go_ret
    exact ⟨by simp [mostK, h], rfl⟩
theorem infoTa : (Tryd.prog.info? tTa).map (·.size) = some 12 := by kernel_rfl
def sumT (f g : Nat → Int) : Nat → Int := fun k => f k + g k
def part (f g : Nat → Int) (k : Nat) : Nat → Int := fun j => if j < k then f j + g j else f j
structure TwM (w : World) (f g : Nat → Int) (k : Nat) (x : World) : Prop where
  a : x.heap[w.heap.size]? = some (.cells (ta (part f g k)) tTa (0, 0))
  b : x.heap[w.heap.size + 1]? = some (.cells (ta g) tTa (0, 0))
  r : x.heap[w.heap.size + 2]? = some (.cells (ta fun _ => 0) tTa (0, 0))
  bel : Below w.heap.size w x
theorem TwM.below {w x y : World} {f g : Nat → Int} {k : Nat} (h : TwM w f g k x) (hy : Below x.heap.size x y) : TwM w f g k y := ⟨kept hy h.a, kept hy h.b, kept hy h.r, keepB h.bel hy⟩
theorem TwM.set {w x : World} {f g : Nat → Int} {k : Nat} (h : TwM w f g k x) (hk : k < 12) : TwM w f g (k + 1) (x.setCell ⟨w.heap.size, k, none⟩ (.int .i64 (f k + g k))) := by
  refine ⟨?_, ?_, ?_, h.bel.setCell (Nat.le_refl _) _⟩
  · rw [ta_put h.a k hk]
    congr 2
    refine ta_congr fun j hj => ?_
    unfold upd part
    by_cases e : j = k
    · subst e; simp
    · by_cases e2 : j < k
      · rw [if_neg e, if_pos e2, if_pos (by omega)]
      · rw [if_neg e, if_neg e2, if_neg (by omega)]
  · rw [setCell_ne (p := ⟨w.heap.size, k, none⟩) (by show w.heap.size ≠ w.heap.size + 1; omega)]; exact h.b
  · rw [setCell_ne (p := ⟨w.heap.size, k, none⟩) (by show w.heap.size ≠ w.heap.size + 2; omega)]; exact h.r
set_option maxRecDepth 100000 in
set_option maxHeartbeats 3200000 in
theorem plus_any (f g : Nat → Int) (hb : ∀ k, k < 12 → 0 ≤ f k ∧ 0 ≤ g k ∧ f k + g k ≤ mostK k) (w : World) : Calls Tryd.prog 21 #[.agg (ta f), .agg (ta g)] w fun e w' => e = .returned (.agg (ta (sumT f g))) ∧ Below w.heap.size w w' := by
  have HB : Hid (∀ k, k < 12 → 0 ≤ f k ∧ 0 ≤ g k ∧ f k + g k ≤ mostK k) := hb
  have HM : Hid (∀ (k : Nat) y, Calls Tryd.prog 31 #[.int .i64 (k : Int)] y fun e w' => e = .returned (.int .i64 (mostK k)) ∧ w' = y) := fun k y => mostOf_any k y
  have H0 : Hid (TwM w f g 0 (((w.alloc (.cells (ta f) tTa)).alloc (.cells (ta g) tTa)).alloc (.cells (ta fun _ => 0) tTa))) := by
    have b1 := below_one w (.cells (ta f) tTa)
    have b2 := below_one (w.alloc (.cells (ta f) tTa)) (.cells (ta g) tTa)
    have b3 := below_one ((w.alloc (.cells (ta f) tTa)).alloc (.cells (ta g) tTa)) (.cells (ta fun _ => 0) tTa)
    refine ⟨?_, ?_, ?_, keepB (keepB b1 b2) b3⟩
    · have := kept b3 (kept b2 (h1_0 w (.cells (ta f) tTa)))
      exact this
    · have h9 := kept b3 (h1_0 (w.alloc (.cells (ta f) tTa)) (.cells (ta g) tTa))
      rw [show (w.alloc (.cells (ta f) tTa)).heap.size = w.heap.size + 1 by simp] at h9
      exact h9
    · have h9 := h1_0 ((w.alloc (.cells (ta f) tTa)).alloc (.cells (ta g) tTa)) (.cells (ta fun _ => 0) tTa)
      rw [show ((w.alloc (.cells (ta f) tTa)).alloc (.cells (ta g) tTa)).heap.size = w.heap.size + 2 by simp] at h9
      exact h9
  clear hb
  unfold ta at H0
  unfold ta
  go_enter Tryd.func21, Tryd.ntmps21
  go_wp2_with fail
  have HCT : Hid (∀ (k : Nat) y, k < 12 → Calls Tryd.prog 30 #[.int .i64 (f k), .int .i64 (g k), .int .i64 (mostK k + 1)] y fun e w' => e = .returned (.int .i64 (f k + g k)) ∧ w' = y) := fun k y hk => by
    have h1 := HB.out k hk
    have h2 : mostK k = 9999999999999999 ∨ mostK k = 9999999999 := by unfold mostK; split <;> simp
    have h3 := Cnt.count_any (f k) (g k) (mostK k + 1) y (by omega) (by omega) (by omega)
    have e : Cnt.countOf (f k) (g k) (mostK k + 1) = f k + g k := by
      unfold Cnt.countOf Cnt.mx
      rw [if_neg (by omega : ¬ mostK k + 1 < 0), if_neg (by omega : ¬ f k < 0), if_neg (by omega : ¬ g k < 0), if_neg (by omega)]
    rw [e] at h3
    exact h3
  go_loopw [5, 6] (fun _ kv wr => ∃ k : Nat, kv = .int .i64 (k : Int) ∧ Hid (k ≤ 12) ∧ Hid (TwM w f g k wr)) (fun _ kv _ => 13 - (intOf kv).toNat)
  case atStart => exact ⟨0, rfl, Nat.zero_le _, H0.out⟩
  case round =>
    obtain ⟨k, rfl, HK, HT⟩ := hrel
    by_cases hk : k < 12
    · have hT := HT.out
      obtain ⟨c0, f0⟩ := ta_cell hT.a k hk
      obtain ⟨c1, -⟩ := ta_cell hT.b k hk
      have ep : part f g k k = f k := by unfold part; rw [if_neg (by omega)]
      rw [ep] at c0
      have hcm : ∀ y, Calls Tryd.prog 31 #[.int .i64 (k : Int)] y fun e w' => e = .returned (.int .i64 (mostK k)) ∧ w' = y := fun y => HM.out k y
      have hcc : ∀ y, Calls Tryd.prog 30 #[.int .i64 (f k), .int .i64 (g k), .int .i64 (mostK k + 1)] y fun e w' => e = .returned (.int .i64 (f k + g k)) ∧ w' = y := fun y => HCT.out k y hk
      have HSET : Hid (∀ x, Below wr.heap.size wr x → TwM w f g (k + 1) (x.setCell ⟨w.heap.size, k, none⟩ (.int .i64 (f k + g k)))) := fun x hx => (hT.below hx).set hk
      have HCE : Hid (∀ x, Below wr.heap.size wr x → x.cell? ⟨w.heap.size, k, none⟩ = some (.int .i64 (f k)) ∧ x.frozen? ⟨w.heap.size, k, none⟩ = false) := fun x hx => by
        have h9 := ta_cell (hT.below hx).a k hk
        rw [ep] at h9
        exact h9
      have hmw : IntKind.i64.wrap (mostK k + 1) = mostK k + 1 := Lib0.wrap_i64 _ (by unfold mostK; split <;> omega) (by unfold mostK; split <;> omega)
      generalize mostK k = M at *
      generalize f k = F at *
      generalize g k = G at *
      have l0 := World.block_lt_of_cell? _ _ c0
      have l1 := World.block_lt_of_cell? _ _ c1
      have q0 : (k : Int) < 12 := by omega
      have q1 : (0 : Int) ≤ (k : Int) := by omega
      have q2 : (k : Int) + 1 ≤ 9223372036854775807 := by omega
      have HK2 : Hid (k < 12) := hk
      clear hk hT ep f0 HCT
      go_wp2_with fail
      refine Ql.region_lastL (C := Ql.Cl wr) (by kernel_rfl) rfl (by kernel_rfl) (by kernel_rfl) (by kernel_rfl) rfl ((Below.refl _ _).drew) ?_
      dsimp only [List.dropLast]
      repeat (first | go_big_quiet_skip | (go_big_quiet_want; go_big_quiet_op; first | go_big_quiet_on | (refine ⟨_, fun _ _ => rfl, ?_⟩; go_big_quiet_on) | (refine ⟨_, fun _ _ => ⟨rfl, rfl⟩, ?_⟩; go_big_quiet_on)) | (refine wpQuiet_step (fun K hK => ?_); first
        | (refine Ql.q_cell (by rfl) 3 _ rfl _ _ rfl _ c0 l0 (fun y => Tryd.isAgg3 y) (hK _ ?_); clear hK K; simp only [Act.put, List.setIfInBounds_toArray, List.set_cons_succ, List.set_cons_zero])
        | (refine Ql.q_cell (by rfl) 3 _ rfl _ _ rfl _ c1 l1 (fun y => Tryd.isAgg3 y) (hK _ ?_); clear hK K; simp only [Act.put, List.setIfInBounds_toArray, List.set_cons_succ, List.set_cons_zero])
        | (go_simp; apply Exists.intro; refine ⟨fun y hy => ?_, hK _ ?_⟩; (go_at_call 31; exact Ql.cl_same hy (hcm _)); clear hK K)
        | (go_simp; apply Exists.intro; refine ⟨fun y hy => ?_, hK _ ?_⟩; (go_at_call 30; exact Ql.cl_same hy (hcc _)); clear hK K)
        | fail))
      refine wpQuiet_nil ?_
      intro y3 hy3
      obtain ⟨d0, d1⟩ := HCE.out y3 hy3
      have HS3 : Hid _ := HSET.out y3 hy3
      clear hy3 c0 c1 l0 l1 hcm hcc
      go_simp
      go_wp2_with fail
      refine ⟨⟨k + 1, by simp, (by have := HK2.out; show k + 1 ≤ 12; omega), HS3.out⟩, ?_⟩
      have := HK2.out
      simp only [intOf]; omega
    · obtain rfl : k = 12 := by have := HK.out; omega
      clear hk
      have hA := HT.out.a
      have hR := HT.out.r
      have eP : ta (part f g 12) = ta (sumT f g) := ta_congr fun j hj => by unfold part sumT; rw [if_pos hj]
      rw [eP] at hA
      have HBW : Hid (Below w.heap.size w (wr.setRow (w.heap.size + 2) (ta (sumT f g)))) := below_setRow HT.out.bel (by omega) _
      have HRW : Hid ((wr.setRow (w.heap.size + 2) (ta (sumT f g))).heap[w.heap.size + 2]? = some (.cells (ta (sumT f g)) tTa (0, 0))) := setRow_at hR _
      go_wp2_with (first
        | (refine wpList_load_row rfl tTa _ rfl w.heap.size rfl _ _ _ _ hA Tryd.underlying53 rfl infoTa ?_; refine wpList_store_row rfl tTa _ _ rfl (w.heap.size + 2) (ta (sumT f g)) (by rfl) (by rfl) _ _ hR infoTa (by rfl) (by simp [ta, Value.oneCell']) ?_)
        | fail)
      (try simp only [Exit.inBlock, Exit.then])
      exact bodyPost_ret (v := .agg (ta (sumT f g))) (results_cell_row (fn := Tryd.f21) (p := 4) rfl _ _ (w.heap.size + 2) tTa _ _ _ rfl HRW.out Tryd.underlying53 rfl infoTa) rfl ⟨rfl, HBW.out⟩
end Go.Proofs.YteaanenhefbkjaaDoor.Tc
