/- RouteTries: one step, the rest. -/
import Derived.Test.YtecboaocoobjgaaGreatDoorWo
namespace Go.Proofs.YtecboaocoobjgaaGreatDoor.Wp
set_option linter.unusedVariables false
set_option linter.unusedSimpArgs false
open Go.RowKit Go.Shelf Lib0 Kb Rp Rw Rs Li Mj Tj Kq Sr Ra Rj Da Db Dc Dd De Wd Ws Wi Wk Wn Wo
attribute [local go_sem] Oper.semAt_some
set_option maxRecDepth 100000 in
set_option maxHeartbeats 3200000 in
theorem all2 {w y : World} {X : List Nat} {W : Nat} {t r u : Nat → Nat} {L : Nat → LT} (h : Wd w y X W t r u L) (o : Stp) (k : Nat) (hk : k < 2) (hon : ∀ x, Calls Tryz.prog 14 #[.int .i64 o.on, .int .i64 2] x fun e w' => e = .returned (.int .i64 (k : Int)) ∧ w' = x) (hkind : o.kind = 5) (hp : o.oth.size ≤ maxLen) (hL : ∀ j, (L j).length ≤ 800000) (v0 : -9223372036854775808 ≤ o.v) (v1 : o.v ≤ 9223372036854775807) :
    Calls Tryz.prog 7 #[.pointer (some ⟨W, 0, none⟩), .agg o.cs] y fun e y' => e = .returned (.bool true) ∧ ∃ L', Wd w y' X W t r u L' ∧ ∀ j, (L' j).length ≤ (L j).length + 1 := by
  obtain ⟨kind, on, pr, v, leave, inn, oth⟩ := o
  have OV := fun (x : World) (D : Wd w x X W t r u L) (bt : Nat) (hbt : x.heap[bt]? = some (.cells #[pA (t k)] tP)) => over_any D ⟨kind, on, pr, v, leave, inn, oth⟩ k hk bt hbt hp hL v0 v1
  dsimp only at hon hkind
  subst hkind
  simp only [Stp.cs] at OV ⊢
  have h0 := h.below (Kb.below_one y (.cells #[.int .i64 5, .int .i64 on, .string pr, .int .i64 v, .int .i64 leave, .int .i64 inn, .string oth] tO))
  obtain ⟨c0, c1, c2⟩ := Wd.cells h0 k hk
  go_enter Tryz.func7, Tryz.ntmps7
  go_wp2_with fail
  refine (hon _).mono ?_
  rintro e x ⟨rfl, hx⟩
  rw [hx]
  clear hx x
  have k0 : (0 : Int) ≤ (k : Int) := by omega
  have k1 : (k : Int) < 2 := by omega
  go_wp2_with fail
  obtain ⟨z, hz⟩ : ∃ z, y.alloc (.cells #[.int .i64 5, .int .i64 on, .string pr, .int .i64 v, .int .i64 leave, .int .i64 inn, .string oth] tO) = z := ⟨_, rfl⟩
  have hQ : z.heap[y.heap.size]? = some (.cells #[.int .i64 5, .int .i64 on, .string pr, .int .i64 v, .int .i64 leave, .int .i64 inn, .string oth] tO) := hz ▸ Kb.h1_0 y _
  rw [hz] at h0
  rw [hz]
  obtain ⟨Q, hQQ⟩ : ∃ Q, y.heap.size = Q := ⟨_, rfl⟩
  rw [hQQ] at hQ
  rw [hQQ]
  clear hz hQQ c0 c1 c2 hon h
  have h1 : Wd w z.drew X W t r u L := h0.below ((Below.refl _ z).drew)
  have hQ1 : z.drew.heap[Q]? = some (.cells #[.int .i64 5, .int .i64 on, .string pr, .int .i64 v, .int .i64 leave, .int .i64 inn, .string oth] tO) := hQ
  have CE : ∀ x : World, x.heap[Q]? = some (.cells #[.int .i64 5, .int .i64 on, .string pr, .int .i64 v, .int .i64 leave, .int .i64 inn, .string oth] tO) → x.cell? ⟨Q, 0, none⟩ = some (.int .i64 5) ∧ x.cell? ⟨Q, 1, none⟩ = some (.int .i64 on) ∧ x.cell? ⟨Q, 2, none⟩ = some (.string pr) ∧ x.cell? ⟨Q, 3, none⟩ = some (.int .i64 v) ∧ x.cell? ⟨Q, 4, none⟩ = some (.int .i64 leave) ∧ x.cell? ⟨Q, 5, none⟩ = some (.int .i64 inn) ∧ x.cell? ⟨Q, 6, none⟩ = some (.string oth) := fun x e => by refine ⟨?_, ?_, ?_, ?_, ?_, ?_, ?_⟩ <;> simp [World.cell?, e]
  obtain ⟨a0, a1, a2, a3, a4, a5, a6⟩ := CE _ hQ1
  have OW : Hid (∀ x, x = z.drew.alloc (.cells #[.pointer (some ⟨t k, 0, none⟩)] 25) → x.heap[Q]? = some (.cells #[.int .i64 5, .int .i64 on, .string pr, .int .i64 v, .int .i64 leave, .int .i64 inn, .string oth] tO) ∧ Calls Tryz.prog 20 #[.pointer (some ⟨W, 0, none⟩), .int .i64 (k : Int), fvA z.drew.heap.size, .agg #[.int .i64 5, .int .i64 on, .string pr, .int .i64 v, .int .i64 leave, .int .i64 inn, .string oth]] x fun e y' => e = .returned (.bool true) ∧ ∃ L', Wd w y' X W t r u L' ∧ (∀ j, (L' j).length ≤ (L j).length + 1) ∧ ∀ (b' : Nat) (c : Array Value), x.heap[b']? = some (.cells c tO) → y'.heap[b']? = some (.cells c tO)) := fun x hx => by
    subst hx
    have B := Kb.below_one z.drew (.cells #[.pointer (some ⟨t k, 0, none⟩)] 25)
    exact ⟨kept B hQ1, OV _ (h1.below B) _ (Kb.h1_0 z.drew _)⟩
  have AL := all_any (t k) z.drew
  clear hQ hQ1 h0 h1 OV
  go_region_held3 (fun x => x.cell? ⟨Q, 0, none⟩ = some (.int .i64 5) ∧ x.cell? ⟨Q, 1, none⟩ = some (.int .i64 on) ∧ x.cell? ⟨Q, 2, none⟩ = some (.string pr) ∧ x.cell? ⟨Q, 3, none⟩ = some (.int .i64 v) ∧ x.cell? ⟨Q, 4, none⟩ = some (.int .i64 leave) ∧ x.cell? ⟨Q, 5, none⟩ = some (.int .i64 inn) ∧ x.cell? ⟨Q, 6, none⟩ = some (.string oth)) (first | exact ⟨by assumption, by assumption, by assumption, by assumption, by assumption, by assumption, by assumption⟩ | (go_keep; done)) (first
    | (go_at_call 6; refine AL.mono ?_; rintro e x ⟨rfl, hx⟩; obtain ⟨hq, PC⟩ := OW.out x hx; obtain ⟨d0, d1, d2, d3, d4, d5, d6⟩ := CE x hq; have HQ := hid hq; clear hx hq)
    | (go_at_call 20; refine PC.mono ?_; rintro e x2 ⟨rfl, L', hW, hl, ko⟩; obtain ⟨f0, f1, f2, f3, f4, f5, f6⟩ := CE x2 (ko _ _ HQ.out); have HW := hid hW; have HLL := hid hl; clear hW hl ko))
  go_wp2_with fail
  go_ret
  exact ⟨rfl, L', HW.out, HLL.out⟩
set_option maxRecDepth 100000 in
set_option maxHeartbeats 3200000 in
theorem kept2 {w y : World} {X : List Nat} {W : Nat} {t r u : Nat → Nat} {L : Nat → LT} (h : Wd w y X W t r u L) (o : Stp) (k : Nat) (hk : k < 2) (hon : ∀ x, Calls Tryz.prog 14 #[.int .i64 o.on, .int .i64 2] x fun e w' => e = .returned (.int .i64 (k : Int)) ∧ w' = x) (hkind : o.kind = 6) (hp : o.oth.size ≤ maxLen) (hL : ∀ j, (L j).length ≤ 800000) (v0 : -9223372036854775808 ≤ o.v) (v1 : o.v ≤ 9223372036854775807) :
    Calls Tryz.prog 7 #[.pointer (some ⟨W, 0, none⟩), .agg o.cs] y fun e y' => e = .returned (.bool true) ∧ ∃ L', Wd w y' X W t r u L' ∧ ∀ j, (L' j).length ≤ (L j).length + 1 := by
  obtain ⟨kind, on, pr, v, leave, inn, oth⟩ := o
  have OV := fun (x : World) (D : Wd w x X W t r u L) (bt : Nat) (hbt : x.heap[bt]? = some (.cells #[pA (t k)] tP)) => over_any D ⟨kind, on, pr, v, leave, inn, oth⟩ k hk bt hbt hp hL v0 v1
  dsimp only at hon hkind
  subst hkind
  simp only [Stp.cs] at OV ⊢
  have h0 := h.below (Kb.below_one y (.cells #[.int .i64 6, .int .i64 on, .string pr, .int .i64 v, .int .i64 leave, .int .i64 inn, .string oth] tO))
  obtain ⟨c0, c1, c2⟩ := Wd.cells h0 k hk
  go_enter Tryz.func7, Tryz.ntmps7
  go_wp2_with fail
  refine (hon _).mono ?_
  rintro e x ⟨rfl, hx⟩
  rw [hx]
  clear hx x
  have k0 : (0 : Int) ≤ (k : Int) := by omega
  have k1 : (k : Int) < 2 := by omega
  go_wp2_with fail
  obtain ⟨z, hz⟩ : ∃ z, y.alloc (.cells #[.int .i64 6, .int .i64 on, .string pr, .int .i64 v, .int .i64 leave, .int .i64 inn, .string oth] tO) = z := ⟨_, rfl⟩
  have hQ : z.heap[y.heap.size]? = some (.cells #[.int .i64 6, .int .i64 on, .string pr, .int .i64 v, .int .i64 leave, .int .i64 inn, .string oth] tO) := hz ▸ Kb.h1_0 y _
  rw [hz] at h0
  rw [hz]
  obtain ⟨Q, hQQ⟩ : ∃ Q, y.heap.size = Q := ⟨_, rfl⟩
  rw [hQQ] at hQ
  rw [hQQ]
  clear hz hQQ c0 c1 c2 hon h
  obtain ⟨a0, a1, a2, a3, a4, a5, a6⟩ : z.cell? ⟨Q, 0, none⟩ = some (.int .i64 6) ∧ z.cell? ⟨Q, 1, none⟩ = some (.int .i64 on) ∧ z.cell? ⟨Q, 2, none⟩ = some (.string pr) ∧ z.cell? ⟨Q, 3, none⟩ = some (.int .i64 v) ∧ z.cell? ⟨Q, 4, none⟩ = some (.int .i64 leave) ∧ z.cell? ⟨Q, 5, none⟩ = some (.int .i64 inn) ∧ z.cell? ⟨Q, 6, none⟩ = some (.string oth) := by refine ⟨?_, ?_, ?_, ?_, ?_, ?_, ?_⟩ <;> simp [World.cell?, hQ]
  obtain ⟨c0, c1, c2⟩ := Wd.cells h0 k hk
  have PC := fun m => OV (z.drewN m) (h0.below (below_drewN (Below.refl _ z) m)) (u k) (h0.fnb k hk)
  clear hQ h0 OV
  refine Qt.region_tail 9 1 (C := fun w' => ∃ n, w' = z.drewN n) (by kernel_rfl) rfl (by kernel_rfl) (by kernel_rfl) (by kernel_rfl) ⟨1, rfl⟩ ?_
  dsimp only [List.take, List.drop]
  repeat (go_big_quiet_step (fail))
  refine wpQuiet_nil ?_
  intro _ hw'
  obtain ⟨nq3, hw''⟩ := hw'
  subst hw''
  go_wp2_with (go_at_call 20; refine (PC _).mono ?_; rintro e x2 ⟨rfl, L', hW, hl, -⟩)
  go_ret
  exact ⟨rfl, L', hW, hl⟩
set_option maxRecDepth 100000 in
set_option maxHeartbeats 3200000 in
theorem other2 {w y : World} {X : List Nat} {W : Nat} {t r u : Nat → Nat} {L : Nat → LT} (h : Wd w y X W t r u L) (o : Stp) (k : Nat) (hk : k < 2) (hon : ∀ x, Calls Tryz.prog 14 #[.int .i64 o.on, .int .i64 2] x fun e w' => e = .returned (.int .i64 (k : Int)) ∧ w' = x) (hkind : ¬ o.kind = 1 ∧ ¬ o.kind = 2 ∧ ¬ o.kind = 3 ∧ ¬ o.kind = 4 ∧ ¬ o.kind = 5 ∧ ¬ o.kind = 6 ∧ ¬ o.kind = 7) (hp : o.oth.size ≤ maxLen) (hL : ∀ j, (L j).length ≤ 800000) (v0 : -9223372036854775808 ≤ o.v) (v1 : o.v ≤ 9223372036854775807) :
    Calls Tryz.prog 7 #[.pointer (some ⟨W, 0, none⟩), .agg o.cs] y fun e y' => e = .returned (.bool true) ∧ ∃ L', Wd w y' X W t r u L' ∧ ∀ j, (L' j).length ≤ (L j).length + 1 := by
  obtain ⟨kind, on, pr, v, leave, inn, oth⟩ := o
  have OV := fun (x : World) (D : Wd w x X W t r u L) (bt : Nat) (hbt : x.heap[bt]? = some (.cells #[pA (t k)] tP)) => over_any D ⟨kind, on, pr, v, leave, inn, oth⟩ k hk bt hbt hp hL v0 v1
  dsimp only at hon hkind
  obtain ⟨i1, i2, i3, i4, i5, i6, i7⟩ := hkind
  simp only [Stp.cs] at OV ⊢
  have h0 := h.below (Kb.below_one y (.cells #[.int .i64 kind, .int .i64 on, .string pr, .int .i64 v, .int .i64 leave, .int .i64 inn, .string oth] tO))
  obtain ⟨c0, c1, c2⟩ := Wd.cells h0 k hk
  go_enter Tryz.func7, Tryz.ntmps7
  go_wp2_with fail
  refine (hon _).mono ?_
  rintro e x ⟨rfl, hx⟩
  rw [hx]
  clear hx x
  have k0 : (0 : Int) ≤ (k : Int) := by omega
  have k1 : (k : Int) < 2 := by omega
  go_wp2_with fail
  obtain ⟨z, hz⟩ : ∃ z, y.alloc (.cells #[.int .i64 kind, .int .i64 on, .string pr, .int .i64 v, .int .i64 leave, .int .i64 inn, .string oth] tO) = z := ⟨_, rfl⟩
  have hQ : z.heap[y.heap.size]? = some (.cells #[.int .i64 kind, .int .i64 on, .string pr, .int .i64 v, .int .i64 leave, .int .i64 inn, .string oth] tO) := hz ▸ Kb.h1_0 y _
  rw [hz] at h0
  rw [hz]
  obtain ⟨Q, hQQ⟩ : ∃ Q, y.heap.size = Q := ⟨_, rfl⟩
  rw [hQQ] at hQ
  rw [hQQ]
  clear hz hQQ c0 c1 c2 hon h
  go_ret
  exact ⟨rfl, L, h0, fun j => by omega⟩
end Go.Proofs.YtecboaocoobjgaaGreatDoor.Wp
