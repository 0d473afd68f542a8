/- RouteTries: one step, whichever. -/
import Derived.Test.YtecboaocoobjgaaGreatDoorWm
namespace Go.Proofs.YtecboaocoobjgaaGreatDoor.Wq
set_option linter.unusedVariables false
set_option linter.unusedSimpArgs false
open Go.RowKit Go.Shelf Lib0 Kb Rp Rw Rs Li Mj Tj Kq Sr Ra Rj Da Db Dc Dd De Wd Ws Wi Wk Wn Wo Wp Wm
attribute [local go_sem] Oper.semAt_some
set_option maxRecDepth 100000 in
set_option maxHeartbeats 3200000 in
theorem many2 {w y : World} {X : List Nat} {W : Nat} {t r u : Nat → Nat} {L : Nat → LT} (h : Wd w y X W t r u L) (o : Stp) (k : Nat) (hk : k < 2) (hon : ∀ x, Calls Tryz.prog 14 #[.int .i64 o.on, .int .i64 2] x fun e w' => e = .returned (.int .i64 (k : Int)) ∧ w' = x) (hkind : o.kind = 7) (hp : o.pr.size + 3 ≤ maxLen) (hL : ∀ j, (L j).length ≤ 800000) (v0 : -9223372036854775808 ≤ o.v) (v1 : o.v ≤ 9223372036854775807) :
    Calls Tryz.prog 7 #[.pointer (some ⟨W, 0, none⟩), .agg o.cs] y fun e y' => e = .returned (.bool true) ∧ ∃ L', Wd w y' X W t r u L' ∧ ∀ j, (L' j).length ≤ (L j).length + 300 := by
  obtain ⟨kind, on, pr, v, leave, inn, oth⟩ := o
  have OV := fun (x : World) (D : Wd w x X W t r u L) => many_any D ⟨kind, on, pr, v, leave, inn, oth⟩ k hk hp hL v0 v1
  dsimp only at hon hkind
  subst hkind
  simp only [Stp.cs] at OV ⊢
  have h0 := h.below (Kb.below_one y (.cells #[.int .i64 7, .int .i64 on, .string pr, .int .i64 v, .int .i64 leave, .int .i64 inn, .string oth] tO))
  obtain ⟨c0, c1, c2⟩ := Wd.cells h0 k hk
  go_enter Tryz.func7, Tryz.ntmps7
  go_wp2_with fail
  refine (hon _).mono ?_
  rintro e x ⟨rfl, hx⟩
  rw [hx]
  clear hx x
  have k0 : (0 : Int) ≤ (k : Int) := by omega
  have k1 : (k : Int) < 2 := by omega
  go_wp2_with fail
  obtain ⟨z, hz⟩ : ∃ z, y.alloc (.cells #[.int .i64 7, .int .i64 on, .string pr, .int .i64 v, .int .i64 leave, .int .i64 inn, .string oth] tO) = z := ⟨_, rfl⟩
  have hQ : z.heap[y.heap.size]? = some (.cells #[.int .i64 7, .int .i64 on, .string pr, .int .i64 v, .int .i64 leave, .int .i64 inn, .string oth] tO) := hz ▸ Kb.h1_0 y _
  rw [hz] at h0
  rw [hz]
  obtain ⟨Q, hQQ⟩ : ∃ Q, y.heap.size = Q := ⟨_, rfl⟩
  rw [hQQ] at hQ
  rw [hQQ]
  clear hz hQQ c0 c1 c2 hon h
  obtain ⟨a0, a1, a2, a3, a4, a5, a6⟩ : z.cell? ⟨Q, 0, none⟩ = some (.int .i64 7) ∧ z.cell? ⟨Q, 1, none⟩ = some (.int .i64 on) ∧ z.cell? ⟨Q, 2, none⟩ = some (.string pr) ∧ z.cell? ⟨Q, 3, none⟩ = some (.int .i64 v) ∧ z.cell? ⟨Q, 4, none⟩ = some (.int .i64 leave) ∧ z.cell? ⟨Q, 5, none⟩ = some (.int .i64 inn) ∧ z.cell? ⟨Q, 6, none⟩ = some (.string oth) := by refine ⟨?_, ?_, ?_, ?_, ?_, ?_, ?_⟩ <;> simp [World.cell?, hQ]
  have PC := OV z h0
  clear hQ h0 OV
  go_wp2_with (go_at_call 21; refine PC.mono ?_; rintro e x2 ⟨rfl, L', hW, hl⟩)
  go_ret
  exact ⟨rfl, L', hW, hl⟩
/-- one step, whichever it is -/
theorem step_any {w y : World} {X : List Nat} {W : Nat} {t r u : Nat → Nat} {L : Nat → LT} (h : Wd w y X W t r u L) (o : Stp) (hp : o.pr.size + 3 ≤ maxLen) (hq : o.oth.size ≤ maxLen) (hL : ∀ j, (L j).length ≤ 800000) (v0 : -9223372036854775808 ≤ o.v) (v1 : o.v ≤ 9223372036854775807) (n0 : -9223372036854775808 ≤ o.on) (n1 : o.on ≤ 9223372036854775807) :
    Calls Tryz.prog 7 #[.pointer (some ⟨W, 0, none⟩), .agg o.cs] y fun e y' => e = .returned (.bool true) ∧ ∃ L', Wd w y' X W t r u L' ∧ ∀ j, (L' j).length ≤ (L j).length + 300 := by
  obtain ⟨k, hk, hon⟩ := pick_k o.on 2 w n0 n1 (by decide) (by decide)
  replace hk : k < 2 := by omega
  have hL9 : (L k).length ≤ 900000 := by have := hL k; omega
  have hp9 : o.pr.size ≤ maxLen := by omega
  by_cases e1 : o.kind = 1
  · refine (put2 h o k hk hon e1 hp9 hL9).mono ?_
    rintro e y' ⟨rfl, a⟩
    refine ⟨rfl, _, a, fun j => ?_⟩
    by_cases e : j = k
    · subst e; simp only [if_true]; have := putL_len (L j) o.pr.data.toList o.v; omega
    · simp only [e, if_false]; omega
  by_cases e2 : o.kind = 2
  · refine (drop2 h o k hk hon e2 hp9 hL9).mono ?_
    rintro e y' ⟨rfl, a⟩
    refine ⟨rfl, _, a, fun j => ?_⟩
    by_cases e : j = k
    · subst e; simp only [if_true]; have := dl_len (L j) o.pr; omega
    · simp only [e, if_false]; omega
  by_cases e3 : o.kind = 3
  · refine (find2 h o k hk hon e3 hp9 hL9).mono ?_
    rintro e y' ⟨rfl, a⟩
    exact ⟨rfl, _, a, fun j => by omega⟩
  by_cases e4 : o.kind = 4
  · refine (len2 h o k hk hon e4 hp9 hL9).mono ?_
    rintro e y' ⟨rfl, a⟩
    exact ⟨rfl, _, a, fun j => by omega⟩
  by_cases e5 : o.kind = 5
  · refine (all2 h o k hk hon e5 hq hL v0 v1).mono ?_
    rintro e y' ⟨rfl, L', a, b⟩
    exact ⟨rfl, L', a, fun j => by have := b j; omega⟩
  by_cases e6 : o.kind = 6
  · refine (kept2 h o k hk hon e6 hq hL v0 v1).mono ?_
    rintro e y' ⟨rfl, L', a, b⟩
    exact ⟨rfl, L', a, fun j => by have := b j; omega⟩
  by_cases e7 : o.kind = 7
  · exact many2 h o k hk hon e7 hp hL v0 v1
  · refine (other2 h o k hk hon ⟨e1, e2, e3, e4, e5, e6, e7⟩ hq hL v0 v1).mono ?_
    rintro e y' ⟨rfl, L', a, b⟩
    exact ⟨rfl, L', a, fun j => by have := b j; omega⟩
end Go.Proofs.YtecboaocoobjgaaGreatDoor.Wq
