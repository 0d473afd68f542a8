/- Sessions: the document's. -/
import Derived.Test.YthfpjkboglbcaaaSc
namespace Go.Proofs.Ythfpjkboglbcaaa.Sd
set_option linter.unusedVariables false
set_option linter.unusedSimpArgs false
open Go.RowKit Lib0 Kb Sp
open Sa (tl codes ne_code t_ne fr_drewN sm_drewN)
open Sc (res_at res_to heap_drewN fr_set3 sm_set3)
theorem state_any {w : World} {g : Nat} {S : Ss} (M : Sm 65 w g S) :
    Calls Try.prog 14 #[.pointer (some ⟨g, 0, none⟩)] w fun e w' => e = .returned (.int .i64 S.st) ∧ w' = w := by
  have c3 : w.cell? ⟨g, 3, none⟩ = some (.int .i64 S.st) := M.ce 3
  go_enter Try.func14, Try.ntmps14
  go_wp2
  go_ret
  exact ⟨rfl, rfl⟩
theorem ready_any {w : World} {g : Nat} {S : Ss} (M : Sm 65 w g S) :
    Calls Try.prog 16 #[.pointer (some ⟨g, 0, none⟩)] w fun e w' => e = .returned (.bool (decide (S.st = 3 ∨ S.st = 4))) ∧ w' = w := by
  have c3 : w.cell? ⟨g, 3, none⟩ = some (.int .i64 S.st) := M.ce 3
  generalize S.st = st at *
  go_enter Try.func16, Try.ntmps16
  go_wp2_with fail
  all_goals
    go_ret
    refine ⟨?_, rfl⟩
    rename_i h
    by_cases h4 : st = 4 <;> simp [h, h4]
theorem infoS : (Try.prog.info? 42).map (·.size) = some 3 := by kernel_rfl
theorem fin_say {fn : Func} {p : Tmp} (h : fn.results = #[.cell p 42]) (tm : Array Value) (x : World) (n : Nat) (a b c : Value) (hn : x.heap.size = n) (hp : tm.getD p undef = .pointer (some ⟨n, 0, none⟩)) {Q : Ending → World → Prop}
    (q : Q (.returned (.agg #[a, b, c])) (x.alloc (.cells #[a, b, c] 42))) : bodyPost Try.prog fn Q .ret ⟨tm, []⟩ (x.alloc (.cells #[a, b, c] 42)) := by
  subst hn
  exact bodyPost_ret (v := .agg #[a, b, c]) (results_cell_row (fn := fn) h _ _ x.heap.size 42 _ _ _ hp (Kb.h1_0 x _) Try.underlying42 rfl infoS) rfl q
theorem new_good {r e a : Int} (h : isS r e a = true) (w : World) : Calls Try.prog 10 #[.int .i64 r, .int .i64 e, .int .i64 a] w fun e' w' => e' = .returned (.tuple #[.pointer (some ⟨w.heap.size, 0, none⟩), .int .i64 0]) ∧ Sm 65 w' w.heap.size (fresh r e a) ∧ Below w.heap.size w w' := by
  simp [isS] at h
  obtain ⟨⟨⟨⟨h0, h1⟩, h2⟩, h3⟩, h4⟩ := h
  have k1 : ¬ e < 0 := by omega
  have k2 : ¬ 100000 < e := by omega
  have k3 : ¬ a < 1 := by omega
  have k4 : ¬ 100000 < a := by omega
  rcases h0 with rfl | rfl
  · go_enter Try.func10, Try.ntmps10
    go_wp2_with fail
    go_ret2
    exact ⟨rfl, Kb.h1_0 w _, Kb.below_one w _⟩
  · go_enter Try.func10, Try.ntmps10
    go_wp2_with fail
    go_ret2
    exact ⟨rfl, Kb.h1_0 w _, Kb.below_one w _⟩
theorem new_bad {r e a : Int} (h : isS r e a = false) (w : World) : Calls Try.prog 10 #[.int .i64 r, .int .i64 e, .int .i64 a] w fun e' w' => e' = .returned (.tuple #[.pointer none, .int .i64 1]) ∧ w' = w := by
  have hh : (¬ r = 1 ∧ ¬ r = 2) ∨ ((r = 1 ∨ r = 2) ∧ (e < 0 ∨ (0 ≤ e ∧ 100000 < e) ∨ (0 ≤ e ∧ e ≤ 100000 ∧ a < 1) ∨ (0 ≤ e ∧ e ≤ 100000 ∧ 1 ≤ a ∧ 100000 < a))) := by
    by_cases h0 : (r = 1 ∨ r = 2) ∧ 0 ≤ e ∧ e ≤ 100000 ∧ 1 ≤ a ∧ a ≤ 100000
    · exfalso; simp [isS] at h; omega
    · omega
  clear h
  rcases hh with ⟨h1, h2⟩ | ⟨rfl | rfl, hh⟩
  · have k1 : (r != 1) = true := by simpa using h1
    have k2 : (r != 2) = true := by simpa using h2
    go_enter Try.func10, Try.ntmps10
    go_wp2_with fail
    go_ret2
    exact ⟨rfl, rfl⟩
  · rcases hh with h1 | ⟨h0, h1⟩ | ⟨h0, h1, h2⟩ | ⟨h0, h1, h2, h3⟩
    · go_enter Try.func10, Try.ntmps10
      go_wp2_with fail
      go_ret2
      exact ⟨rfl, rfl⟩
    · go_enter Try.func10, Try.ntmps10
      go_wp2_with fail
      go_ret2
      exact ⟨rfl, rfl⟩
    · go_enter Try.func10, Try.ntmps10
      go_wp2_with fail
      go_ret2
      exact ⟨rfl, rfl⟩
    · go_enter Try.func10, Try.ntmps10
      go_wp2_with fail
      go_ret2
      exact ⟨rfl, rfl⟩
  · rcases hh with h1 | ⟨h0, h1⟩ | ⟨h0, h1, h2⟩ | ⟨h0, h1, h2, h3⟩
    · go_enter Try.func10, Try.ntmps10
      go_wp2_with fail
      go_ret2
      exact ⟨rfl, rfl⟩
    · go_enter Try.func10, Try.ntmps10
      go_wp2_with fail
      go_ret2
      exact ⟨rfl, rfl⟩
    · go_enter Try.func10, Try.ntmps10
      go_wp2_with fail
      go_ret2
      exact ⟨rfl, rfl⟩
    · go_enter Try.func10, Try.ntmps10
      go_wp2_with fail
      go_ret2
      exact ⟨rfl, rfl⟩
theorem down_any {w : World} {g : Nat} {S : Ss} (M : Sm 65 w g S) :
    Calls Try.prog 31 #[.pointer (some ⟨g, 0, none⟩)] w fun e w' => e = .returned (.tuple #[]) ∧ Sm 65 w' g (down S) ∧ Fr [g] w w' := by
  have c3 : w.cell? ⟨g, 3, none⟩ = some (.int .i64 S.st) := M.ce 3
  have f3 := M.fz 3
  go_enter Try.func31, Try.ntmps31
  go_wp2
  go_end0
  exact ⟨rfl, M.set3 0, (Fr.refl _ _).set (.inl (by simp)) _ _⟩
theorem came_any {w : World} {g : Nat} {S : Ss} (M : Sm 65 w g S) :
    Calls Try.prog 39 #[.pointer (some ⟨g, 0, none⟩)] w fun e w' => e = .returned (.tuple #[]) ∧ Sm 65 w' g (heard S) ∧ Fr [g] w w' := by
  obtain ⟨r, e, a, st, wa, qu, tr⟩ := S
  have c3 : w.cell? ⟨g, 3, none⟩ = some (.int .i64 st) := M.ce 3
  have c5 : w.cell? ⟨g, 5, none⟩ = some (.int .i64 qu) := M.ce 5
  have f5 := M.fz 5
  by_cases h : st = 3
  · subst h
    go_enter Try.func39, Try.ntmps39
    go_wp2_with fail
    go_end0
    exact ⟨rfl, M.set5 0, (Fr.refl _ _).set (.inl (by simp)) _ _⟩
  · have HE : heard ⟨r, e, a, st, wa, qu, tr⟩ = ⟨r, e, a, st, wa, qu, tr⟩ := if_neg h
    rw [HE]
    clear HE
    go_enter Try.func39, Try.ntmps39
    go_wp2_with fail
    go_end0
    exact ⟨rfl, M, Fr.refl _ _⟩
theorem heard_any {w : World} {g : Nat} {S : Ss} (M : Sm 65 w g S) :
    Calls Try.prog 32 #[.pointer (some ⟨g, 0, none⟩)] w fun e w' => e = .returned (.tuple #[]) ∧ Sm 65 w' g (heard S) ∧ Fr [g] w w' := by
  go_enter Try.func32, Try.ntmps32
  go_wp2_with fail
  refine (came_any M).mono ?_
  rintro e x ⟨rfl, Mx, Fx⟩
  have HM : Hid (Sm 65 x g (heard S)) := Mx
  have HF : Hid (Fr [g] w x) := Fx
  clear Mx Fx
  go_wp2_with fail
  go_end0
  exact ⟨rfl, HM.out, HF.out⟩
theorem fin_set {fn : Func} {p : Tmp} (h : fn.results = #[.cell p 42]) (tm : Array Value) (x : World) (n : Nat) (u v z a b c : Value) (hx : x.heap[n]? = some (.cells #[u, v, z] 42)) (hp : tm.getD p undef = .pointer (some ⟨n, 0, none⟩)) {Q : Ending → World → Prop}
    (q : Q (.returned (.agg #[a, b, c])) (((x.setCell ⟨n, 0, none⟩ a).setCell ⟨n, 1, none⟩ b).setCell ⟨n, 2, none⟩ c)) : bodyPost Try.prog fn Q .ret ⟨tm, []⟩ (((x.setCell ⟨n, 0, none⟩ a).setCell ⟨n, 1, none⟩ b).setCell ⟨n, 2, none⟩ c) :=
  bodyPost_ret (v := .agg #[a, b, c]) (results_cell_row (fn := fn) h _ _ n 42 _ _ _ hp (setCell_heap (setCell_heap (setCell_heap hx 0 a) 1 b) 2 c) Try.underlying42 rfl infoS) rfl q
theorem cells3 {x : World} {n : Nat} {u v z : Value} (hx : x.heap[n]? = some (.cells #[u, v, z] 42)) : x.cell? ⟨n, 0, none⟩ = some u ∧ x.cell? ⟨n, 1, none⟩ = some v ∧ x.cell? ⟨n, 2, none⟩ = some z ∧ ∀ o, x.frozen? ⟨n, o, none⟩ = false := by
  refine ⟨?_, ?_, ?_, ?_⟩
  · simp [World.cell?, hx]
  · simp [World.cell?, hx]
  · simp [World.cell?, hx]
  · intro o; simp [World.frozen?, hx]
theorem up_any {w : World} {g : Nat} {S : Ss} (M : Sm 65 w g S) :
    Calls Try.prog 29 #[.pointer (some ⟨g, 0, none⟩)] w fun e w' => e = .returned (sayV (up2 S)) ∧ Sm 65 w' g (up1 S) ∧ Fr [g] w w' := by
  obtain ⟨r, e, a, st, wa, qu, tr⟩ := S
  have lt := M.lt
  have ne : w.heap.size ≠ g := by omega
  have M1 : Sm 65 (w.alloc (Obj.cells #[Value.string ⟨#[]⟩, Value.string ⟨#[]⟩, Value.bool false] 42)) g ⟨r, e, a, st, wa, qu, tr⟩ := M.alloc _
  have F1 : Fr [g] w (w.alloc (Obj.cells #[Value.string ⟨#[]⟩, Value.string ⟨#[]⟩, Value.bool false] 42)) := (Fr.refl _ _).alloc _
  have d0 : (w.alloc (Obj.cells #[Value.string ⟨#[]⟩, Value.string ⟨#[]⟩, Value.bool false] 42)).cell? ⟨g, 0, none⟩ = some (.int .i64 r) := M1.ce 0
  have f0 := M1.fz 0
  have c0 : w.cell? ⟨g, 0, none⟩ = some (.int .i64 r) := M.ce 0
  have e0 := M.fz 0
  have d3 : (w.alloc (Obj.cells #[Value.string ⟨#[]⟩, Value.string ⟨#[]⟩, Value.bool false] 42)).cell? ⟨g, 3, none⟩ = some (.int .i64 st) := M1.ce 3
  have f3 := M1.fz 3
  have c3 : w.cell? ⟨g, 3, none⟩ = some (.int .i64 st) := M.ce 3
  have e3 := M.fz 3
  have d4 : (w.alloc (Obj.cells #[Value.string ⟨#[]⟩, Value.string ⟨#[]⟩, Value.bool false] 42)).cell? ⟨g, 4, none⟩ = some (.int .i64 wa) := M1.ce 4
  have f4 := M1.fz 4
  have c4 : w.cell? ⟨g, 4, none⟩ = some (.int .i64 wa) := M.ce 4
  have e4 := M.fz 4
  by_cases hr : r = 1
  · subst hr
    go_enter Try.func29, Try.ntmps29
    go_wp2_with fail
    exact fin_say rfl _ _ _ _ _ _ (by simp) rfl ⟨rfl, (M.set3 1).alloc _, ((Fr.refl _ _).set (.inl (by simp)) _ _).alloc _⟩
  · have hU : Hid (up1 ⟨r, e, a, st, wa, qu, tr⟩ = ⟨r, e, a, 2, 0, qu, tr⟩ ∧ up2 ⟨r, e, a, st, wa, qu, tr⟩ = asks t001) := ⟨if_neg hr, if_neg hr⟩
    rw [hU.out.1, hU.out.2]
    have hr2 : (r == 1) = false := by simpa using hr
    go_enter Try.func29, Try.ntmps29
    go_wp2_with fail
    exact fin_say rfl _ _ _ _ _ _ (by simp) rfl ⟨rfl, ((M.set3 2).set4 0).alloc _, (((Fr.refl _ _).set (.inl (by simp)) _ _).set (.inl (by simp)) _ _).alloc _⟩
theorem asked_any {w : World} {g : Nat} {S : Ss} (M : Sm 65 w g S) (c : ByteArray) :
    Calls Try.prog 33 #[.pointer (some ⟨g, 0, none⟩), .string c] w fun e w' => e = .returned (sayV (asked2 S c)) ∧ Sm 65 w' g (asked1 S c) ∧ Fr [g] w w' := by
  obtain ⟨r, e, a, st, wa, qu, tr⟩ := S
  have lt := M.lt
  have ne : w.heap.size ≠ g := by omega
  have M1 : Sm 65 (w.alloc (Obj.cells #[Value.string ⟨#[]⟩, Value.string ⟨#[]⟩, Value.bool false] 42)) g ⟨r, e, a, st, wa, qu, tr⟩ := M.alloc _
  have F1 : Fr [g] w (w.alloc (Obj.cells #[Value.string ⟨#[]⟩, Value.string ⟨#[]⟩, Value.bool false] 42)) := (Fr.refl _ _).alloc _
  have d0 : (w.alloc (Obj.cells #[Value.string ⟨#[]⟩, Value.string ⟨#[]⟩, Value.bool false] 42)).cell? ⟨g, 0, none⟩ = some (.int .i64 r) := M1.ce 0
  have f0 := M1.fz 0
  have c0 : w.cell? ⟨g, 0, none⟩ = some (.int .i64 r) := M.ce 0
  have e0 := M.fz 0
  have d3 : (w.alloc (Obj.cells #[Value.string ⟨#[]⟩, Value.string ⟨#[]⟩, Value.bool false] 42)).cell? ⟨g, 3, none⟩ = some (.int .i64 st) := M1.ce 3
  have f3 := M1.fz 3
  have c3 : w.cell? ⟨g, 3, none⟩ = some (.int .i64 st) := M.ce 3
  have e3 := M.fz 3
  by_cases h0 : st = 0
  · subst h0
    go_enter Try.func33, Try.ntmps33
    go_wp2_with fail
    exact fin_say rfl _ _ _ _ _ _ (by simp) rfl ⟨rfl, M.alloc _, (Fr.refl _ _).alloc _⟩
  · have hU : Hid (asked1 ⟨r, e, a, st, wa, qu, tr⟩ c = heard (grant1 ⟨r, e, a, st, wa, qu, tr⟩ c) ∧ asked2 ⟨r, e, a, st, wa, qu, tr⟩ c = ⟨c, grant2 ⟨r, e, a, st, wa, qu, tr⟩ c, false⟩) := ⟨if_neg h0, if_neg h0⟩
    rw [hU.out.1, hU.out.2]
    clear hU
    have h02 : (st == 0) = false := by simpa using h0
    obtain ⟨G1, hG1⟩ : ∃ G1, Hid (grant1 ⟨r, e, a, st, wa, qu, tr⟩ c = G1) := ⟨_, rfl⟩
    obtain ⟨G2, hG2⟩ : ∃ G2, Hid (grant2 ⟨r, e, a, st, wa, qu, tr⟩ c = G2) := ⟨_, rfl⟩
    rw [hG1.out, hG2.out]
    rcases codes c with rfl | rfl | rfl | rfl | ⟨h1, h2, h3, h4⟩
    · by_cases hr : r = 1
      · subst hr
        have E1 : G1 = ⟨1, e, a, 3, wa, qu, tr⟩ := by rw [← hG1.out]; first | rfl | simp [grant1, t_ne] | simp [grant1, t_ne, hr]
        have E2 : G2 = t00 := by rw [← hG2.out]; first | rfl | simp [grant2, t_ne] | simp [grant2, t_ne, hr]
        subst E1 E2
        clear hG1 hG2
        unfold t001
        go_enter Try.func33, Try.ntmps33
        go_wp2_with fail
        refine (came_any ((M.set3 3).alloc _)).mono ?_
        rintro e y ⟨rfl, My, Fy⟩
        have hy := res_at (by simp) Fy ne
        have Fv : Hid (Fr [g] w y) := (((Fr.refl _ _).set (.inl (by simp)) _ _).alloc _).trans Fy
        have HN : Hid (Sm 65 y g _) := My
        obtain ⟨k0, k1, k2, kf⟩ := cells3 hy
        have kf0 := kf 0
        have kf1 := kf 1
        have kf2 := kf 2
        clear kf My Fy
        go_wp2_with fail
        exact fin_set rfl _ _ _ _ _ _ _ _ _ hy rfl ⟨rfl, sm_set3 HN.out ne _ _ _, fr_set3 Fv.out (Nat.le_refl _) _ _ _⟩
      · have hr2 : (r == 1) = false := by simpa using hr
        have E1 : G1 = ⟨r, e, a, st, wa, qu, tr⟩ := by rw [← hG1.out]; simp [grant1, t_ne, hr]
        have E2 : G2 = t12 := by rw [← hG2.out]; simp [grant2, t_ne, hr]
        subst E1 E2
        clear hG1 hG2
        unfold t001
        go_enter Try.func33, Try.ntmps33
        go_wp2_with fail
        refine (came_any (M.alloc _)).mono ?_
        rintro e y ⟨rfl, My, Fy⟩
        have hy := res_at (by simp) Fy ne
        have Fv : Hid (Fr [g] w y) := ((Fr.refl _ _).alloc _).trans Fy
        have HN : Hid (Sm 65 y g _) := My
        obtain ⟨k0, k1, k2, kf⟩ := cells3 hy
        have kf0 := kf 0
        have kf1 := kf 1
        have kf2 := kf 2
        clear kf My Fy
        go_wp2_with fail
        exact fin_set rfl _ _ _ _ _ _ _ _ _ hy rfl ⟨rfl, sm_set3 HN.out ne _ _ _, fr_set3 Fv.out (Nat.le_refl _) _ _ _⟩
    · have E1 : G1 = ⟨r, e, a, 1, wa, qu, tr⟩ := by rw [← hG1.out]; first | rfl | simp [grant1, t_ne] | simp [grant1, t_ne, hr]
      have E2 : G2 = t00 := by rw [← hG2.out]; first | rfl | simp [grant2, t_ne] | simp [grant2, t_ne, hr]
      subst E1 E2
      clear hG1 hG2
      unfold t002
      go_enter Try.func33, Try.ntmps33
      go_wp2_with fail
      refine (came_any ((M.set3 1).alloc _)).mono ?_
      rintro e y ⟨rfl, My, Fy⟩
      have hy := res_at (by simp) Fy ne
      have Fv : Hid (Fr [g] w y) := (((Fr.refl _ _).set (.inl (by simp)) _ _).alloc _).trans Fy
      have HN : Hid (Sm 65 y g _) := My
      obtain ⟨k0, k1, k2, kf⟩ := cells3 hy
      have kf0 := kf 0
      have kf1 := kf 1
      have kf2 := kf 2
      clear kf My Fy
      go_wp2_with fail
      exact fin_set rfl _ _ _ _ _ _ _ _ _ hy rfl ⟨rfl, sm_set3 HN.out ne _ _ _, fr_set3 Fv.out (Nat.le_refl _) _ _ _⟩
    · have E1 : G1 = ⟨r, e, a, st, wa, qu, tr⟩ := by rw [← hG1.out]; first | rfl | simp [grant1, t_ne] | simp [grant1, t_ne, hr]
      have E2 : G2 = t00 := by rw [← hG2.out]; first | rfl | simp [grant2, t_ne] | simp [grant2, t_ne, hr]
      subst E1 E2
      clear hG1 hG2
      unfold t101
      go_enter Try.func33, Try.ntmps33
      go_wp2_with fail
      refine (came_any (M.alloc _)).mono ?_
      rintro e y ⟨rfl, My, Fy⟩
      have hy := res_at (by simp) Fy ne
      have Fv : Hid (Fr [g] w y) := ((Fr.refl _ _).alloc _).trans Fy
      have HN : Hid (Sm 65 y g _) := My
      obtain ⟨k0, k1, k2, kf⟩ := cells3 hy
      have kf0 := kf 0
      have kf1 := kf 1
      have kf2 := kf 2
      clear kf My Fy
      go_wp2_with fail
      exact fin_set rfl _ _ _ _ _ _ _ _ _ hy rfl ⟨rfl, sm_set3 HN.out ne _ _ _, fr_set3 Fv.out (Nat.le_refl _) _ _ _⟩
    · have E1 : G1 = ⟨r, e, a, st, wa, qu, tr⟩ := by rw [← hG1.out]; first | rfl | simp [grant1, t_ne] | simp [grant1, t_ne, hr]
      have E2 : G2 = t00 := by rw [← hG2.out]; first | rfl | simp [grant2, t_ne] | simp [grant2, t_ne, hr]
      subst E1 E2
      clear hG1 hG2
      unfold t301
      go_enter Try.func33, Try.ntmps33
      go_wp2_with fail
      refine (came_any (M.alloc _)).mono ?_
      rintro e y ⟨rfl, My, Fy⟩
      have hy := res_at (by simp) Fy ne
      have Fv : Hid (Fr [g] w y) := ((Fr.refl _ _).alloc _).trans Fy
      have HN : Hid (Sm 65 y g _) := My
      obtain ⟨k0, k1, k2, kf⟩ := cells3 hy
      have kf0 := kf 0
      have kf1 := kf 1
      have kf2 := kf 2
      clear kf My Fy
      go_wp2_with fail
      exact fin_set rfl _ _ _ _ _ _ _ _ _ hy rfl ⟨rfl, sm_set3 HN.out ne _ _ _, fr_set3 Fv.out (Nat.le_refl _) _ _ _⟩
    · have n1 : c ≠ t001 := ne_code h1
      have n2 : c ≠ t002 := ne_code h2
      have n3 : c ≠ t101 := ne_code h3
      have n4 : c ≠ t301 := ne_code h4
      have b1 : (c.toList == [48, 48, 49]) = false := by simpa using h1
      have b2 : (c.toList == [48, 48, 50]) = false := by simpa using h2
      have b3 : (c.toList == [49, 48, 49]) = false := by simpa using h3
      have b4 : (c.toList == [51, 48, 49]) = false := by simpa using h4
      have E1 : G1 = ⟨r, e, a, st, wa, qu, tr⟩ := by rw [← hG1.out]; simp [grant1, n1, n2, n3, n4]
      have E2 : G2 = t12 := by rw [← hG2.out]; simp [grant2, n1, n2, n3, n4]
      subst E1 E2
      clear hG1 hG2
      go_enter Try.func33, Try.ntmps33
      go_wp2_with fail
      refine (came_any (M.alloc _)).mono ?_
      rintro e y ⟨rfl, My, Fy⟩
      have hy := res_at (by simp) Fy ne
      have Fv : Hid (Fr [g] w y) := ((Fr.refl _ _).alloc _).trans Fy
      have HN : Hid (Sm 65 y g _) := My
      obtain ⟨k0, k1, k2, kf⟩ := cells3 hy
      have kf0 := kf 0
      have kf1 := kf 1
      have kf2 := kf 2
      clear kf My Fy
      go_wp2_with fail
      exact fin_set rfl _ _ _ _ _ _ _ _ _ hy rfl ⟨rfl, sm_set3 HN.out ne _ _ _, fr_set3 Fv.out (Nat.le_refl _) _ _ _⟩
theorem ansd_any {w : World} {g : Nat} {S : Ss} (M : Sm 65 w g S) (c b : ByteArray) :
    Calls Try.prog 34 #[.pointer (some ⟨g, 0, none⟩), .string c, .string b] w fun e w' => e = .returned (sayV no) ∧ Sm 65 w' g (ansd S c b) ∧ Fr [g] w w' := by
  obtain ⟨r, e, a, st, wa, qu, tr⟩ := S
  have lt := M.lt
  have ne : w.heap.size ≠ g := by omega
  have M1 : Sm 65 (w.alloc (Obj.cells #[Value.string ⟨#[]⟩, Value.string ⟨#[]⟩, Value.bool false] 42)) g ⟨r, e, a, st, wa, qu, tr⟩ := M.alloc _
  have F1 : Fr [g] w (w.alloc (Obj.cells #[Value.string ⟨#[]⟩, Value.string ⟨#[]⟩, Value.bool false] 42)) := (Fr.refl _ _).alloc _
  have d3 : (w.alloc (Obj.cells #[Value.string ⟨#[]⟩, Value.string ⟨#[]⟩, Value.bool false] 42)).cell? ⟨g, 3, none⟩ = some (.int .i64 st) := M1.ce 3
  have f3 := M1.fz 3
  have c3 : w.cell? ⟨g, 3, none⟩ = some (.int .i64 st) := M.ce 3
  have e3 := M.fz 3
  obtain ⟨G, hG⟩ : ∃ G, Hid (ansd0 ⟨r, e, a, st, wa, qu, tr⟩ c b = G) := ⟨_, rfl⟩
  have hU : Hid (ansd ⟨r, e, a, st, wa, qu, tr⟩ c b = heard G) := by show heard _ = _; rw [hG.out]
  rw [hU.out]
  clear hU
  by_cases h2 : st = 2
  · subst h2
    by_cases hc : c.toList = [48, 48, 49]
    · have hc1 := tl hc
      subst hc1
      by_cases hb : b.toList = [48, 48]
      · have hb1 := tl hb
        subst hb1
        clear hc hb
        go_enter Try.func34, Try.ntmps34
        go_wp2_with fail
        have HG : G = ⟨r, e, a, 3, wa, qu, tr⟩ := by rw [← hG.out]; first | rfl | (simp [ansd0, *]; done) | simp [ansd0, t001, t301, t00, *]
        subst HG
        refine (came_any ((M.set3 3).alloc _)).mono ?_
        rintro e y ⟨rfl, My, Fy⟩
        have hy := res_at (by simp) Fy ne
        have Fv : Hid (Fr [g] w y) := (((Fr.refl _ _).set (.inl (by simp)) _ _).alloc _).trans Fy
        have HN : Hid (Sm 65 y g _) := My
        obtain ⟨k0, k1, k2, kf⟩ := cells3 hy
        have kf0 := kf 0
        have kf1 := kf 1
        have kf2 := kf 2
        clear kf My Fy
        go_wp2_with fail
        exact fin_set rfl _ _ _ _ _ _ _ _ _ hy rfl ⟨rfl, sm_set3 HN.out ne _ _ _, fr_set3 Fv.out (Nat.le_refl _) _ _ _⟩
      · have hb2 : (b.toList == [48, 48]) = false := by simpa using hb
        have hb3 := ne_code hb
        clear hc
        go_enter Try.func34, Try.ntmps34
        go_wp2_with fail
        have HG : G = ⟨r, e, a, 2, wa, qu, tr⟩ := by rw [← hG.out]; first | rfl | (simp [ansd0, *]; done) | simp [ansd0, t001, t301, t00, *]
        subst HG
        refine (came_any (M.alloc _)).mono ?_
        rintro e y ⟨rfl, My, Fy⟩
        have hy := res_at (by simp) Fy ne
        have Fv : Hid (Fr [g] w y) := ((Fr.refl _ _).alloc _).trans Fy
        have HN : Hid (Sm 65 y g _) := My
        obtain ⟨k0, k1, k2, kf⟩ := cells3 hy
        have kf0 := kf 0
        have kf1 := kf 1
        have kf2 := kf 2
        clear kf My Fy
        go_wp2_with fail
        exact fin_set rfl _ _ _ _ _ _ _ _ _ hy rfl ⟨rfl, sm_set3 HN.out ne _ _ _, fr_set3 Fv.out (Nat.le_refl _) _ _ _⟩
    · have hc2 : (c.toList == [48, 48, 49]) = false := by simpa using hc
      have hc3 := ne_code hc
      go_enter Try.func34, Try.ntmps34
      go_wp2_with fail
      have HG : G = ⟨r, e, a, 2, wa, qu, tr⟩ := by rw [← hG.out]; first | rfl | (simp [ansd0, *]; done) | simp [ansd0, t001, t301, t00, *]
      subst HG
      refine (came_any (M.alloc _)).mono ?_
      rintro e y ⟨rfl, My, Fy⟩
      have hy := res_at (by simp) Fy ne
      have Fv : Hid (Fr [g] w y) := ((Fr.refl _ _).alloc _).trans Fy
      have HN : Hid (Sm 65 y g _) := My
      obtain ⟨k0, k1, k2, kf⟩ := cells3 hy
      have kf0 := kf 0
      have kf1 := kf 1
      have kf2 := kf 2
      clear kf My Fy
      go_wp2_with fail
      exact fin_set rfl _ _ _ _ _ _ _ _ _ hy rfl ⟨rfl, sm_set3 HN.out ne _ _ _, fr_set3 Fv.out (Nat.le_refl _) _ _ _⟩
  · by_cases h4 : st = 4
    · subst h4
      by_cases hc : c.toList = [51, 48, 49]
      · have hc1 := tl hc
        subst hc1
        clear hc
        go_enter Try.func34, Try.ntmps34
        go_wp2_with fail
        have HG : G = ⟨r, e, a, 3, wa, qu, tr⟩ := by rw [← hG.out]; first | rfl | (simp [ansd0, *]; done) | simp [ansd0, t001, t301, t00, *]
        subst HG
        refine (came_any ((M.set3 3).alloc _)).mono ?_
        rintro e y ⟨rfl, My, Fy⟩
        have hy := res_at (by simp) Fy ne
        have Fv : Hid (Fr [g] w y) := (((Fr.refl _ _).set (.inl (by simp)) _ _).alloc _).trans Fy
        have HN : Hid (Sm 65 y g _) := My
        obtain ⟨k0, k1, k2, kf⟩ := cells3 hy
        have kf0 := kf 0
        have kf1 := kf 1
        have kf2 := kf 2
        clear kf My Fy
        go_wp2_with fail
        exact fin_set rfl _ _ _ _ _ _ _ _ _ hy rfl ⟨rfl, sm_set3 HN.out ne _ _ _, fr_set3 Fv.out (Nat.le_refl _) _ _ _⟩
      · have hc2 : (c.toList == [51, 48, 49]) = false := by simpa using hc
        have hc3 := ne_code hc
        go_enter Try.func34, Try.ntmps34
        go_wp2_with fail
        have HG : G = ⟨r, e, a, 4, wa, qu, tr⟩ := by rw [← hG.out]; first | rfl | (simp [ansd0, *]; done) | simp [ansd0, t001, t301, t00, *]
        subst HG
        refine (came_any (M.alloc _)).mono ?_
        rintro e y ⟨rfl, My, Fy⟩
        have hy := res_at (by simp) Fy ne
        have Fv : Hid (Fr [g] w y) := ((Fr.refl _ _).alloc _).trans Fy
        have HN : Hid (Sm 65 y g _) := My
        obtain ⟨k0, k1, k2, kf⟩ := cells3 hy
        have kf0 := kf 0
        have kf1 := kf 1
        have kf2 := kf 2
        clear kf My Fy
        go_wp2_with fail
        exact fin_set rfl _ _ _ _ _ _ _ _ _ hy rfl ⟨rfl, sm_set3 HN.out ne _ _ _, fr_set3 Fv.out (Nat.le_refl _) _ _ _⟩
    · have g2 : (st == 2) = false := by simpa using h2
      have g4 : (st == 4) = false := by simpa using h4
      go_enter Try.func34, Try.ntmps34
      go_wp2_with fail
      have HG : G = ⟨r, e, a, st, wa, qu, tr⟩ := by rw [← hG.out]; first | rfl | (simp [ansd0, *]; done) | simp [ansd0, t001, t301, t00, *]
      subst HG
      refine (came_any (M.alloc _)).mono ?_
      rintro e y ⟨rfl, My, Fy⟩
      have hy := res_at (by simp) Fy ne
      have Fv : Hid (Fr [g] w y) := ((Fr.refl _ _).alloc _).trans Fy
      have HN : Hid (Sm 65 y g _) := My
      obtain ⟨k0, k1, k2, kf⟩ := cells3 hy
      have kf0 := kf 0
      have kf1 := kf 1
      have kf2 := kf 2
      clear kf My Fy
      go_wp2_with fail
      exact fin_set rfl _ _ _ _ _ _ _ _ _ hy rfl ⟨rfl, sm_set3 HN.out ne _ _ _, fr_set3 Fv.out (Nat.le_refl _) _ _ _⟩
set_option maxHeartbeats 3200000 in
theorem tick_any {w : World} {g : Nat} {S : Ss} (M : Sm 65 w g S) (ok : OK S) :
    Calls Try.prog 18 #[.pointer (some ⟨g, 0, none⟩)] w fun e w' => e = .returned (sayV (tick2 S)) ∧ Sm 65 w' g (tick1 S) ∧ Fr [g] w w' := by
  obtain ⟨r, e, a, st, wa, qu, tr⟩ := S
  have lt := M.lt
  have ne : w.heap.size ≠ g := by omega
  have M1 : Sm 65 (w.alloc (Obj.cells #[Value.string ⟨#[]⟩, Value.string ⟨#[]⟩, Value.bool false] 42)) g ⟨r, e, a, st, wa, qu, tr⟩ := M.alloc _
  have F1 : Fr [g] w (w.alloc (Obj.cells #[Value.string ⟨#[]⟩, Value.string ⟨#[]⟩, Value.bool false] 42)) := (Fr.refl _ _).alloc _
  have d0 : (w.alloc (Obj.cells #[Value.string ⟨#[]⟩, Value.string ⟨#[]⟩, Value.bool false] 42)).cell? ⟨g, 0, none⟩ = some (.int .i64 r) := M1.ce 0
  have f0 := M1.fz 0
  have c0 : w.cell? ⟨g, 0, none⟩ = some (.int .i64 r) := M.ce 0
  have e0 := M.fz 0
  have d1 : (w.alloc (Obj.cells #[Value.string ⟨#[]⟩, Value.string ⟨#[]⟩, Value.bool false] 42)).cell? ⟨g, 1, none⟩ = some (.int .i64 e) := M1.ce 1
  have f1 := M1.fz 1
  have c1 : w.cell? ⟨g, 1, none⟩ = some (.int .i64 e) := M.ce 1
  have e1 := M.fz 1
  have d2 : (w.alloc (Obj.cells #[Value.string ⟨#[]⟩, Value.string ⟨#[]⟩, Value.bool false] 42)).cell? ⟨g, 2, none⟩ = some (.int .i64 a) := M1.ce 2
  have f2 := M1.fz 2
  have c2 : w.cell? ⟨g, 2, none⟩ = some (.int .i64 a) := M.ce 2
  have e2 := M.fz 2
  have d3 : (w.alloc (Obj.cells #[Value.string ⟨#[]⟩, Value.string ⟨#[]⟩, Value.bool false] 42)).cell? ⟨g, 3, none⟩ = some (.int .i64 st) := M1.ce 3
  have f3 := M1.fz 3
  have c3 : w.cell? ⟨g, 3, none⟩ = some (.int .i64 st) := M.ce 3
  have e3 := M.fz 3
  have d4 : (w.alloc (Obj.cells #[Value.string ⟨#[]⟩, Value.string ⟨#[]⟩, Value.bool false] 42)).cell? ⟨g, 4, none⟩ = some (.int .i64 wa) := M1.ce 4
  have f4 := M1.fz 4
  have c4 : w.cell? ⟨g, 4, none⟩ = some (.int .i64 wa) := M.ce 4
  have e4 := M.fz 4
  have d5 : (w.alloc (Obj.cells #[Value.string ⟨#[]⟩, Value.string ⟨#[]⟩, Value.bool false] 42)).cell? ⟨g, 5, none⟩ = some (.int .i64 qu) := M1.ce 5
  have f5 := M1.fz 5
  have c5 : w.cell? ⟨g, 5, none⟩ = some (.int .i64 qu) := M.ce 5
  have e5 := M.fz 5
  have d6 : (w.alloc (Obj.cells #[Value.string ⟨#[]⟩, Value.string ⟨#[]⟩, Value.bool false] 42)).cell? ⟨g, 6, none⟩ = some (.int .i64 tr) := M1.ce 6
  have f6 := M1.fz 6
  have c6 : w.cell? ⟨g, 6, none⟩ = some (.int .i64 tr) := M.ce 6
  have e6 := M.fz 6
  have o1 := ok.r
  have o2 := ok.e0
  have o3 := ok.e1
  have o4 := ok.a1
  have o5 := ok.a2
  have o6 := ok.w0
  have o7 := ok.w1
  have o8 := ok.q0
  have o9 := ok.q1
  have oa := ok.q2
  have ob := ok.t0
  have oc := ok.q
  have hs := ok.s
  clear ok
  dsimp only at *
  rcases hs with rfl | rfl | rfl | rfl | rfl
  · rw [show tick1 ⟨r, e, a, 0, wa, qu, tr⟩ = ⟨r, e, a, 0, wa, qu, tr⟩ from rfl, show tick2 ⟨r, e, a, 0, wa, qu, tr⟩ = no from rfl]
    clear o7 o9 ob oc o1
    go_enter Try.func18, Try.ntmps18
    go_wp2_with fail
    exact fin_say rfl _ _ _ _ _ _ (by simp) rfl ⟨rfl, M.alloc _, (Fr.refl _ _).alloc _⟩
  · rw [show tick1 ⟨r, e, a, 1, wa, qu, tr⟩ = ⟨r, e, a, 1, wa, qu, tr⟩ from rfl, show tick2 ⟨r, e, a, 1, wa, qu, tr⟩ = no from rfl]
    clear o7 o9 ob oc o1
    go_enter Try.func18, Try.ntmps18
    go_wp2_with fail
    exact fin_say rfl _ _ _ _ _ _ (by simp) rfl ⟨rfl, M.alloc _, (Fr.refl _ _).alloc _⟩
  · have w9 : wa ≤ 100000 := by have := o7 (.inl rfl); omega
    by_cases hw : wa + 1 < a
    · have hq : (wa + 1 == a) = false := by simp; omega
      have hU : Hid (tick1 ⟨r, e, a, 2, wa, qu, tr⟩ = ⟨r, e, a, 2, wa + 1, qu, tr⟩ ∧ tick2 ⟨r, e, a, 2, wa, qu, tr⟩ = no) := by constructor <;> simp [tick1, tick2, hw]
      rw [hU.out.1, hU.out.2]
      clear hU o7 o9 ob oc o1
      go_enter Try.func18, Try.ntmps18
      go_wp2_with fail
      obtain ⟨y, hy⟩ : ∃ y, (w.setCell ⟨g, 4, none⟩ (.int .i64 (wa + 1))).alloc (Obj.cells #[Value.string ⟨#[]⟩, Value.string ⟨#[]⟩, Value.bool false] 42) = y := ⟨_, rfl⟩
      have HM : Hid (Sm 65 y g ⟨r, e, a, 2, wa + 1, qu, tr⟩) := hy ▸ (M.set4 (wa + 1)).alloc _
      have Fw : Hid (Fr [g] w y) := hy ▸ ((Fr.refl _ _).set (.inl (by simp)) _ _).alloc _
      have hx : y.heap[w.heap.size]? = some (Obj.cells #[Value.string ⟨#[]⟩, Value.string ⟨#[]⟩, Value.bool false] 42) := by
        rw [← hy]
        have := Kb.h1_0 (w.setCell ⟨g, 4, none⟩ (.int .i64 (wa + 1))) (Obj.cells #[Value.string ⟨#[]⟩, Value.string ⟨#[]⟩, Value.bool false] 42)
        simpa using this
      rw [hy]
      clear hy M1 F1 M lt d0 d1 d2 d3 d4 d5 d6 f0 f1 f2 f3 f4 f5 f6 c0 c1 c2 c3 c4 c5 c6 e0 e1 e2 e3 e4 e5 e6
      have q0 : y.cell? ⟨g, 0, none⟩ = some (.int .i64 (r)) := HM.out.ce 0
      have z0 := HM.out.fz 0
      have q1 : y.cell? ⟨g, 1, none⟩ = some (.int .i64 (e)) := HM.out.ce 1
      have z1 := HM.out.fz 1
      have q2 : y.cell? ⟨g, 2, none⟩ = some (.int .i64 (a)) := HM.out.ce 2
      have z2 := HM.out.fz 2
      have q3 : y.cell? ⟨g, 3, none⟩ = some (.int .i64 (2)) := HM.out.ce 3
      have z3 := HM.out.fz 3
      have q4 : y.cell? ⟨g, 4, none⟩ = some (.int .i64 (wa + 1)) := HM.out.ce 4
      have z4 := HM.out.fz 4
      have q5 : y.cell? ⟨g, 5, none⟩ = some (.int .i64 (qu)) := HM.out.ce 5
      have z5 := HM.out.fz 5
      have q6 : y.cell? ⟨g, 6, none⟩ = some (.int .i64 (tr)) := HM.out.ce 6
      have z6 := HM.out.fz 6
      obtain ⟨k0, k1, k2, kf⟩ := cells3 hx
      have kf0 := kf 0
      have kf1 := kf 1
      have kf2 := kf 2
      clear kf
      go_quiet (fail)
      go_wp2_with fail
      exact fin_set rfl _ _ _ _ _ _ _ _ _ (heap_drewN hx _) rfl ⟨rfl, sm_set3 (sm_drewN HM.out _) ne _ _ _, fr_set3 (fr_drewN Fw.out _) (Nat.le_refl _) _ _ _⟩
    · have hq0 : wa + 1 = a := by have := o7 (.inl rfl); omega
      have hq : (wa + 1 == a) = true := by simpa using hq0
      clear hq0
      have hU : Hid (tick1 ⟨r, e, a, 2, wa, qu, tr⟩ = ⟨r, e, a, 2, 0, qu, tr⟩ ∧ tick2 ⟨r, e, a, 2, wa, qu, tr⟩ = asks t001) := by constructor <;> simp [tick1, tick2, hw]
      rw [hU.out.1, hU.out.2]
      clear hU o7 o9 ob oc o1
      go_enter Try.func18, Try.ntmps18
      go_wp2_with fail
      obtain ⟨y, hy⟩ : ∃ y, (w.setCell ⟨g, 4, none⟩ (.int .i64 (wa + 1))).alloc (Obj.cells #[Value.string ⟨#[]⟩, Value.string ⟨#[]⟩, Value.bool false] 42) = y := ⟨_, rfl⟩
      have HM : Hid (Sm 65 y g ⟨r, e, a, 2, wa + 1, qu, tr⟩) := hy ▸ (M.set4 (wa + 1)).alloc _
      have Fw : Hid (Fr [g] w y) := hy ▸ ((Fr.refl _ _).set (.inl (by simp)) _ _).alloc _
      have hx : y.heap[w.heap.size]? = some (Obj.cells #[Value.string ⟨#[]⟩, Value.string ⟨#[]⟩, Value.bool false] 42) := by
        rw [← hy]
        have := Kb.h1_0 (w.setCell ⟨g, 4, none⟩ (.int .i64 (wa + 1))) (Obj.cells #[Value.string ⟨#[]⟩, Value.string ⟨#[]⟩, Value.bool false] 42)
        simpa using this
      rw [hy]
      clear hy M1 F1 M lt d0 d1 d2 d3 d4 d5 d6 f0 f1 f2 f3 f4 f5 f6 c0 c1 c2 c3 c4 c5 c6 e0 e1 e2 e3 e4 e5 e6
      have q0 : y.cell? ⟨g, 0, none⟩ = some (.int .i64 (r)) := HM.out.ce 0
      have z0 := HM.out.fz 0
      have q1 : y.cell? ⟨g, 1, none⟩ = some (.int .i64 (e)) := HM.out.ce 1
      have z1 := HM.out.fz 1
      have q2 : y.cell? ⟨g, 2, none⟩ = some (.int .i64 (a)) := HM.out.ce 2
      have z2 := HM.out.fz 2
      have q3 : y.cell? ⟨g, 3, none⟩ = some (.int .i64 (2)) := HM.out.ce 3
      have z3 := HM.out.fz 3
      have q4 : y.cell? ⟨g, 4, none⟩ = some (.int .i64 (wa + 1)) := HM.out.ce 4
      have z4 := HM.out.fz 4
      have q5 : y.cell? ⟨g, 5, none⟩ = some (.int .i64 (qu)) := HM.out.ce 5
      have z5 := HM.out.fz 5
      have q6 : y.cell? ⟨g, 6, none⟩ = some (.int .i64 (tr)) := HM.out.ce 6
      have z6 := HM.out.fz 6
      obtain ⟨k0, k1, k2, kf⟩ := cells3 hx
      have kf0 := kf 0
      have kf1 := kf 1
      have kf2 := kf 2
      clear kf
      go_quiet (fail)
      go_wp2_with fail
      exact fin_set rfl _ _ _ _ _ _ _ _ _ ((setCell_ne ne.symm _ _).trans (heap_drewN hx _)) rfl ⟨rfl, sm_set3 ((sm_drewN HM.out _).set4 (0)) ne _ _ _, fr_set3 ((fr_drewN Fw.out _).set (.inl (by simp)) _ _) (Nat.le_refl _) _ _ _⟩
  · by_cases hr : r = 1
    · subst hr
      rw [show tick1 ⟨1, e, a, 3, wa, qu, tr⟩ = ⟨1, e, a, 3, wa, qu, tr⟩ from rfl, show tick2 ⟨1, e, a, 3, wa, qu, tr⟩ = no from rfl]
      clear o7 o9 ob oc o1
      go_enter Try.func18, Try.ntmps18
      go_wp2_with fail
      exact fin_say rfl _ _ _ _ _ _ (by simp) rfl ⟨rfl, M.alloc _, (Fr.refl _ _).alloc _⟩
    · obtain rfl : r = 2 := by omega
      by_cases he : e = 0
      · subst he
        rw [show tick1 ⟨2, 0, a, 3, wa, qu, tr⟩ = ⟨2, 0, a, 3, wa, qu, tr⟩ from rfl, show tick2 ⟨2, 0, a, 3, wa, qu, tr⟩ = no from rfl]
        clear o7 o9 ob oc o1
        go_enter Try.func18, Try.ntmps18
        go_wp2_with fail
        exact fin_say rfl _ _ _ _ _ _ (by simp) rfl ⟨rfl, M.alloc _, (Fr.refl _ _).alloc _⟩
      · have he1 : 0 < e := by omega
        have hq9 := o9 rfl he rfl
        by_cases hw : qu + 1 < e
        · have hq : (qu + 1 == e) = false := by simp; omega
          have hU : Hid (tick1 ⟨2, e, a, 3, wa, qu, tr⟩ = ⟨2, e, a, 3, wa, qu + 1, tr⟩ ∧ tick2 ⟨2, e, a, 3, wa, qu, tr⟩ = no) := by constructor <;> simp [tick1, tick2, hw, he]
          rw [hU.out.1, hU.out.2]
          clear hU o7 o9 ob oc o1
          go_enter Try.func18, Try.ntmps18
          go_wp2_with fail
          obtain ⟨y, hy⟩ : ∃ y, (w.setCell ⟨g, 5, none⟩ (.int .i64 (qu + 1))).alloc (Obj.cells #[Value.string ⟨#[]⟩, Value.string ⟨#[]⟩, Value.bool false] 42) = y := ⟨_, rfl⟩
          have HM : Hid (Sm 65 y g ⟨2, e, a, 3, wa, qu + 1, tr⟩) := hy ▸ (M.set5 (qu + 1)).alloc _
          have Fw : Hid (Fr [g] w y) := hy ▸ ((Fr.refl _ _).set (.inl (by simp)) _ _).alloc _
          have hx : y.heap[w.heap.size]? = some (Obj.cells #[Value.string ⟨#[]⟩, Value.string ⟨#[]⟩, Value.bool false] 42) := by
            rw [← hy]
            have := Kb.h1_0 (w.setCell ⟨g, 5, none⟩ (.int .i64 (qu + 1))) (Obj.cells #[Value.string ⟨#[]⟩, Value.string ⟨#[]⟩, Value.bool false] 42)
            simpa using this
          rw [hy]
          clear hy M1 F1 M lt d0 d1 d2 d3 d4 d5 d6 f0 f1 f2 f3 f4 f5 f6 c0 c1 c2 c3 c4 c5 c6 e0 e1 e2 e3 e4 e5 e6
          have q0 : y.cell? ⟨g, 0, none⟩ = some (.int .i64 (2)) := HM.out.ce 0
          have z0 := HM.out.fz 0
          have q1 : y.cell? ⟨g, 1, none⟩ = some (.int .i64 (e)) := HM.out.ce 1
          have z1 := HM.out.fz 1
          have q2 : y.cell? ⟨g, 2, none⟩ = some (.int .i64 (a)) := HM.out.ce 2
          have z2 := HM.out.fz 2
          have q3 : y.cell? ⟨g, 3, none⟩ = some (.int .i64 (3)) := HM.out.ce 3
          have z3 := HM.out.fz 3
          have q4 : y.cell? ⟨g, 4, none⟩ = some (.int .i64 (wa)) := HM.out.ce 4
          have z4 := HM.out.fz 4
          have q5 : y.cell? ⟨g, 5, none⟩ = some (.int .i64 (qu + 1)) := HM.out.ce 5
          have z5 := HM.out.fz 5
          have q6 : y.cell? ⟨g, 6, none⟩ = some (.int .i64 (tr)) := HM.out.ce 6
          have z6 := HM.out.fz 6
          obtain ⟨k0, k1, k2, kf⟩ := cells3 hx
          have kf0 := kf 0
          have kf1 := kf 1
          have kf2 := kf 2
          clear kf
          go_quiet (fail)
          go_wp2_with fail
          exact fin_set rfl _ _ _ _ _ _ _ _ _ (heap_drewN hx _) rfl ⟨rfl, sm_set3 (sm_drewN HM.out _) ne _ _ _, fr_set3 (fr_drewN Fw.out _) (Nat.le_refl _) _ _ _⟩
        · have hq0 : qu + 1 = e := by omega
          have hq : (qu + 1 == e) = true := by simpa using hq0
          clear hq0
          have hU : Hid (tick1 ⟨2, e, a, 3, wa, qu, tr⟩ = ⟨2, e, a, 4, 0, qu + 1, 1⟩ ∧ tick2 ⟨2, e, a, 3, wa, qu, tr⟩ = asks t301) := by constructor <;> simp [tick1, tick2, hw, he]
          rw [hU.out.1, hU.out.2]
          clear hU o7 o9 ob oc o1
          go_enter Try.func18, Try.ntmps18
          go_wp2_with fail
          obtain ⟨y, hy⟩ : ∃ y, (w.setCell ⟨g, 5, none⟩ (.int .i64 (qu + 1))).alloc (Obj.cells #[Value.string ⟨#[]⟩, Value.string ⟨#[]⟩, Value.bool false] 42) = y := ⟨_, rfl⟩
          have HM : Hid (Sm 65 y g ⟨2, e, a, 3, wa, qu + 1, tr⟩) := hy ▸ (M.set5 (qu + 1)).alloc _
          have Fw : Hid (Fr [g] w y) := hy ▸ ((Fr.refl _ _).set (.inl (by simp)) _ _).alloc _
          have hx : y.heap[w.heap.size]? = some (Obj.cells #[Value.string ⟨#[]⟩, Value.string ⟨#[]⟩, Value.bool false] 42) := by
            rw [← hy]
            have := Kb.h1_0 (w.setCell ⟨g, 5, none⟩ (.int .i64 (qu + 1))) (Obj.cells #[Value.string ⟨#[]⟩, Value.string ⟨#[]⟩, Value.bool false] 42)
            simpa using this
          rw [hy]
          clear hy M1 F1 M lt d0 d1 d2 d3 d4 d5 d6 f0 f1 f2 f3 f4 f5 f6 c0 c1 c2 c3 c4 c5 c6 e0 e1 e2 e3 e4 e5 e6
          have q0 : y.cell? ⟨g, 0, none⟩ = some (.int .i64 (2)) := HM.out.ce 0
          have z0 := HM.out.fz 0
          have q1 : y.cell? ⟨g, 1, none⟩ = some (.int .i64 (e)) := HM.out.ce 1
          have z1 := HM.out.fz 1
          have q2 : y.cell? ⟨g, 2, none⟩ = some (.int .i64 (a)) := HM.out.ce 2
          have z2 := HM.out.fz 2
          have q3 : y.cell? ⟨g, 3, none⟩ = some (.int .i64 (3)) := HM.out.ce 3
          have z3 := HM.out.fz 3
          have q4 : y.cell? ⟨g, 4, none⟩ = some (.int .i64 (wa)) := HM.out.ce 4
          have z4 := HM.out.fz 4
          have q5 : y.cell? ⟨g, 5, none⟩ = some (.int .i64 (qu + 1)) := HM.out.ce 5
          have z5 := HM.out.fz 5
          have q6 : y.cell? ⟨g, 6, none⟩ = some (.int .i64 (tr)) := HM.out.ce 6
          have z6 := HM.out.fz 6
          obtain ⟨k0, k1, k2, kf⟩ := cells3 hx
          have kf0 := kf 0
          have kf1 := kf 1
          have kf2 := kf 2
          clear kf
          go_quiet (fail)
          go_wp2_with fail
          exact fin_set rfl _ _ _ _ _ _ _ _ _ ((setCell_ne ne.symm _ _).trans ((setCell_ne ne.symm _ _).trans ((setCell_ne ne.symm _ _).trans (heap_drewN hx _)))) rfl ⟨rfl, sm_set3 ((((sm_drewN HM.out _).set3 (4)).set6 (1)).set4 (0)) ne _ _ _, fr_set3 ((((fr_drewN Fw.out _).set (.inl (by simp)) _ _).set (.inl (by simp)) _ _).set (.inl (by simp)) _ _) (Nat.le_refl _) _ _ _⟩
  · have w9 : wa ≤ 100000 := by have := o7 (.inr rfl); omega
    have t9 := ob rfl
    have t8 := t9.2.1
    have t7 := t9.2.2
    clear t9
    by_cases hw : wa + 1 < a
    · have hU : Hid (tick1 ⟨r, e, a, 4, wa, qu, tr⟩ = ⟨r, e, a, 4, wa + 1, qu, tr⟩ ∧ tick2 ⟨r, e, a, 4, wa, qu, tr⟩ = no) := by constructor <;> simp [tick1, tick2, hw]
      rw [hU.out.1, hU.out.2]
      clear hU o7 o9 ob oc o1
      go_enter Try.func18, Try.ntmps18
      go_wp2_with fail
      obtain ⟨y, hy⟩ : ∃ y, (w.setCell ⟨g, 4, none⟩ (.int .i64 (wa + 1))).alloc (Obj.cells #[Value.string ⟨#[]⟩, Value.string ⟨#[]⟩, Value.bool false] 42) = y := ⟨_, rfl⟩
      have HM : Hid (Sm 65 y g ⟨r, e, a, 4, wa + 1, qu, tr⟩) := hy ▸ (M.set4 (wa + 1)).alloc _
      have Fw : Hid (Fr [g] w y) := hy ▸ ((Fr.refl _ _).set (.inl (by simp)) _ _).alloc _
      have hx : y.heap[w.heap.size]? = some (Obj.cells #[Value.string ⟨#[]⟩, Value.string ⟨#[]⟩, Value.bool false] 42) := by
        rw [← hy]
        have := Kb.h1_0 (w.setCell ⟨g, 4, none⟩ (.int .i64 (wa + 1))) (Obj.cells #[Value.string ⟨#[]⟩, Value.string ⟨#[]⟩, Value.bool false] 42)
        simpa using this
      rw [hy]
      clear hy M1 F1 M lt d0 d1 d2 d3 d4 d5 d6 f0 f1 f2 f3 f4 f5 f6 c0 c1 c2 c3 c4 c5 c6 e0 e1 e2 e3 e4 e5 e6
      have q0 : y.cell? ⟨g, 0, none⟩ = some (.int .i64 (r)) := HM.out.ce 0
      have z0 := HM.out.fz 0
      have q1 : y.cell? ⟨g, 1, none⟩ = some (.int .i64 (e)) := HM.out.ce 1
      have z1 := HM.out.fz 1
      have q2 : y.cell? ⟨g, 2, none⟩ = some (.int .i64 (a)) := HM.out.ce 2
      have z2 := HM.out.fz 2
      have q3 : y.cell? ⟨g, 3, none⟩ = some (.int .i64 (4)) := HM.out.ce 3
      have z3 := HM.out.fz 3
      have q4 : y.cell? ⟨g, 4, none⟩ = some (.int .i64 (wa + 1)) := HM.out.ce 4
      have z4 := HM.out.fz 4
      have q5 : y.cell? ⟨g, 5, none⟩ = some (.int .i64 (qu)) := HM.out.ce 5
      have z5 := HM.out.fz 5
      have q6 : y.cell? ⟨g, 6, none⟩ = some (.int .i64 (tr)) := HM.out.ce 6
      have z6 := HM.out.fz 6
      obtain ⟨k0, k1, k2, kf⟩ := cells3 hx
      have kf0 := kf 0
      have kf1 := kf 1
      have kf2 := kf 2
      clear kf
      go_quiet (fail)
      go_wp2_with fail
      exact fin_set rfl _ _ _ _ _ _ _ _ _ (heap_drewN hx _) rfl ⟨rfl, sm_set3 (sm_drewN HM.out _) ne _ _ _, fr_set3 (fr_drewN Fw.out _) (Nat.le_refl _) _ _ _⟩
    · by_cases ht : tr = 3
      · subst ht
        have hU : Hid (tick1 ⟨r, e, a, 4, wa, qu, 3⟩ = ⟨r, e, a, 0, wa + 1, qu, 3⟩ ∧ tick2 ⟨r, e, a, 4, wa, qu, 3⟩ = gone) := by constructor <;> simp [tick1, tick2, hw]
        rw [hU.out.1, hU.out.2]
        clear hU o7 o9 ob oc o1
        go_enter Try.func18, Try.ntmps18
        go_wp2_with fail
        obtain ⟨y, hy⟩ : ∃ y, (w.setCell ⟨g, 4, none⟩ (.int .i64 (wa + 1))).alloc (Obj.cells #[Value.string ⟨#[]⟩, Value.string ⟨#[]⟩, Value.bool false] 42) = y := ⟨_, rfl⟩
        have HM : Hid (Sm 65 y g ⟨r, e, a, 4, wa + 1, qu, 3⟩) := hy ▸ (M.set4 (wa + 1)).alloc _
        have Fw : Hid (Fr [g] w y) := hy ▸ ((Fr.refl _ _).set (.inl (by simp)) _ _).alloc _
        have hx : y.heap[w.heap.size]? = some (Obj.cells #[Value.string ⟨#[]⟩, Value.string ⟨#[]⟩, Value.bool false] 42) := by
          rw [← hy]
          have := Kb.h1_0 (w.setCell ⟨g, 4, none⟩ (.int .i64 (wa + 1))) (Obj.cells #[Value.string ⟨#[]⟩, Value.string ⟨#[]⟩, Value.bool false] 42)
          simpa using this
        rw [hy]
        clear hy M1 F1 M lt d0 d1 d2 d3 d4 d5 d6 f0 f1 f2 f3 f4 f5 f6 c0 c1 c2 c3 c4 c5 c6 e0 e1 e2 e3 e4 e5 e6
        have q0 : y.cell? ⟨g, 0, none⟩ = some (.int .i64 (r)) := HM.out.ce 0
        have z0 := HM.out.fz 0
        have q1 : y.cell? ⟨g, 1, none⟩ = some (.int .i64 (e)) := HM.out.ce 1
        have z1 := HM.out.fz 1
        have q2 : y.cell? ⟨g, 2, none⟩ = some (.int .i64 (a)) := HM.out.ce 2
        have z2 := HM.out.fz 2
        have q3 : y.cell? ⟨g, 3, none⟩ = some (.int .i64 (4)) := HM.out.ce 3
        have z3 := HM.out.fz 3
        have q4 : y.cell? ⟨g, 4, none⟩ = some (.int .i64 (wa + 1)) := HM.out.ce 4
        have z4 := HM.out.fz 4
        have q5 : y.cell? ⟨g, 5, none⟩ = some (.int .i64 (qu)) := HM.out.ce 5
        have z5 := HM.out.fz 5
        have q6 : y.cell? ⟨g, 6, none⟩ = some (.int .i64 (3)) := HM.out.ce 6
        have z6 := HM.out.fz 6
        obtain ⟨k0, k1, k2, kf⟩ := cells3 hx
        have kf0 := kf 0
        have kf1 := kf 1
        have kf2 := kf 2
        clear kf
        go_quiet (fail)
        go_wp2_with fail
        exact fin_set rfl _ _ _ _ _ _ _ _ _ ((setCell_ne ne.symm _ _).trans (heap_drewN hx _)) rfl ⟨rfl, sm_set3 ((sm_drewN HM.out _).set3 (0)) ne _ _ _, fr_set3 ((fr_drewN Fw.out _).set (.inl (by simp)) _ _) (Nat.le_refl _) _ _ _⟩
      · have ht2 : (tr == 3) = false := by simpa using ht
        have hU : Hid (tick1 ⟨r, e, a, 4, wa, qu, tr⟩ = ⟨r, e, a, 4, 0, qu, tr + 1⟩ ∧ tick2 ⟨r, e, a, 4, wa, qu, tr⟩ = asks t301) := by constructor <;> simp [tick1, tick2, hw, ht]
        rw [hU.out.1, hU.out.2]
        clear hU o7 o9 ob oc o1
        go_enter Try.func18, Try.ntmps18
        go_wp2_with fail
        obtain ⟨y, hy⟩ : ∃ y, (w.setCell ⟨g, 4, none⟩ (.int .i64 (wa + 1))).alloc (Obj.cells #[Value.string ⟨#[]⟩, Value.string ⟨#[]⟩, Value.bool false] 42) = y := ⟨_, rfl⟩
        have HM : Hid (Sm 65 y g ⟨r, e, a, 4, wa + 1, qu, tr⟩) := hy ▸ (M.set4 (wa + 1)).alloc _
        have Fw : Hid (Fr [g] w y) := hy ▸ ((Fr.refl _ _).set (.inl (by simp)) _ _).alloc _
        have hx : y.heap[w.heap.size]? = some (Obj.cells #[Value.string ⟨#[]⟩, Value.string ⟨#[]⟩, Value.bool false] 42) := by
          rw [← hy]
          have := Kb.h1_0 (w.setCell ⟨g, 4, none⟩ (.int .i64 (wa + 1))) (Obj.cells #[Value.string ⟨#[]⟩, Value.string ⟨#[]⟩, Value.bool false] 42)
          simpa using this
        rw [hy]
        clear hy M1 F1 M lt d0 d1 d2 d3 d4 d5 d6 f0 f1 f2 f3 f4 f5 f6 c0 c1 c2 c3 c4 c5 c6 e0 e1 e2 e3 e4 e5 e6
        have q0 : y.cell? ⟨g, 0, none⟩ = some (.int .i64 (r)) := HM.out.ce 0
        have z0 := HM.out.fz 0
        have q1 : y.cell? ⟨g, 1, none⟩ = some (.int .i64 (e)) := HM.out.ce 1
        have z1 := HM.out.fz 1
        have q2 : y.cell? ⟨g, 2, none⟩ = some (.int .i64 (a)) := HM.out.ce 2
        have z2 := HM.out.fz 2
        have q3 : y.cell? ⟨g, 3, none⟩ = some (.int .i64 (4)) := HM.out.ce 3
        have z3 := HM.out.fz 3
        have q4 : y.cell? ⟨g, 4, none⟩ = some (.int .i64 (wa + 1)) := HM.out.ce 4
        have z4 := HM.out.fz 4
        have q5 : y.cell? ⟨g, 5, none⟩ = some (.int .i64 (qu)) := HM.out.ce 5
        have z5 := HM.out.fz 5
        have q6 : y.cell? ⟨g, 6, none⟩ = some (.int .i64 (tr)) := HM.out.ce 6
        have z6 := HM.out.fz 6
        obtain ⟨k0, k1, k2, kf⟩ := cells3 hx
        have kf0 := kf 0
        have kf1 := kf 1
        have kf2 := kf 2
        clear kf
        go_quiet (fail)
        go_wp2_with fail
        exact fin_set rfl _ _ _ _ _ _ _ _ _ ((setCell_ne ne.symm _ _).trans ((setCell_ne ne.symm _ _).trans (heap_drewN hx _))) rfl ⟨rfl, sm_set3 (((sm_drewN HM.out _).set6 (tr + 1)).set4 (0)) ne _ _ _, fr_set3 (((fr_drewN Fw.out _).set (.inl (by simp)) _ _).set (.inl (by simp)) _ _) (Nat.le_refl _) _ _ _⟩
end Go.Proofs.Ythfpjkboglbcaaa.Sd
