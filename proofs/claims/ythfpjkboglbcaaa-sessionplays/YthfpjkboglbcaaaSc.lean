/- Sessions: the program's greater functions. -/
import Derived.Test.YthfpjkboglbcaaaSa
namespace Go.Proofs.Ythfpjkboglbcaaa.Sc
set_option linter.unusedVariables false
set_option linter.unusedSimpArgs false
open Go.RowKit Lib0 Kb Sp Sa
def OS : Obj := Obj.cells #[Value.string ⟨#[]⟩, Value.string ⟨#[]⟩, Value.bool false] 40
theorem fin_set {fn : Func} {p : Tmp} (h : fn.results = #[.cell p 40]) (tm : Array Value) (x : World) (n : Nat) (u v z a b c : Value) (hx : x.heap[n]? = some (.cells #[u, v, z] 40)) (hp : tm.getD p undef = .pointer (some ⟨n, 0, none⟩)) {Q : Ending → World → Prop}
    (q : Q (.returned (.agg #[a, b, c])) (((x.setCell ⟨n, 0, none⟩ a).setCell ⟨n, 1, none⟩ b).setCell ⟨n, 2, none⟩ c)) : bodyPost Try.prog fn Q .ret ⟨tm, []⟩ (((x.setCell ⟨n, 0, none⟩ a).setCell ⟨n, 1, none⟩ b).setCell ⟨n, 2, none⟩ c) :=
  bodyPost_ret (v := .agg #[a, b, c]) (results_cell_row (fn := fn) h _ _ n 40 _ _ _ hp (setCell_heap (setCell_heap (setCell_heap hx 0 a) 1 b) 2 c) Try.underlying40 rfl infoS) rfl q
theorem cells3 {x : World} {n : Nat} {u v z : Value} (hx : x.heap[n]? = some (.cells #[u, v, z] 40)) : x.cell? ⟨n, 0, none⟩ = some u ∧ x.cell? ⟨n, 1, none⟩ = some v ∧ x.cell? ⟨n, 2, none⟩ = some z ∧ ∀ o, x.frozen? ⟨n, o, none⟩ = false := by
  refine ⟨?_, ?_, ?_, ?_⟩
  · simp [World.cell?, hx]
  · simp [World.cell?, hx]
  · simp [World.cell?, hx]
  · intro o; simp [World.frozen?, hx]
theorem fr_set3 {B : List Nat} {w x : World} {n : Nat} (h : Fr B w x) (hn : w.heap.size ≤ n) (a b c : Value) : Fr B w (((x.setCell ⟨n, 0, none⟩ a).setCell ⟨n, 1, none⟩ b).setCell ⟨n, 2, none⟩ c) := ((h.set (.inr hn) _ _).set (.inr hn) _ _).set (.inr hn) _ _
theorem sm_set3 {T : TypeId} {x : World} {g n : Nat} {S : Ss} (M : Sm T x g S) (hn : n ≠ g) (a b c : Value) : Sm T (((x.setCell ⟨n, 0, none⟩ a).setCell ⟨n, 1, none⟩ b).setCell ⟨n, 2, none⟩ c) g S := M.keep (((setCell_ne hn _ _).trans (setCell_ne hn _ _)).trans (setCell_ne hn _ _))
theorem clone_any (s : ByteArray) (w : World) (hs : s.size ≤ 281474976710656) : Calls Try.prog 37 #[.string s] w fun e w' => e = .returned (.string s) ∧ Below w.heap.size w w' := by
  have p := fun y => Try.stringslite_Clone s y hs
  go_enter Try.func37, Try.ntmps37
  go_wp2_with fail
  refine (p _).mono ?_
  rintro e y ⟨rfl, hy⟩
  go_wp2_with fail
  go_ret
  exact ⟨rfl, hy⟩
theorem res_at {g n : Nat} {y x : World} {o : Obj} (hn : y.heap.size = n) (Fx : Fr [g] (y.alloc o) x) (ng : n ≠ g) : x.heap[n]? = some o := by
  subst hn
  exact (Fx.block _ (by rw [World.size_alloc]; omega) (by simpa using ng)).trans (Kb.h1_0 y _)
theorem heap_drewN {w : World} {n : Nat} {o : Option Obj} (h : w.heap[n]? = o) (k : Nat) : (w.drewN k).heap[n]? = o := by
  induction k with
  | zero => exact h
  | succ k ih => exact ih
theorem res_to {g n : Nat} {y x : World} {o : Obj} (hy : y.heap[n]? = some o) (Fx : Fr [g] y x) (ng : n ≠ g) : x.heap[n]? = some o :=
  (Fx.block n (Array.getElem?_eq_some_iff.1 hy).1 (by simpa using ng)).trans hy
theorem up_any {w : World} {g : Nat} {S : Ss} (M : Sm 63 w g S) :
    Calls Try.prog 26 #[.pointer (some ⟨g, 0, none⟩)] w fun e w' => e = .returned (sayV (up2 S)) ∧ Sm 63 w' g (up1 S) ∧ Fr [g] w w' := by
  obtain ⟨r, e, a, st, wa, qu, tr⟩ := S
  have lt := M.lt
  have ne : w.heap.size ≠ g := by omega
  have M1 : Sm 63 (w.alloc (Obj.cells #[Value.string ⟨#[]⟩, Value.string ⟨#[]⟩, Value.bool false] 40)) g ⟨r, e, a, st, wa, qu, tr⟩ := M.alloc _
  have F1 : Fr [g] w (w.alloc (Obj.cells #[Value.string ⟨#[]⟩, Value.string ⟨#[]⟩, Value.bool false] 40)) := (Fr.refl _ _).alloc _
  have d0 : (w.alloc (Obj.cells #[Value.string ⟨#[]⟩, Value.string ⟨#[]⟩, Value.bool false] 40)).cell? ⟨g, 0, none⟩ = some (.int .i64 r) := M1.ce 0
  have f0 := M1.fz 0
  have d3 : (w.alloc (Obj.cells #[Value.string ⟨#[]⟩, Value.string ⟨#[]⟩, Value.bool false] 40)).cell? ⟨g, 3, none⟩ = some (.int .i64 st) := M1.ce 3
  have f3 := M1.fz 3
  by_cases hr : r = 1
  · subst hr
    go_enter Try.func26, Try.ntmps26
    go_wp2_with fail
    exact fin_say rfl _ _ _ _ _ _ (by simp) rfl ⟨rfl, (M.set3 1).alloc _, ((Fr.refl _ _).set (.inl (by simp)) _ _).alloc _⟩
  · have hU : Hid (up1 ⟨r, e, a, st, wa, qu, tr⟩ = ⟨r, e, a, 2, 0, qu, tr⟩ ∧ up2 ⟨r, e, a, st, wa, qu, tr⟩ = asks t001) := ⟨if_neg hr, if_neg hr⟩
    rw [hU.out.1, hU.out.2]
    have hr2 : (r == 1) = false := by simpa using hr
    go_enter Try.func26, Try.ntmps26
    go_wp2_with fail
    refine (ask_any ((M.set3 2).alloc _) t001).mono ?_
    rintro e x ⟨rfl, Mx, Fx⟩
    have hx := res_at (by simp) Fx ne
    have Fw : Hid (Fr [g] w x) := (((Fr.refl _ _).set (.inl (by simp)) _ _).alloc _).trans Fx
    have HM : Hid (Sm 63 x g _) := Mx
    obtain ⟨k0, k1, k2, kf⟩ := cells3 hx
    have kf0 := kf 0
    have kf1 := kf 1
    have kf2 := kf 2
    simp only [sayV, asks, t001]
    clear Fx Mx kf
    go_wp2_with fail
    exact fin_set rfl _ _ _ _ _ _ _ _ _ hx rfl ⟨rfl, sm_set3 HM.out ne _ _ _, fr_set3 Fw.out (Nat.le_refl _) _ _ _⟩
set_option maxRecDepth 100000 in
theorem asked_any {w : World} {g : Nat} {S : Ss} (M : Sm 63 w g S) (c : ByteArray) (hc : c.size ≤ 281474976710656) :
    Calls Try.prog 25 #[.pointer (some ⟨g, 0, none⟩), .string c] w fun e w' => e = .returned (sayV (asked2 S c)) ∧ Sm 63 w' g (asked1 S c) ∧ Fr [g] w w' := by
  obtain ⟨r, e, a, st, wa, qu, tr⟩ := S
  have lt := M.lt
  have ne : w.heap.size ≠ g := by omega
  have M1 : Sm 63 (w.alloc (Obj.cells #[Value.string ⟨#[]⟩, Value.string ⟨#[]⟩, Value.bool false] 40)) g ⟨r, e, a, st, wa, qu, tr⟩ := M.alloc _
  have F1 : Fr [g] w (w.alloc (Obj.cells #[Value.string ⟨#[]⟩, Value.string ⟨#[]⟩, Value.bool false] 40)) := (Fr.refl _ _).alloc _
  have d3 : (w.alloc (Obj.cells #[Value.string ⟨#[]⟩, Value.string ⟨#[]⟩, Value.bool false] 40)).cell? ⟨g, 3, none⟩ = some (.int .i64 st) := M1.ce 3
  have f3 := M1.fz 3
  by_cases h0 : st = 0
  · subst h0
    go_enter Try.func25, Try.ntmps25
    go_wp2_with fail
    exact fin_say rfl _ _ _ _ _ _ (by simp) rfl ⟨rfl, M.alloc _, (Fr.refl _ _).alloc _⟩
  · have hU : Hid (asked1 ⟨r, e, a, st, wa, qu, tr⟩ c = heard (grant1 ⟨r, e, a, st, wa, qu, tr⟩ c) ∧ asked2 ⟨r, e, a, st, wa, qu, tr⟩ c = ⟨c, grant2 ⟨r, e, a, st, wa, qu, tr⟩ c, false⟩) := ⟨if_neg h0, if_neg h0⟩
    rw [hU.out.1, hU.out.2]
    clear hU
    have h02 : (st == 0) = false := by simpa using h0
    have GA := grant_any M1 c
    go_enter Try.func25, Try.ntmps25
    go_wp2_with fail
    refine GA.mono ?_
    rintro e x ⟨rfl, Mx, Fx⟩
    have hx := res_at rfl Fx ne
    have Fw : Hid (Fr [g] w x) := F1.trans Fx
    have HM : Hid (Sm 63 x g _) := Mx
    clear Fx Mx M1 d3 f3 F1 GA
    go_wp2_with fail
    refine (heard_any HM.out).mono ?_
    rintro e y ⟨rfl, My, Fy⟩
    have hy := res_to hx Fy ne
    have Fv : Hid (Fr [g] w y) := Fw.out.trans Fy
    have HN : Hid (Sm 63 y g _) := My
    clear Fy My hx Fw HM
    go_wp2_with fail
    refine (clone_any c _ hc).mono ?_
    rintro e z ⟨rfl, Bz⟩
    have hz := (Bz.block _ (Array.getElem?_eq_some_iff.1 hy).1).trans hy
    have Fz : Hid (Fr [g] w z) := Fv.out.trans (Fr.of Bz)
    have HZ : Hid (Sm 63 z g _) := HN.out.below Bz HN.out.lt
    obtain ⟨k0, k1, k2, kf⟩ := cells3 hz
    have kf0 := kf 0
    have kf1 := kf 1
    have kf2 := kf 2
    clear kf Bz hy Fv HN
    go_wp2_with fail
    exact fin_set rfl _ _ _ _ _ _ _ _ _ hz rfl ⟨rfl, sm_set3 HZ.out ne _ _ _, fr_set3 Fz.out (Nat.le_refl _) _ _ _⟩
theorem ansd_any {w : World} {g : Nat} {S : Ss} (M : Sm 63 w g S) (c b : ByteArray) :
    Calls Try.prog 27 #[.pointer (some ⟨g, 0, none⟩), .string c, .string b] w fun e w' => e = .returned (sayV no) ∧ Sm 63 w' g (ansd S c b) ∧ Fr [g] w w' := by
  obtain ⟨r, e, a, st, wa, qu, tr⟩ := S
  have lt := M.lt
  have ne : w.heap.size ≠ g := by omega
  have M1 : Sm 63 (w.alloc (Obj.cells #[Value.string ⟨#[]⟩, Value.string ⟨#[]⟩, Value.bool false] 40)) g ⟨r, e, a, st, wa, qu, tr⟩ := M.alloc _
  have F1 : Fr [g] w (w.alloc (Obj.cells #[Value.string ⟨#[]⟩, Value.string ⟨#[]⟩, Value.bool false] 40)) := (Fr.refl _ _).alloc _
  have d3 : (w.alloc (Obj.cells #[Value.string ⟨#[]⟩, Value.string ⟨#[]⟩, Value.bool false] 40)).cell? ⟨g, 3, none⟩ = some (.int .i64 st) := M1.ce 3
  have f3 := M1.fz 3
  obtain ⟨G, hG⟩ : ∃ G, Hid (ansd0 ⟨r, e, a, st, wa, qu, tr⟩ c b = G) := ⟨_, rfl⟩
  have hU : Hid (ansd ⟨r, e, a, st, wa, qu, tr⟩ c b = heard G) := by show heard _ = _; rw [hG.out]
  rw [hU.out]
  clear hU
  by_cases h2 : st = 2
  · subst h2
    by_cases hc : c.toList = [48, 48, 49]
    · have hc1 := tl hc
      subst hc1
      by_cases hb : b.toList = [48, 48]
      · have hb1 := tl hb
        subst hb1
        clear hc hb
        go_enter Try.func27, Try.ntmps27
        go_wp2_with fail
        have HG : G = ⟨r, e, a, 3, wa, qu, tr⟩ := by rw [← hG.out]; first | rfl | (simp [ansd0, *]; done) | simp [ansd0, t001, t301, t00, *]
        subst HG
        refine (heard_any ((M.set3 3).alloc _)).mono ?_
        rintro e y ⟨rfl, My, Fy⟩
        have hy := res_at (by simp) Fy ne
        have Fv : Hid (Fr [g] w y) := (((Fr.refl _ _).set (.inl (by simp)) _ _).alloc _).trans Fy
        have HN : Hid (Sm 63 y g _) := My
        obtain ⟨k0, k1, k2, kf⟩ := cells3 hy
        have kf0 := kf 0
        have kf1 := kf 1
        have kf2 := kf 2
        clear kf My Fy
        go_wp2_with fail
        exact fin_set rfl _ _ _ _ _ _ _ _ _ hy rfl ⟨rfl, sm_set3 HN.out ne _ _ _, fr_set3 Fv.out (Nat.le_refl _) _ _ _⟩
      · have hb2 : (b.toList == [48, 48]) = false := by simpa using hb
        have hb3 := ne_code hb
        clear hc
        go_enter Try.func27, Try.ntmps27
        go_wp2_with fail
        have HG : G = ⟨r, e, a, 2, wa, qu, tr⟩ := by rw [← hG.out]; first | rfl | (simp [ansd0, *]; done) | simp [ansd0, t001, t301, t00, *]
        subst HG
        refine (heard_any (M.alloc _)).mono ?_
        rintro e y ⟨rfl, My, Fy⟩
        have hy := res_at (by simp) Fy ne
        have Fv : Hid (Fr [g] w y) := ((Fr.refl _ _).alloc _).trans Fy
        have HN : Hid (Sm 63 y g _) := My
        obtain ⟨k0, k1, k2, kf⟩ := cells3 hy
        have kf0 := kf 0
        have kf1 := kf 1
        have kf2 := kf 2
        clear kf My Fy
        go_wp2_with fail
        exact fin_set rfl _ _ _ _ _ _ _ _ _ hy rfl ⟨rfl, sm_set3 HN.out ne _ _ _, fr_set3 Fv.out (Nat.le_refl _) _ _ _⟩
    · have hc2 : (c.toList == [48, 48, 49]) = false := by simpa using hc
      have hc3 := ne_code hc
      go_enter Try.func27, Try.ntmps27
      go_wp2_with fail
      have HG : G = ⟨r, e, a, 2, wa, qu, tr⟩ := by rw [← hG.out]; first | rfl | (simp [ansd0, *]; done) | simp [ansd0, t001, t301, t00, *]
      subst HG
      refine (heard_any (M.alloc _)).mono ?_
      rintro e y ⟨rfl, My, Fy⟩
      have hy := res_at (by simp) Fy ne
      have Fv : Hid (Fr [g] w y) := ((Fr.refl _ _).alloc _).trans Fy
      have HN : Hid (Sm 63 y g _) := My
      obtain ⟨k0, k1, k2, kf⟩ := cells3 hy
      have kf0 := kf 0
      have kf1 := kf 1
      have kf2 := kf 2
      clear kf My Fy
      go_wp2_with fail
      exact fin_set rfl _ _ _ _ _ _ _ _ _ hy rfl ⟨rfl, sm_set3 HN.out ne _ _ _, fr_set3 Fv.out (Nat.le_refl _) _ _ _⟩
  · by_cases h4 : st = 4
    · subst h4
      by_cases hc : c.toList = [51, 48, 49]
      · have hc1 := tl hc
        subst hc1
        clear hc
        go_enter Try.func27, Try.ntmps27
        go_wp2_with fail
        have HG : G = ⟨r, e, a, 3, wa, qu, tr⟩ := by rw [← hG.out]; first | rfl | (simp [ansd0, *]; done) | simp [ansd0, t001, t301, t00, *]
        subst HG
        refine (heard_any ((M.set3 3).alloc _)).mono ?_
        rintro e y ⟨rfl, My, Fy⟩
        have hy := res_at (by simp) Fy ne
        have Fv : Hid (Fr [g] w y) := (((Fr.refl _ _).set (.inl (by simp)) _ _).alloc _).trans Fy
        have HN : Hid (Sm 63 y g _) := My
        obtain ⟨k0, k1, k2, kf⟩ := cells3 hy
        have kf0 := kf 0
        have kf1 := kf 1
        have kf2 := kf 2
        clear kf My Fy
        go_wp2_with fail
        exact fin_set rfl _ _ _ _ _ _ _ _ _ hy rfl ⟨rfl, sm_set3 HN.out ne _ _ _, fr_set3 Fv.out (Nat.le_refl _) _ _ _⟩
      · have hc2 : (c.toList == [51, 48, 49]) = false := by simpa using hc
        have hc3 := ne_code hc
        go_enter Try.func27, Try.ntmps27
        go_wp2_with fail
        have HG : G = ⟨r, e, a, 4, wa, qu, tr⟩ := by rw [← hG.out]; first | rfl | (simp [ansd0, *]; done) | simp [ansd0, t001, t301, t00, *]
        subst HG
        refine (heard_any (M.alloc _)).mono ?_
        rintro e y ⟨rfl, My, Fy⟩
        have hy := res_at (by simp) Fy ne
        have Fv : Hid (Fr [g] w y) := ((Fr.refl _ _).alloc _).trans Fy
        have HN : Hid (Sm 63 y g _) := My
        obtain ⟨k0, k1, k2, kf⟩ := cells3 hy
        have kf0 := kf 0
        have kf1 := kf 1
        have kf2 := kf 2
        clear kf My Fy
        go_wp2_with fail
        exact fin_set rfl _ _ _ _ _ _ _ _ _ hy rfl ⟨rfl, sm_set3 HN.out ne _ _ _, fr_set3 Fv.out (Nat.le_refl _) _ _ _⟩
    · have g2 : (st == 2) = false := by simpa using h2
      have g4 : (st == 4) = false := by simpa using h4
      go_enter Try.func27, Try.ntmps27
      go_wp2_with fail
      have HG : G = ⟨r, e, a, st, wa, qu, tr⟩ := by rw [← hG.out]; first | rfl | (simp [ansd0, *]; done) | simp [ansd0, t001, t301, t00, *]
      subst HG
      refine (heard_any (M.alloc _)).mono ?_
      rintro e y ⟨rfl, My, Fy⟩
      have hy := res_at (by simp) Fy ne
      have Fv : Hid (Fr [g] w y) := ((Fr.refl _ _).alloc _).trans Fy
      have HN : Hid (Sm 63 y g _) := My
      obtain ⟨k0, k1, k2, kf⟩ := cells3 hy
      have kf0 := kf 0
      have kf1 := kf 1
      have kf2 := kf 2
      clear kf My Fy
      go_wp2_with fail
      exact fin_set rfl _ _ _ _ _ _ _ _ _ hy rfl ⟨rfl, sm_set3 HN.out ne _ _ _, fr_set3 Fv.out (Nat.le_refl _) _ _ _⟩
theorem tsign_any {w : World} {g : Nat} {S : Ss} (M : Sm 63 w g S) (hs : S.st = 2) (h0 : 0 ≤ S.wait) (h1 : S.wait ≤ 100000) :
    Calls Try.prog 40 #[.pointer (some ⟨g, 0, none⟩)] w fun e w' => e = .returned (sayV (tick2 S)) ∧ Sm 63 w' g (tick1 S) ∧ Fr [g] w w' := by
  obtain ⟨r, e, a, st, wa, qu, tr⟩ := S
  have lt := M.lt
  have ne : w.heap.size ≠ g := by omega
  have M1 : Sm 63 (w.alloc (Obj.cells #[Value.string ⟨#[]⟩, Value.string ⟨#[]⟩, Value.bool false] 40)) g ⟨r, e, a, st, wa, qu, tr⟩ := M.alloc _
  have F1 : Fr [g] w (w.alloc (Obj.cells #[Value.string ⟨#[]⟩, Value.string ⟨#[]⟩, Value.bool false] 40)) := (Fr.refl _ _).alloc _
  dsimp only at hs h0 h1
  subst hs
  by_cases hw : wa + 1 < a
  · have hU : Hid (tick1 ⟨r, e, a, 2, wa, qu, tr⟩ = ⟨r, e, a, 2, wa + 1, qu, tr⟩ ∧ tick2 ⟨r, e, a, 2, wa, qu, tr⟩ = no) := by constructor <;> simp [tick1, tick2, hw]
    rw [hU.out.1, hU.out.2]
    go_enter Try.func40, Try.ntmps40
    go_wp2_with fail
    refine (waits_any M1 h0 h1).mono ?_
    rintro e x ⟨rfl, Mx, Fx⟩
    have hx := res_at rfl Fx ne
    have Fw : Hid (Fr [g] w x) := F1.trans Fx
    have HM : Hid (Sm 63 x g _) := Mx
    clear Fx Mx M1 F1
    rw [show decide (wa + 1 < a) = true by simpa using hw]
    obtain ⟨k0, k1, k2, kf⟩ := cells3 hx
    have kf0 := kf 0
    have kf1 := kf 1
    have kf2 := kf 2
    clear kf
    go_wp2_with fail
    exact fin_set rfl _ _ _ _ _ _ _ _ _ hx rfl ⟨rfl, sm_set3 HM.out ne _ _ _, fr_set3 Fw.out (Nat.le_refl _) _ _ _⟩
  · have hU : Hid (tick1 ⟨r, e, a, 2, wa, qu, tr⟩ = ⟨r, e, a, 2, 0, qu, tr⟩ ∧ tick2 ⟨r, e, a, 2, wa, qu, tr⟩ = asks t001) := by constructor <;> simp [tick1, tick2, hw]
    rw [hU.out.1, hU.out.2]
    go_enter Try.func40, Try.ntmps40
    go_wp2_with fail
    refine (waits_any M1 h0 h1).mono ?_
    rintro e x ⟨rfl, Mx, Fx⟩
    have hx := res_at rfl Fx ne
    have Fw : Hid (Fr [g] w x) := F1.trans Fx
    have HM : Hid (Sm 63 x g _) := Mx
    clear Fx Mx M1 F1
    rw [show decide (wa + 1 < a) = false by simpa using hw]
    go_wp2_with fail
    refine (ask_any HM.out t001).mono ?_
    rintro e y ⟨rfl, My, Fy⟩
    have hy := res_to hx Fy ne
    have Fv : Hid (Fr [g] w y) := Fw.out.trans Fy
    have HN : Hid (Sm 63 y g _) := My
    obtain ⟨k0, k1, k2, kf⟩ := cells3 hy
    have kf0 := kf 0
    have kf1 := kf 1
    have kf2 := kf 2
    simp only [sayV, asks, t001]
    clear kf My Fy hx
    go_wp2_with fail
    exact fin_set rfl _ _ _ _ _ _ _ _ _ hy rfl ⟨rfl, sm_set3 HN.out ne _ _ _, fr_set3 Fv.out (Nat.le_refl _) _ _ _⟩
theorem ttest_any {w : World} {g : Nat} {S : Ss} (M : Sm 63 w g S) (hs : S.st = 4) (h0 : 0 ≤ S.wait) (h1 : S.wait ≤ 100000) (t0 : 1 ≤ S.tries) (t1 : S.tries ≤ 3) :
    Calls Try.prog 42 #[.pointer (some ⟨g, 0, none⟩)] w fun e w' => e = .returned (sayV (tick2 S)) ∧ Sm 63 w' g (tick1 S) ∧ Fr [g] w w' := by
  obtain ⟨r, e, a, st, wa, qu, tr⟩ := S
  have lt := M.lt
  have ne : w.heap.size ≠ g := by omega
  have M1 : Sm 63 (w.alloc (Obj.cells #[Value.string ⟨#[]⟩, Value.string ⟨#[]⟩, Value.bool false] 40)) g ⟨r, e, a, st, wa, qu, tr⟩ := M.alloc _
  have F1 : Fr [g] w (w.alloc (Obj.cells #[Value.string ⟨#[]⟩, Value.string ⟨#[]⟩, Value.bool false] 40)) := (Fr.refl _ _).alloc _
  dsimp only at hs h0 h1 t0 t1
  subst hs
  by_cases hw : wa + 1 < a
  · have hU : Hid (tick1 ⟨r, e, a, 4, wa, qu, tr⟩ = ⟨r, e, a, 4, wa + 1, qu, tr⟩ ∧ tick2 ⟨r, e, a, 4, wa, qu, tr⟩ = no) := by constructor <;> simp [tick1, tick2, hw]
    rw [hU.out.1, hU.out.2]
    go_enter Try.func42, Try.ntmps42
    go_wp2_with fail
    refine (waits_any M1 h0 h1).mono ?_
    rintro e x ⟨rfl, Mx, Fx⟩
    have hx := res_at rfl Fx ne
    have Fw : Hid (Fr [g] w x) := F1.trans Fx
    have HM : Hid (Sm 63 x g _) := Mx
    clear Fx Mx M1 F1
    rw [show decide (wa + 1 < a) = true by simpa using hw]
    obtain ⟨k0, k1, k2, kf⟩ := cells3 hx
    have kf0 := kf 0
    have kf1 := kf 1
    have kf2 := kf 2
    clear kf
    go_wp2_with fail
    exact fin_set rfl _ _ _ _ _ _ _ _ _ hx rfl ⟨rfl, sm_set3 HM.out ne _ _ _, fr_set3 Fw.out (Nat.le_refl _) _ _ _⟩
  · by_cases ht : tr = 3
    · subst ht
      have hU : Hid (tick1 ⟨r, e, a, 4, wa, qu, 3⟩ = ⟨r, e, a, 0, wa + 1, qu, 3⟩ ∧ tick2 ⟨r, e, a, 4, wa, qu, 3⟩ = gone) := by constructor <;> simp [tick1, tick2, hw]
      rw [hU.out.1, hU.out.2]
      go_enter Try.func42, Try.ntmps42
      go_wp2_with fail
      refine (waits_any M1 h0 h1).mono ?_
      rintro e x ⟨rfl, Mx, Fx⟩
      have hx := res_at rfl Fx ne
      have Fw : Hid (Fr [g] w x) := F1.trans Fx
      have HM : Hid (Sm 63 x g _) := Mx
      clear Fx Mx M1 F1
      rw [show decide (wa + 1 < a) = false by simpa using hw]
      have k6 : x.cell? ⟨g, 6, none⟩ = some (.int .i64 3) := HM.out.ce 6
      go_wp2_with fail
      refine (down_any HM.out).mono ?_
      rintro e y ⟨rfl, My, Fy⟩
      have hy := res_to hx Fy ne
      have Fv : Hid (Fr [g] w y) := Fw.out.trans Fy
      have HN : Hid (Sm 63 y g _) := My
      obtain ⟨k0, k1, k2, kf⟩ := cells3 hy
      have kf0 := kf 0
      have kf1 := kf 1
      have kf2 := kf 2
      clear kf My Fy hx
      go_wp2_with fail
      exact fin_set rfl _ _ _ _ _ _ _ _ _ hy rfl ⟨rfl, sm_set3 HN.out ne _ _ _, fr_set3 Fv.out (Nat.le_refl _) _ _ _⟩
    · have hU : Hid (tick1 ⟨r, e, a, 4, wa, qu, tr⟩ = ⟨r, e, a, 4, 0, qu, tr + 1⟩ ∧ tick2 ⟨r, e, a, 4, wa, qu, tr⟩ = asks t301) := by constructor <;> simp [tick1, tick2, hw, ht]
      rw [hU.out.1, hU.out.2]
      have ht2 : (tr == 3) = false := by simpa using ht
      go_enter Try.func42, Try.ntmps42
      go_wp2_with fail
      refine (waits_any M1 h0 h1).mono ?_
      rintro e x ⟨rfl, Mx, Fx⟩
      have hx := res_at rfl Fx ne
      have Fw : Hid (Fr [g] w x) := F1.trans Fx
      have HM : Hid (Sm 63 x g _) := Mx
      clear Fx Mx M1 F1
      rw [show decide (wa + 1 < a) = false by simpa using hw]
      have k6 : x.cell? ⟨g, 6, none⟩ = some (.int .i64 tr) := HM.out.ce 6
      have kg6 := HM.out.fz 6
      go_wp2_with fail
      refine (ask_any (HM.out.set6 (tr + 1)) t301).mono ?_
      rintro e y ⟨rfl, My, Fy⟩
      have hy := res_to ((setCell_ne ne.symm _ _).trans hx) Fy ne
      have Fv : Hid (Fr [g] w y) := (Fw.out.set (.inl (by simp)) _ _).trans Fy
      have HN : Hid (Sm 63 y g _) := My
      obtain ⟨k0, k1, k2, kf⟩ := cells3 hy
      have kf0 := kf 0
      have kf1 := kf 1
      have kf2 := kf 2
      simp only [sayV, asks, t301]
      clear kf My Fy hx
      go_wp2_with fail
      exact fin_set rfl _ _ _ _ _ _ _ _ _ hy rfl ⟨rfl, sm_set3 HN.out ne _ _ _, fr_set3 Fv.out (Nat.le_refl _) _ _ _⟩
theorem tidle_any {w : World} {g : Nat} {S : Ss} (M : Sm 63 w g S) :
    Calls Try.prog 43 #[.pointer (some ⟨g, 0, none⟩)] w fun e w' => e = .returned (sayV no) ∧ Sm 63 w' g S ∧ Fr [g] w w' := by
  obtain ⟨r, e, a, st, wa, qu, tr⟩ := S
  have lt := M.lt
  have ne : w.heap.size ≠ g := by omega
  have M1 : Sm 63 (w.alloc (Obj.cells #[Value.string ⟨#[]⟩, Value.string ⟨#[]⟩, Value.bool false] 40)) g ⟨r, e, a, st, wa, qu, tr⟩ := M.alloc _
  have F1 : Fr [g] w (w.alloc (Obj.cells #[Value.string ⟨#[]⟩, Value.string ⟨#[]⟩, Value.bool false] 40)) := (Fr.refl _ _).alloc _
  go_enter Try.func43, Try.ntmps43
  go_wp2_with fail
  exact fin_say rfl _ _ _ _ _ _ (by simp) rfl ⟨rfl, M.alloc _, (Fr.refl _ _).alloc _⟩
theorem ton_any {w : World} {g : Nat} {S : Ss} (M : Sm 63 w g S) (hs : S.st = 3) (h0 : 0 ≤ S.quiet) (h1 : S.quiet ≤ 100000) :
    Calls Try.prog 41 #[.pointer (some ⟨g, 0, none⟩)] w fun e w' => e = .returned (sayV (tick2 S)) ∧ Sm 63 w' g (tick1 S) ∧ Fr [g] w w' := by
  obtain ⟨r, e, a, st, wa, qu, tr⟩ := S
  have lt := M.lt
  have ne : w.heap.size ≠ g := by omega
  have M1 : Sm 63 (w.alloc (Obj.cells #[Value.string ⟨#[]⟩, Value.string ⟨#[]⟩, Value.bool false] 40)) g ⟨r, e, a, st, wa, qu, tr⟩ := M.alloc _
  have F1 : Fr [g] w (w.alloc (Obj.cells #[Value.string ⟨#[]⟩, Value.string ⟨#[]⟩, Value.bool false] 40)) := (Fr.refl _ _).alloc _
  have d0 : (w.alloc (Obj.cells #[Value.string ⟨#[]⟩, Value.string ⟨#[]⟩, Value.bool false] 40)).cell? ⟨g, 0, none⟩ = some (.int .i64 r) := M1.ce 0
  have f0 := M1.fz 0
  have d1 : (w.alloc (Obj.cells #[Value.string ⟨#[]⟩, Value.string ⟨#[]⟩, Value.bool false] 40)).cell? ⟨g, 1, none⟩ = some (.int .i64 e) := M1.ce 1
  have f1 := M1.fz 1
  have d3 : (w.alloc (Obj.cells #[Value.string ⟨#[]⟩, Value.string ⟨#[]⟩, Value.bool false] 40)).cell? ⟨g, 3, none⟩ = some (.int .i64 st) := M1.ce 3
  have f3 := M1.fz 3
  have d5 : (w.alloc (Obj.cells #[Value.string ⟨#[]⟩, Value.string ⟨#[]⟩, Value.bool false] 40)).cell? ⟨g, 5, none⟩ = some (.int .i64 qu) := M1.ce 5
  have f5 := M1.fz 5
  have d6 : (w.alloc (Obj.cells #[Value.string ⟨#[]⟩, Value.string ⟨#[]⟩, Value.bool false] 40)).cell? ⟨g, 6, none⟩ = some (.int .i64 tr) := M1.ce 6
  have f6 := M1.fz 6
  dsimp only at hs h0 h1
  subst hs
  by_cases hr : r = 1
  · subst hr
    go_enter Try.func41, Try.ntmps41
    go_wp2_with fail
    exact fin_say rfl _ _ _ _ _ _ (by simp) rfl ⟨rfl, M.alloc _, (Fr.refl _ _).alloc _⟩
  · have hr2 : (r == 1) = false := by simpa using hr
    by_cases he : e = 0
    · subst he
      have hU : Hid (tick1 ⟨r, 0, a, 3, wa, qu, tr⟩ = ⟨r, 0, a, 3, wa, qu, tr⟩ ∧ tick2 ⟨r, 0, a, 3, wa, qu, tr⟩ = no) := by constructor <;> simp [tick1, tick2]
      rw [hU.out.1, hU.out.2]
      go_enter Try.func41, Try.ntmps41
      go_wp2_with fail
      exact fin_say rfl _ _ _ _ _ _ (by simp) rfl ⟨rfl, M.alloc _, (Fr.refl _ _).alloc _⟩
    · have he2 : (e == 0) = false := by simpa using he
      by_cases hq : qu + 1 < e
      · have hU : Hid (tick1 ⟨r, e, a, 3, wa, qu, tr⟩ = ⟨r, e, a, 3, wa, qu + 1, tr⟩ ∧ tick2 ⟨r, e, a, 3, wa, qu, tr⟩ = no) := by constructor <;> simp [tick1, tick2, hr, he, hq]
        rw [hU.out.1, hU.out.2]
        go_enter Try.func41, Try.ntmps41
        go_wp2_with fail
        obtain ⟨y, hy⟩ : ∃ y, (w.setCell ⟨g, 5, none⟩ (.int .i64 (qu + 1))).alloc (Obj.cells #[Value.string ⟨#[]⟩, Value.string ⟨#[]⟩, Value.bool false] 40) = y := ⟨_, rfl⟩
        have HM : Hid (Sm 63 y g ⟨r, e, a, 3, wa, qu + 1, tr⟩) := hy ▸ (M.set5 (qu + 1)).alloc _
        have Fw : Hid (Fr [g] w y) := hy ▸ ((Fr.refl _ _).set (.inl (by simp)) _ _).alloc _
        have hx : y.heap[w.heap.size]? = some (Obj.cells #[Value.string ⟨#[]⟩, Value.string ⟨#[]⟩, Value.bool false] 40) := by
          rw [← hy]
          have := Kb.h1_0 (w.setCell ⟨g, 5, none⟩ (.int .i64 (qu + 1))) (Obj.cells #[Value.string ⟨#[]⟩, Value.string ⟨#[]⟩, Value.bool false] 40)
          simpa using this
        rw [hy]
        have q1 : y.cell? ⟨g, 1, none⟩ = some (.int .i64 e) := HM.out.ce 1
        have q5 : y.cell? ⟨g, 5, none⟩ = some (.int .i64 (qu + 1)) := HM.out.ce 5
        have q3 : y.cell? ⟨g, 3, none⟩ = some (.int .i64 3) := HM.out.ce 3
        have q6 : y.cell? ⟨g, 6, none⟩ = some (.int .i64 tr) := HM.out.ce 6
        have qf3 := HM.out.fz 3
        have qf6 := HM.out.fz 6
        obtain ⟨k0, k1, k2, kf⟩ := cells3 hx
        have kf0 := kf 0
        have kf1 := kf 1
        have kf2 := kf 2
        clear kf hy M1 F1 d0 d1 d3 d5 d6 f0 f1 f3 f5 f6
        go_quiet (fail)
        go_wp2_with fail
        exact fin_set rfl _ _ _ _ _ _ _ _ _ (heap_drewN hx _) rfl ⟨rfl, sm_set3 (sm_drewN HM.out _) ne _ _ _, fr_set3 (fr_drewN Fw.out _) (Nat.le_refl _) _ _ _⟩
      · have hU : Hid (tick1 ⟨r, e, a, 3, wa, qu, tr⟩ = ⟨r, e, a, 4, 0, qu + 1, 1⟩ ∧ tick2 ⟨r, e, a, 3, wa, qu, tr⟩ = asks t301) := by constructor <;> simp [tick1, tick2, hr, he, hq]
        rw [hU.out.1, hU.out.2]
        go_enter Try.func41, Try.ntmps41
        go_wp2_with fail
        obtain ⟨y, hy⟩ : ∃ y, (w.setCell ⟨g, 5, none⟩ (.int .i64 (qu + 1))).alloc (Obj.cells #[Value.string ⟨#[]⟩, Value.string ⟨#[]⟩, Value.bool false] 40) = y := ⟨_, rfl⟩
        have HM : Hid (Sm 63 y g ⟨r, e, a, 3, wa, qu + 1, tr⟩) := hy ▸ (M.set5 (qu + 1)).alloc _
        have Fw : Hid (Fr [g] w y) := hy ▸ ((Fr.refl _ _).set (.inl (by simp)) _ _).alloc _
        have hx : y.heap[w.heap.size]? = some (Obj.cells #[Value.string ⟨#[]⟩, Value.string ⟨#[]⟩, Value.bool false] 40) := by
          rw [← hy]
          have := Kb.h1_0 (w.setCell ⟨g, 5, none⟩ (.int .i64 (qu + 1))) (Obj.cells #[Value.string ⟨#[]⟩, Value.string ⟨#[]⟩, Value.bool false] 40)
          simpa using this
        rw [hy]
        have q1 : y.cell? ⟨g, 1, none⟩ = some (.int .i64 e) := HM.out.ce 1
        have q5 : y.cell? ⟨g, 5, none⟩ = some (.int .i64 (qu + 1)) := HM.out.ce 5
        have q3 : y.cell? ⟨g, 3, none⟩ = some (.int .i64 3) := HM.out.ce 3
        have q6 : y.cell? ⟨g, 6, none⟩ = some (.int .i64 tr) := HM.out.ce 6
        have qf3 := HM.out.fz 3
        have qf6 := HM.out.fz 6
        obtain ⟨k0, k1, k2, kf⟩ := cells3 hx
        have kf0 := kf 0
        have kf1 := kf 1
        have kf2 := kf 2
        clear kf hy M1 F1 d0 d1 d3 d5 d6 f0 f1 f3 f5 f6
        go_quiet (fail)
        go_wp2_with fail
        refine (ask_any (((sm_drewN HM.out _).set3 4).set6 1) t301).mono ?_
        rintro e z ⟨rfl, My, Fy⟩
        have hz := res_to (((setCell_ne ne.symm _ _).trans (setCell_ne ne.symm _ _)).trans (heap_drewN hx _)) Fy ne
        have Fv : Hid (Fr [g] w z) := (((fr_drewN Fw.out _).set (.inl (by simp)) _ _).set (.inl (by simp)) _ _).trans Fy
        have HN : Hid (Sm 63 z g _) := My
        obtain ⟨k0, k1, k2, kf⟩ := cells3 hz
        have kf0 := kf 0
        have kf1 := kf 1
        have kf2 := kf 2
        simp only [sayV, asks, t301]
        clear kf My Fy hx
        go_wp2_with fail
        exact fin_set rfl _ _ _ _ _ _ _ _ _ hz rfl ⟨rfl, sm_set3 HN.out ne _ _ _, fr_set3 Fv.out (Nat.le_refl _) _ _ _⟩
theorem ticking_any {w : World} {g : Nat} {S : Ss} (M : Sm 63 w g S) : Calls Try.prog 35 #[.pointer (some ⟨g, 0, none⟩)] w fun e w' => e = .returned (.func (Fn.func (if S.st = 2 then 40 else if S.st = 3 then 41 else if S.st = 4 then 42 else 43)) #[.pointer (some ⟨g, 0, none⟩)] #[]) ∧ w' = w := by
  obtain ⟨r, e, a, st, wa, qu, tr⟩ := S
  have c3 : w.cell? ⟨g, 3, none⟩ = some (.int .i64 st) := M.ce 3
  dsimp only
  by_cases h2 : st = 2
  · subst h2
    go_enter Try.func35, Try.ntmps35
    go_wp2_with fail
    go_ret
    exact ⟨rfl, rfl⟩
  by_cases h3 : st = 3
  · subst h3
    go_enter Try.func35, Try.ntmps35
    go_wp2_with fail
    go_ret
    exact ⟨rfl, rfl⟩
  by_cases h4 : st = 4
  · subst h4
    go_enter Try.func35, Try.ntmps35
    go_wp2_with fail
    go_ret
    exact ⟨rfl, rfl⟩
  rw [if_neg h2, if_neg h3, if_neg h4]
  have g2 : (st == 2) = false := by simpa using h2
  have g3 : (st == 3) = false := by simpa using h3
  have g4 : (st == 4) = false := by simpa using h4
  go_enter Try.func35, Try.ntmps35
  go_wp2_with fail
  go_ret
  exact ⟨rfl, rfl⟩
theorem tick_any {w : World} {g : Nat} {S : Ss} (M : Sm 63 w g S) (ok : OK S) :
    Calls Try.prog 17 #[.pointer (some ⟨g, 0, none⟩)] w fun e w' => e = .returned (sayV (tick2 S)) ∧ Sm 63 w' g (tick1 S) ∧ Fr [g] w w' := by
  have lt := M.lt
  have ne : w.heap.size ≠ g := by omega
  have M1 : Sm 63 (w.alloc (Obj.cells #[Value.string ⟨#[]⟩, Value.string ⟨#[]⟩, Value.bool false] 40)) g S := M.alloc _
  have F1 : Fr [g] w (w.alloc (Obj.cells #[Value.string ⟨#[]⟩, Value.string ⟨#[]⟩, Value.bool false] 40)) := (Fr.refl _ _).alloc _
  have T0 := ticking_any M1
  rcases ok.s with hs | hs | hs | hs | hs
  · rw [hs] at T0
    rw [show tick1 S = S by simp [tick1, hs], show tick2 S = no by simp [tick2, hs]]
    go_enter Try.func17, Try.ntmps17
    go_wp2_with fail
    refine T0.mono ?_
    rintro e x ⟨rfl, hx0⟩
    rw [hx0]
    clear hx0 x
    go_wp2_with fail
    refine (tidle_any M1).mono ?_
    rintro e x ⟨rfl, Mx, Fx⟩
    have hx := res_at rfl Fx ne
    have Fw : Hid (Fr [g] w x) := F1.trans Fx
    have HM : Hid (Sm 63 x g _) := Mx
    clear Fx Mx
    obtain ⟨k0, k1, k2, kf⟩ := cells3 hx
    have kf0 := kf 0
    have kf1 := kf 1
    have kf2 := kf 2
    clear kf
    unfold sayV
    go_wp2_with fail
    exact fin_set rfl _ _ _ _ _ _ _ _ _ hx rfl ⟨rfl, sm_set3 HM.out ne _ _ _, fr_set3 Fw.out (Nat.le_refl _) _ _ _⟩
  · rw [hs] at T0
    rw [show tick1 S = S by simp [tick1, hs], show tick2 S = no by simp [tick2, hs]]
    go_enter Try.func17, Try.ntmps17
    go_wp2_with fail
    refine T0.mono ?_
    rintro e x ⟨rfl, hx0⟩
    rw [hx0]
    clear hx0 x
    go_wp2_with fail
    refine (tidle_any M1).mono ?_
    rintro e x ⟨rfl, Mx, Fx⟩
    have hx := res_at rfl Fx ne
    have Fw : Hid (Fr [g] w x) := F1.trans Fx
    have HM : Hid (Sm 63 x g _) := Mx
    clear Fx Mx
    obtain ⟨k0, k1, k2, kf⟩ := cells3 hx
    have kf0 := kf 0
    have kf1 := kf 1
    have kf2 := kf 2
    clear kf
    unfold sayV
    go_wp2_with fail
    exact fin_set rfl _ _ _ _ _ _ _ _ _ hx rfl ⟨rfl, sm_set3 HM.out ne _ _ _, fr_set3 Fw.out (Nat.le_refl _) _ _ _⟩
  · rw [hs] at T0
    go_enter Try.func17, Try.ntmps17
    go_wp2_with fail
    refine T0.mono ?_
    rintro e x ⟨rfl, hx0⟩
    rw [hx0]
    clear hx0 x
    go_wp2_with fail
    refine (tsign_any M1 hs ok.w0 (by have := ok.w1 (.inl hs); have := ok.a2; omega)).mono ?_
    rintro e x ⟨rfl, Mx, Fx⟩
    have hx := res_at rfl Fx ne
    have Fw : Hid (Fr [g] w x) := F1.trans Fx
    have HM : Hid (Sm 63 x g _) := Mx
    clear Fx Mx
    obtain ⟨k0, k1, k2, kf⟩ := cells3 hx
    have kf0 := kf 0
    have kf1 := kf 1
    have kf2 := kf 2
    clear kf
    unfold sayV
    go_wp2_with fail
    exact fin_set rfl _ _ _ _ _ _ _ _ _ hx rfl ⟨rfl, sm_set3 HM.out ne _ _ _, fr_set3 Fw.out (Nat.le_refl _) _ _ _⟩
  · rw [hs] at T0
    go_enter Try.func17, Try.ntmps17
    go_wp2_with fail
    refine T0.mono ?_
    rintro e x ⟨rfl, hx0⟩
    rw [hx0]
    clear hx0 x
    go_wp2_with fail
    refine (ton_any M1 hs ok.q0 ok.q2).mono ?_
    rintro e x ⟨rfl, Mx, Fx⟩
    have hx := res_at rfl Fx ne
    have Fw : Hid (Fr [g] w x) := F1.trans Fx
    have HM : Hid (Sm 63 x g _) := Mx
    clear Fx Mx
    obtain ⟨k0, k1, k2, kf⟩ := cells3 hx
    have kf0 := kf 0
    have kf1 := kf 1
    have kf2 := kf 2
    clear kf
    unfold sayV
    go_wp2_with fail
    exact fin_set rfl _ _ _ _ _ _ _ _ _ hx rfl ⟨rfl, sm_set3 HM.out ne _ _ _, fr_set3 Fw.out (Nat.le_refl _) _ _ _⟩
  · rw [hs] at T0
    go_enter Try.func17, Try.ntmps17
    go_wp2_with fail
    refine T0.mono ?_
    rintro e x ⟨rfl, hx0⟩
    rw [hx0]
    clear hx0 x
    go_wp2_with fail
    refine (ttest_any M1 hs ok.w0 (by have := ok.w1 (.inr hs); have := ok.a2; omega) (ok.t0 hs).2.1 (ok.t0 hs).2.2).mono ?_
    rintro e x ⟨rfl, Mx, Fx⟩
    have hx := res_at rfl Fx ne
    have Fw : Hid (Fr [g] w x) := F1.trans Fx
    have HM : Hid (Sm 63 x g _) := Mx
    clear Fx Mx
    obtain ⟨k0, k1, k2, kf⟩ := cells3 hx
    have kf0 := kf 0
    have kf1 := kf 1
    have kf2 := kf 2
    clear kf
    unfold sayV
    go_wp2_with fail
    exact fin_set rfl _ _ _ _ _ _ _ _ _ hx rfl ⟨rfl, sm_set3 HM.out ne _ _ _, fr_set3 Fw.out (Nat.le_refl _) _ _ _⟩
end Go.Proofs.Ythfpjkboglbcaaa.Sc
