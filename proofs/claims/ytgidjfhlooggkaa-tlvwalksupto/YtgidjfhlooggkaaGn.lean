/- Reading as a whole: what is given up is caught. -/
import Derived.Test.YtgidjfhlooggkaaGj
import Derived.Defers
import Derived.Recover
import Derived.Laws.Pointers
namespace Go.Proofs.Ytgidjfhlooggkaa.Gn
set_option linter.unusedVariables false
set_option linter.unusedSimpArgs false
open Go.RowKit Kb Ga Gb Gc Gd Ge Gf Gg Gh Gj Nt Np
theorem cell1 {x : World} {u : Nat} {v : Value} {t : TypeId} (h : x.heap[u]? = some (.cells #[v] t)) : x.cell? ⟨u, 0, none⟩ = some v ∧ x.frozen? ⟨u, 0, none⟩ = false := by
  constructor <;> simp only [World.cell?, World.frozen?, h] <;> rfl
set_option maxRecDepth 100000 in
theorem catch_idle (p q : Addr) (w : World) :
    CallsD Try.prog 65 #[.pointer (some p), .pointer (some q)] .returning w fun e u' w' => e = .returned (.tuple #[]) ∧ u' = .returning ∧ w' = w := by
  refine callsD_of_wpS Try.func65 rfl fun c₀ cs hu => ?_
  apply wpS_seq
  apply wpS_region
  simp [wpOpsS, go_sem, recoverD, hu, Try.ntmps65, Exit.thenS]
  refine wpS_of_wp ?_
  simp only [Array.replicate_succ, Array.replicate_zero, List.push_toArray, List.append_toArray, List.nil_append, List.cons_append, List.setIfInBounds_toArray, List.set_cons_succ, List.set_cons_zero]
  go_wp2
  cases c₀
  simp_all [bodyPostS, results, Try.results65]
set_option maxRecDepth 100000 in
theorem catch_up (p q : Nat) (why at_ : Int) (w : World) (hp : w.heap[p]? = some (.cells #[.int .i64 0] 24)) (hq : w.heap[q]? = some (.cells #[.int .i64 0] 3)) (hpq : p ≠ q) :
    CallsD Try.prog 65 #[.pointer (some ⟨p, 0, none⟩), .pointer (some ⟨q, 0, none⟩)] (.panicking (up why at_)) w fun e u' w' => e = .returned (.tuple #[]) ∧ u' = .panicking [{ v := .iface 104 (.agg #[.int .i64 why, .int .i64 at_]), recovered := true }] ∧
      w'.heap[p]? = some (.cells #[.int .i64 why] 24) ∧ w'.heap[q]? = some (.cells #[.int .i64 at_] 3) ∧ w'.os = w.os ∧ w'.tape = w.tape ∧ w'.output = w.output ∧ w.heap.size ≤ w'.heap.size ∧ ∀ k, k < w.heap.size → k ≠ p → k ≠ q → w'.heap[k]? = w.heap[k]? := by
  refine callsD_of_wpS Try.func65 rfl fun c₀ cs hu => ?_
  apply wpS_seq
  apply wpS_region
  simp [wpOpsS, go_sem, recoverD, hu, up, Try.ntmps65, Exit.thenS]
  refine wpS_of_wp ?_
  simp only [Array.replicate_succ, Array.replicate_zero, List.push_toArray, List.append_toArray, List.nil_append, List.cons_append, List.setIfInBounds_toArray, List.set_cons_succ, List.set_cons_zero]
  have hta : ∀ (v : Value) (w : World), (Instr.typeAssert (.iface 104 v) 20 104 false).run Try.prog w = .ok v w := fun _ _ => rfl
  have lp := (Array.getElem?_eq_some_iff.1 hp).1
  have lq := (Array.getElem?_eq_some_iff.1 hq).1
  go_wp2
  have Bw := below_one w (Obj.cells #[.int .i64 why, .int .i64 at_] 104)
  have hn := h1_0 w (Obj.cells #[.int .i64 why, .int .i64 at_] 104)
  have hp1 := kept Bw hp
  have hq1 := kept Bw hq
  generalize w.alloc (Obj.cells #[.int .i64 why, .int .i64 at_] 104) = W at *
  obtain ⟨n, hN⟩ : ∃ n, Hid (w.heap.size = n) := ⟨_, rfl⟩
  rw [hN.out] at lp lq hn Bw
  rw [hN.out]
  obtain ⟨cp, zp⟩ := cell1 hp1
  obtain ⟨cq, zq⟩ := cell1 hq1
  obtain ⟨c0, c1, z0, z1⟩ := held2 (Below.refl _ _) hn
  have n1 : n ≠ p := by omega
  have n2 : n ≠ q := by omega
  go_region
  refine ⟨rfl, _, rfl, .tuple #[], by simp [results, Try.results65], rfl, rfl, ?_, ?_, Bw.os, Bw.tape, Bw.output, ?_, fun k hk k1 k2 => ?_⟩
  · exact (setCell_ne (fun e => hpq e.symm) _ _).trans (setCell_heap hp1 _ _)
  · exact setCell_heap ((setCell_ne hpq _ _).trans hq1) _ _
  · have := Bw.size
    rw [hN.out] at this ⊢
    simpa [World.setCell] using this
  · exact (setCell_ne (fun e => k2 e.symm) _ _).trans ((setCell_ne (fun e => k1 e.symm) _ _).trans (Bw.block k (by rw [hN.out] at hk; exact hk)))
/-- what reading tells -/
def PostR (w : World) : NR → Ending → World → Prop
  | .bad y a, x, w' => x = .returned (.tuple #[.slice none 0 0, .int .i64 y, .int .i64 a]) ∧ Below w.heap.size w w'
  | .ok ts _ _, x, w' => ∃ v ats, x = .returned (.tuple #[v, .int .i64 0, .int .i64 0]) ∧ er ats = ts ∧ Own w' w.heap.size v ats ∧ Below w.heap.size w w'
set_option maxRecDepth 100000 in
theorem read_long (s : ByteArray) (fv : Value) (w : World) (hs : ¬ s.size ≤ 9999) (hs2 : s.size ≤ 4611686018427387904) :
    Calls Try.prog 34 #[.string s, fv] w fun e w' => e = .returned (.tuple #[.slice none 0 0, .int .i64 91, .int .i64 0]) ∧ Below w.heap.size w w' := by
  have hmf : ∀ (fn : Fn) (first cap : Array Value) (w : World), (Instr.makeFunc fn first cap).run Try.prog w = .ok (.func fn first cap) w := fun _ _ _ _ => rfl
  have dl : decide ((s.size : Int) ≤ 9999) = false := decide_eq_false (by omega)
  go_enter_defers Try.func34, Try.ntmps34
  go_wp2_with fail
  refine (must_bad _ _ _).mono ?_
  rintro _ x ⟨rfl, hx⟩
  rw [hx]
  clear hx x
  have hp := h2_0 w (.cells #[.int .i64 0] 24) (.cells #[.int .i64 0] 3)
  have hq := h2_1 w (.cells #[.int .i64 0] 24) (.cells #[.int .i64 0] 3)
  have Bw := below_two w (.cells #[.int .i64 0] 24) (.cells #[.int .i64 0] 3)
  generalize (w.alloc (.cells #[.int .i64 0] 24)).alloc (.cells #[.int .i64 0] 3) = W at *
  refine leaves_cons (f := 65) (args := #[.pointer (some ⟨w.heap.size, 0, none⟩), .pointer (some ⟨w.heap.size + 1, 0, none⟩)]) (by simp) (by simp [go_sem]) ?_
  refine (catch_up w.heap.size (w.heap.size + 1) _ _ W hp hq (by omega)).mono ?_
  rintro e u' w2 ⟨rfl, rfl, hp2, hq2, b1, b2, b3, b4, b5⟩
  obtain ⟨cp, zp⟩ := cell1 hp2
  obtain ⟨cq, zq⟩ := cell1 hq2
  have B2 : Below w.heap.size w w2 := ⟨b1.trans Bw.os, b2.trans Bw.tape, b3.trans Bw.output, Nat.le_trans Bw.size b4, fun k hk => (b5 k (Nat.lt_of_lt_of_le hk Bw.size) (by omega) (by omega)).trans (Bw.block k hk)⟩
  simp [Leaves, settle, results, Try.results34, go_sem, cp, cq, B2]
set_option maxRecDepth 100000 in
theorem read_any (s : ByteArray) (m : Nat) (R : NR) (w : World) (hs : s.size ≤ 9999) (hm : ∀ args w, (callFunc m args).run Try.prog w = .ok (.enter m args) w)
    (way : ∀ (w : World) (g : Nat), Rd w g s ((0 : Nat) : Int) (s.size : Int) ((0 : Nat) : Int) ((0 : Nat) : Int) → Calls Try.prog m #[.pointer (some ⟨g, 0, none⟩)] w (PostN w g s s.size 0 R)) :
    Calls Try.prog 34 #[.string s, .func (.func m) #[] #[]] w (PostR w R) := by
  have hmf : ∀ (fn : Fn) (first cap : Array Value) (w : World), (Instr.makeFunc fn first cap).run Try.prog w = .ok (.func fn first cap) w := fun _ _ _ _ => rfl
  have dl : decide ((s.size : Int) ≤ 9999) = true := decide_eq_true (by omega)
  go_enter_defers Try.func34, Try.ntmps34
  go_wp2_with fail
  refine (must_ok _ _ _).mono ?_
  rintro _ x ⟨rfl, hx⟩
  rw [hx]
  clear hx x
  have hp := h2_0 w (.cells #[.int .i64 0] 24) (.cells #[.int .i64 0] 3)
  have hq := h2_1 w (.cells #[.int .i64 0] 24) (.cells #[.int .i64 0] 3)
  have Bw := below_two w (.cells #[.int .i64 0] 24) (.cells #[.int .i64 0] 3)
  have sW : ((w.alloc (.cells #[.int .i64 0] 24)).alloc (.cells #[.int .i64 0] 3)).heap.size = w.heap.size + 1 + 1 := by simp
  generalize (w.alloc (.cells #[.int .i64 0] 24)).alloc (.cells #[.int .i64 0] 3) = W at *
  go_wp2_with fail
  have hr := h1_0 W (.cells #[.string s, .int .i64 0, .int .i64 (s.size : Int), .int .i64 0, .int .i64 0] 107)
  have Bv := below_one W (.cells #[.string s, .int .i64 0, .int .i64 (s.size : Int), .int .i64 0, .int .i64 0] 107)
  have sV : (W.alloc (.cells #[.string s, .int .i64 0, .int .i64 (s.size : Int), .int .i64 0, .int .i64 0] 107)).heap.size = w.heap.size + 1 + 1 + 1 := by simp; exact sW
  rw [sW] at hr
  replace hp := kept Bv hp
  replace hq := kept Bv hq
  replace Bw := keepB Bw Bv
  clear Bv
  generalize W.alloc (.cells #[.string s, .int .i64 0, .int .i64 (s.size : Int), .int .i64 0, .int .i64 0] 107) = V at *
  refine (way V _ hr).mono ?_
  intro en y hy
  have lp := (Array.getElem?_eq_some_iff.1 hp).1
  have lq := (Array.getElem?_eq_some_iff.1 hq).1
  cases R with
  | bad yy a =>
    obtain ⟨rfl, hg⟩ := hy
    replace hp := (hg.block _ lp (by intro e; injection e with e; omega)).trans hp
    replace hq := (hg.block _ lq (by intro e; injection e with e; omega)).trans hq
    have By : Below w.heap.size w y := Bw.grown hg Bw.size (by intro k e; injection e with e; omega)
    refine leaves_cons (f := 65) (args := #[.pointer (some ⟨w.heap.size, 0, none⟩), .pointer (some ⟨w.heap.size + 1, 0, none⟩)]) (by simp) (by simp [go_sem]) ?_
    refine (catch_up w.heap.size (w.heap.size + 1) _ _ y hp hq (by omega)).mono ?_
    rintro e u' w2 ⟨rfl, rfl, hp2, hq2, b1, b2, b3, b4, b5⟩
    obtain ⟨cp, zp⟩ := cell1 hp2
    obtain ⟨cq, zq⟩ := cell1 hq2
    have B2 : Below w.heap.size w w2 := ⟨b1.trans By.os, b2.trans By.tape, b3.trans By.output, Nat.le_trans By.size b4, fun k hk => (b5 k (Nat.lt_of_lt_of_le hk By.size) (by omega) (by omega)).trans (By.block k hk)⟩
    simp [Leaves, settle, results, Try.results34, go_sem, cp, cq, B2, PostR]
  | ok ts k b =>
    obtain ⟨v, ats, rfl, he, ho, hl⟩ := hy
    have hg := hl.2
    replace hp := (hg.block _ lp (by intro e; injection e with e; omega)).trans hp
    replace hq := (hg.block _ lq (by intro e; injection e with e; omega)).trans hq
    have By : Below w.heap.size w y := Bw.grown hg Bw.size (by intro k e; injection e with e; omega)
    obtain ⟨cp, zp⟩ := cell1 hp
    obtain ⟨cq, zq⟩ := cell1 hq
    have B2 : Below w.heap.size w ((y.setCell ⟨w.heap.size, 0, none⟩ (.int .i64 0)).setCell ⟨w.heap.size + 1, 0, none⟩ (.int .i64 0)) := (By.setCell (p := ⟨w.heap.size, 0, none⟩) (Nat.le_refl _) _).setCell (p := ⟨w.heap.size + 1, 0, none⟩) (by simp) _
    have HO : Hid (Own ((y.setCell ⟨w.heap.size, 0, none⟩ (.int .i64 0)).setCell ⟨w.heap.size + 1, 0, none⟩ (.int .i64 0)) w.heap.size v ats) :=
      (ho.keep fun q hq => (setCell_ne (by have := (ho.lt q hq).1; omega) _ _).trans (setCell_ne (by have := (ho.lt q hq).1; omega) _ _)).base (by omega)
    have hp3 : ((y.setCell ⟨w.heap.size, 0, none⟩ (.int .i64 0)).setCell ⟨w.heap.size + 1, 0, none⟩ (.int .i64 0)).heap[w.heap.size]? = some (.cells #[.int .i64 0] 24) := (setCell_ne (by omega) _ _).trans (setCell_heap hp _ _)
    have hq3 : ((y.setCell ⟨w.heap.size, 0, none⟩ (.int .i64 0)).setCell ⟨w.heap.size + 1, 0, none⟩ (.int .i64 0)).heap[w.heap.size + 1]? = some (.cells #[.int .i64 0] 3) := setCell_heap ((setCell_ne (by omega) _ _).trans hq) _ _
    obtain ⟨cp3, zp3⟩ := cell1 hp3
    obtain ⟨cq3, zq3⟩ := cell1 hq3
    have nz : ¬ w.heap.size + 1 = w.heap.size := by omega
    clear ho hl hg way hp hq
    go_wp2_with fail
    clear cp cq zp zq
    generalize (y.setCell ⟨w.heap.size, 0, none⟩ (.int .i64 0)).setCell ⟨w.heap.size + 1, 0, none⟩ (.int .i64 0) = Z at *
    refine leaves_cons (f := 65) (args := #[.pointer (some ⟨w.heap.size, 0, none⟩), .pointer (some ⟨w.heap.size + 1, 0, none⟩)]) (by simp) (by simp [go_sem]) ?_
    refine (catch_idle _ _ Z).mono ?_
    rintro e u' w2 ⟨rfl, rfl, rfl⟩
    simp [Leaves, settle, results, Try.results34, go_sem, cp3, cq3, PostR]
    exact ⟨ats, he, HO.out, B2⟩
end Go.Proofs.Ytgidjfhlooggkaa.Gn
