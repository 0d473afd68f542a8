/- The reader: giving up by a panic; its small steps. -/
import Derived.Test.YtgidjfhlooggkaaGc
import Derived.Test.YtgidjfhlooggkaaQl
import Derived.WalkLawsBesides
namespace Go.Proofs.Ytgidjfhlooggkaa.Gd
set_option linter.unusedVariables false
set_option linter.unusedSimpArgs false
open Go.RowKit Kb Ga Gb Gc
/-- the panic that gives bytes up -/
def up (why at_ : Int) : List PanicEntry := [{ v := .iface 104 (.agg #[.int .i64 why, .int .i64 at_]), recovered := false }]
set_option maxRecDepth 100000 in
theorem must_ok (why at_ : Int) (w : World) : Calls Try.prog 66 #[.bool true, .int .i64 why, .int .i64 at_] w fun e w' => e = .returned (.tuple #[]) ∧ w' = w := by
  go_enter Try.func66, Try.ntmps66
  go_wp2
  go_end0
  exact ⟨rfl, rfl⟩
set_option maxRecDepth 100000 in
theorem must_bad (why at_ : Int) (w : World) : Calls Try.prog 66 #[.bool false, .int .i64 why, .int .i64 at_] w fun e w' => e = .panicked (up why at_) ∧ w' = w := by
  go_enter Try.func66, Try.ntmps66
  go_wp2
  exact ⟨rfl, rfl, rfl⟩
theorem isAgg_int (y : World) : (isAgg 3).run Try.prog y = .ok false y := Try.isAgg3 y
/-- the reader's block -/
def Rd (w : World) (g : Nat) (s : ByteArray) (a e d b : Int) : Prop := w.heap[g]? = some (.cells #[.string s, .int .i64 a, .int .i64 e, .int .i64 d, .int .i64 b] 107)
theorem Rd.at {w : World} {g : Nat} {s : ByteArray} {a e d b : Int} (h : Rd w g s a e d b) :
    (w.cell? ⟨g, 0, none⟩ = some (.string s) ∧ w.cell? ⟨g, 1, none⟩ = some (.int .i64 a) ∧ w.cell? ⟨g, 2, none⟩ = some (.int .i64 e) ∧ w.cell? ⟨g, 3, none⟩ = some (.int .i64 d) ∧ w.cell? ⟨g, 4, none⟩ = some (.int .i64 b)) ∧ ∀ o, w.frozen? ⟨g, o, none⟩ = false := by
  have h' : w.heap[g]? = some (.cells #[.string s, .int .i64 a, .int .i64 e, .int .i64 d, .int .i64 b] 107) := h
  refine ⟨⟨?_, ?_, ?_, ?_, ?_⟩, fun o => ?_⟩ <;> simp [World.cell?, World.frozen?, h']
theorem setCell_heap {w : World} {g : Nat} {c : Array Value} {t : TypeId} {fr : Nat × Nat} (h : w.heap[g]? = some (.cells c t fr)) (o : Nat) (v : Value) : (w.setCell ⟨g, o, none⟩ v).heap[g]? = some (.cells (c.setIfInBounds o v) t fr) := by
  show (w.heap.modify g _)[g]? = _
  rw [Array.getElem?_modify]; simp [h]
theorem setCell_ne {w : World} {g k : Nat} (h : g ≠ k) (o : Nat) (v : Value) : (w.setCell ⟨g, o, none⟩ v).heap[k]? = w.heap[k]? := by
  show (w.heap.modify g _)[k]? = _
  rw [Array.getElem?_modify]; simp [h]
theorem Rd.set1 {w : World} {g : Nat} {s : ByteArray} {a e d b : Int} (h : Rd w g s a e d b) (x : Int) : Rd (w.setCell ⟨g, 1, none⟩ (.int .i64 x)) g s x e d b := by
  unfold Rd; rw [setCell_heap h]; rfl
theorem Rd.set2 {w : World} {g : Nat} {s : ByteArray} {a e d b : Int} (h : Rd w g s a e d b) (x : Int) : Rd (w.setCell ⟨g, 2, none⟩ (.int .i64 x)) g s a x d b := by
  unfold Rd; rw [setCell_heap h]; rfl
theorem Rd.set3 {w : World} {g : Nat} {s : ByteArray} {a e d b : Int} (h : Rd w g s a e d b) (x : Int) : Rd (w.setCell ⟨g, 3, none⟩ (.int .i64 x)) g s a e x b := by
  unfold Rd; rw [setCell_heap h]; rfl
theorem Rd.set4 {w : World} {g : Nat} {s : ByteArray} {a e d b : Int} (h : Rd w g s a e d b) (x : Int) : Rd (w.setCell ⟨g, 4, none⟩ (.int .i64 x)) g s a e d x := by
  unfold Rd; rw [setCell_heap h]; rfl
theorem gr_set (w : World) (g o : Nat) (v : Value) : w.grownBy (w.setCell ⟨g, o, none⟩ v) (some g) :=
  ⟨rfl, rfl, rfl, by simp, fun k hk hne => setCell_ne (fun e => hne (by rw [e])) o v⟩
theorem gr_trans {w x y : World} {g : Option Nat} (h : w.grownBy x g) (k : x.grownBy y g) : w.grownBy y g :=
  ⟨k.os.trans h.os, k.tape.trans h.tape, k.output.trans h.output, Nat.le_trans h.size k.size, fun i hi hne => (k.block i (Nat.lt_of_lt_of_le hi h.size) hne).trans (h.block i hi hne)⟩
theorem gr_refl (w : World) (g : Option Nat) : w.grownBy w g := ⟨rfl, rfl, rfl, Nat.le_refl _, fun _ _ _ => rfl⟩
theorem gr_below {w y : World} (b : Below w.heap.size w y) (g : Option Nat) : w.grownBy y g := ⟨b.os, b.tape, b.output, b.size, fun k hk _ => b.block k hk⟩
theorem Rd.next {w y : World} {g : Nat} {s : ByteArray} {a e d b : Int} (h : Rd w g s a e d b) (hb : Below w.heap.size w y) : Rd y g s a e d b := kept hb h
/-- what a step of the reader leaves behind: the reader so, all else as it was, or new -/
structure Lft (w : World) (g : Nat) (s : ByteArray) (a e d b : Int) (w' : World) : Prop where
  rd : Rd w' g s a e d b
  gr : w.grownBy w' (some g)
theorem Lft.then {w x y : World} {g : Nat} {s s' : ByteArray} {a e d b a' e' d' b' : Int} (h : Lft w g s a e d b x) (k : Lft x g s' a' e' d' b' y) : Lft w g s' a' e' d' b' y := ⟨k.1, gr_trans h.2 k.2⟩
theorem left_drew {w y : World} {g : Nat} {s : ByteArray} {a e d b : Int} (h : Lft w g s a e d b y) (n : Nat) : Lft w g s a e d b (y.drewN n) :=
  h.then ⟨h.1.next (below_drewN (Below.refl _ _) n), gr_below (below_drewN (Below.refl _ _) n) _⟩
set_option maxRecDepth 100000 in
theorem want_ok {w : World} {g : Nat} {s : ByteArray} {a e d b : Int} (h : Rd w g s a e d b) (n : Int) (hn : n ≤ e - a) (h0 : 0 ≤ a) (h1 : a ≤ 1048576) (h2 : 0 ≤ e) (h3 : e ≤ 1048576) :
    Calls Try.prog 104 #[.pointer (some ⟨g, 0, none⟩), .int .i64 n] w fun x w' => x = .returned (.tuple #[]) ∧ Lft w g s a e d b w' := by
  obtain ⟨⟨c0, c1, c2, c3, c4⟩, fz⟩ := h.at
  go_enter Try.func104, Try.ntmps104
  go_wp2_with fail
  go_quiet ((go_at_call 66; exact Calls.quiet_of_same (must_ok _ _ _)))
  have b1 := below_drewN (Below.refl w.heap.size w) nq
  go_end0
  exact ⟨rfl, ⟨h.next b1, gr_below b1 _⟩⟩
set_option maxRecDepth 100000 in
theorem want_bad {w : World} {g : Nat} {s : ByteArray} {a e d b : Int} (h : Rd w g s a e d b) (n : Int) (hn : ¬ n ≤ e - a) (h0 : 0 ≤ a) (h1 : a ≤ 1048576) (h2 : 0 ≤ e) (h3 : e ≤ 1048576) :
    Calls Try.prog 104 #[.pointer (some ⟨g, 0, none⟩), .int .i64 n] w fun x w' => x = .panicked (up 10 e) ∧ w.grownBy w' (some g) := by
  obtain ⟨⟨c0, c1, c2, c3, c4⟩, fz⟩ := h.at
  go_enter Try.func104, Try.ntmps104
  have hgl : g < w.heap.size := (Array.getElem?_eq_some_iff.1 h).1
  go_wp2_with fail
  refine Ql.region_lastL (C := Ql.Cl w) (by kernel_rfl) rfl (by kernel_rfl) (by kernel_rfl) (by kernel_rfl) rfl ((Below.refl _ _).drew) ?_
  repeat (refine wpQuiet_step (fun K hK => ?_); first
    | (refine Ql.q_cell (by rfl) 3 _ rfl g 1 rfl _ c1 hgl (fun y => isAgg_int y) (hK _ ?_); clear hK K)
    | (refine Ql.q_cell (by rfl) 3 _ rfl g 2 rfl _ c2 hgl (fun y => isAgg_int y) (hK _ ?_); clear hK K)
    | (go_simp; refine hK _ ?_; clear hK K)
    | (go_simp; refine ⟨_, fun _ _ => rfl, hK _ ?_⟩; clear hK K)
    | (go_simp; refine ⟨_, fun _ _ => ⟨rfl, rfl⟩, hK _ ?_⟩; clear hK K))
  refine wpQuiet_nil ?_
  intro y1 hy1
  go_simp
  rw [show decide (n ≤ IntKind.i64.wrap (e - a)) = false from decide_eq_false (by rw [IntKind.wrap_i64]; omega)]
  refine (must_bad _ _ _).mono ?_
  rintro _ x ⟨rfl, rfl⟩
  exact ⟨rfl, rfl, gr_below hy1 _⟩
end Go.Proofs.Ytgidjfhlooggkaa.Gd
