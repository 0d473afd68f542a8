/- WheelSlots: what holds along the two ranges. -/
import Derived.Test.YtdhljogcoooomaaSb
namespace Go.Proofs.Ytdhljogcoooomaa.Sc
set_option linter.unusedVariables false
set_option linter.unusedSimpArgs false
open Go.RowKit Go.Maps Go.Shelf Lib0 Kb Xp Ii Di Ei Fi Gi Hi Ki Ji Mi Ti Ci Va Vb Vc Vd Ve Sr Sa Sb
theorem bnd {x : Int} (h : (Lit.int .i64 x).wf = true) : -9223372036854775808 ≤ x ∧ x ≤ 9223372036854775807 := by
  simp [Lit.wf, IntKind.min, IntKind.max, IntKind.signed, IntKind.bits] at h; omega
/-- what a body keeps: every block of what is laid down -/
def KL (A B : World) : Prop := ∀ (k : Nat) (c : Array Value) (fr : Nat × Nat), A.heap[k]? = some (Obj.cells c tL fr) → B.heap[k]? = A.heap[k]?
theorem kl_r (A : World) : KL A A := fun _ _ _ _ => rfl
theorem kl_t {A B C : World} (h : KL A B) (k : KL B C) : KL A C := fun i c fr hi => (k i c fr ((h i c fr hi).trans hi)).trans (h i c fr hi)
theorem kl_below {A B : World} (h : Below A.heap.size A B) : KL A B := fun k c fr hk => h.block k (Array.getElem?_eq_some_iff.1 hk).1
theorem kl_b (W : World) (l : Nat) (o o' : Obj) (h : W.heap[l]? = some o) (hc : o.isCells = false) : KL W (W.putObj l o') :=
  fun k c fr hk => World.putObj_heap_other (fun e => by subst e; rw [h] at hk; cases hk; simp [Obj.isCells] at hc)
theorem kl_set {A : World} {g : Nat} {c : Array Value} {t : TypeId} {fr : Nat × Nat} (h : A.heap[g]? = some (.cells c t fr)) (ht : t ≠ tL) (o : Nat) (v : Value) : KL A (A.setCell ⟨g, o, none⟩ v) :=
  fun k c' fr' hk => setCell_ne (p := ⟨g, o, none⟩) (fun e : g = k => by subst e; rw [h] at hk; cases hk; exact ht rfl) v
theorem kl_grown {A B : World} {row : Option Nat} (h : A.grownBy B row) (hr : ∀ r, row = some r → ∃ c t fr, A.heap[r]? = some (.cells c t fr) ∧ t ≠ tL) : KL A B :=
  fun k c fr hk => h.block k (Array.getElem?_eq_some_iff.1 hk).1 (fun e => by obtain ⟨c2, t, fr2, h1, h2⟩ := hr k e.symm; rw [hk] at h1; cases h1; exact h2 rfl)
theorem kl_kept : Kept3 KL (fun _ _ => True) := ⟨fun hk _ hg => ⟨(hk _ _ _ hg).trans hg, trivial⟩, fun _ _ => trivial⟩
theorem gk {A B : World} {row : Option Nat} {b : Nat} {o : Obj} (h : A.grownBy B row) (e : A.heap[b]? = some o) (hne : row ≠ some b) : B.heap[b]? = some o := (h.block b (Array.getElem?_eq_some_iff.1 e).1 (fun e2 => hne e2.symm)).trans e
theorem kf_set {n : Nat} {A : World} {g : Nat} {c : Array Value} {t : TypeId} {fr : Nat × Nat} (h : A.heap[g]? = some (.cells c t fr)) (o : Nat) (v : Value) : KeepsFrom n A (A.setCell ⟨g, o, none⟩ v) :=
  ⟨by rw [setCell_size]; exact Nat.le_refl _, fun k ob _ e ho => (setCell_ne (p := ⟨g, o, none⟩) (fun e2 : g = k => by subst e2; rw [h] at e; cases e; cases ho) v).trans e⟩
theorem kf_below {n : Nat} {A B : World} (h : Below A.heap.size A B) : KeepsFrom n A B := ⟨h.size, fun k ob _ e _ => kept h e⟩
theorem kf_grown {n : Nat} {A B : World} {row : Option Nat} (h : A.grownBy B row) (hr : ∀ r, row = some r → ∃ c t fr, A.heap[r]? = some (.cells c t fr)) : KeepsFrom n A B :=
  ⟨h.size, fun k ob _ e ho => gk h e (fun e2 => by obtain ⟨c, t, fr, h1⟩ := hr k e2; rw [e] at h1; cases h1; cases ho)⟩
theorem cells_grown {A B : World} {row : Option Nat} {b : Nat} {c : Array Value} {t : TypeId} {fr : Nat × Nat} (h : A.grownBy B row) (hr : ∀ r, row = some r → ∃ o : Obj, A.heap[r]? = some o ∧ o.isCells = false) (e : A.heap[b]? = some (.cells c t fr)) : B.heap[b]? = some (.cells c t fr) :=
  gk h e fun e2 => by obtain ⟨o, h1, h2⟩ := hr b e2; rw [e] at h1; cases h1; cases h2
abbrev tSI : TypeId := 45
theorem infoI : (Try.prog.info? tI).map (fun i => (i.zero, i.size, i.bytes)) = some (some (.int .i64 0), 1, 8) := by kernel_rfl
def fl (P : List T3) : List Int := P.flatMap fun x => [x.1, x.2.2]
theorem fl_len : ∀ P : List T3, (fl P).length = 2 * P.length
  | [] => rfl
  | x :: P => by
    have := fl_len P
    simp only [fl, List.flatMap_cons, List.length_append, List.length_cons, List.length_nil] at *
    omega
theorem fl_snoc (P : List T3) (x : T3) : fl (P ++ [x]) = fl P ++ [x.1, x.2.2] := by simp [fl]
theorem fl_at : ∀ (P : List T3) (i : Nat) (h : i < P.length), (fl P)[2 * i]? = some P[i].1 ∧ (fl P)[2 * i + 1]? = some P[i].2.2
  | [], i, h => by simp at h
  | x :: P, 0, h => by simp [fl]
  | x :: P, i + 1, h => by
    have := fl_at P i (by simpa using h)
    have e : fl (x :: P) = x.1 :: x.2.2 :: fl P := by simp [fl]
    rw [e, show 2 * (i + 1) = 2 * i + 1 + 1 by omega, show 2 * i + 1 + 1 + 1 = (2 * i + 1) + 1 + 1 by omega]
    simpa using this
/-- all below y is as it was, but one block -/
def Old (y : World) (b : Nat) (W : World) : Prop := y.heap.size ≤ W.heap.size ∧ ∀ g, g < y.heap.size → g ≠ b → W.heap[g]? = y.heap[g]?
def I1 (w y : World) (lb : Nat) (pre : List T3) (W : World) : Prop := ∃ lv, W.heap[lb]? = some (.cells #[lv] tSI) ∧ W.ownsRow y.heap.size tI 1 lv (fl pre).length (ints (fl pre)) ∧ Old y lb W ∧ Below w.heap.size w W
theorem I1_own {w y : World} {lb : Nat} (hw : w.heap.size ≤ y.heap.size) : OwnFrom y.heap.size (fun pre W => I1 w y lb pre W) := fun s A B row hs hg hr => by
  obtain ⟨lv, a1, a2, a3, a4⟩ := hs
  refine ⟨lv, cells_grown hg (fun r e => (hr r e).2) a1, own_keep a2 fun g hg2 => ?_, ⟨Nat.le_trans a3.1 hg.size, fun g h1 h2 => ?_⟩, a4.grown hg a4.size (fun k e => by have := (hr k e).1; omega)⟩
  · obtain ⟨c, hc⟩ := own_ty a2 hg2
    rw [cells_grown hg (fun r e => (hr r e).2) hc, hc]
  · exact (hg.block g (Nat.lt_of_lt_of_le h1 a3.1) (fun e => by have := (hr g e.symm).1; omega)).trans (a3.2 g h1 h2)
theorem I1_step {w y W w1 : World} {lb : Nat} {pre : List T3} {x : T3} {lv v' : Value} {o : Obj} (hw : w.heap.size ≤ lb) (hlb : lb < y.heap.size) (a1 : W.heap[lb]? = some (.cells #[lv] tSI)) (a2 : W.ownsRow y.heap.size tI 1 lv (fl pre).length (ints (fl pre))) (a3 : Old y lb W) (a4 : Below w.heap.size w W)
    (h1 : w1.ownsRow y.heap.size tI 1 v' ((fl pre).length + 2) (ints (fl pre) ++ [.int .i64 x.1, .int .i64 x.2.2])) (h2 : (W.alloc o).grownBy w1 lv.ownBlock) :
    KeepsFrom y.heap.size W (w1.setCell ⟨lb, 0, none⟩ v') ∧ KL W (w1.setCell ⟨lb, 0, none⟩ v') ∧ I1 w y lb (pre ++ [x]) (w1.setCell ⟨lb, 0, none⟩ v') := by
  have hne : ∀ g, lv.ownBlock = some g → y.heap.size ≤ g := fun g hg => (a2.lt g hg).1
  have e1 : w1.heap[lb]? = some (.cells #[lv] tSI) := gk h2 (kept (below_one W o) a1) (fun e => by have := hne lb e; omega)
  have hty : ∀ r, lv.ownBlock = some r → ∃ c t fr, (W.alloc o).heap[r]? = some (.cells c t fr) ∧ t ≠ tL := fun r hr => by
    obtain ⟨c, hc⟩ := own_ty a2 hr
    exact ⟨c, tI, (0, 0), kept (below_one W o) hc, by decide⟩
  refine ⟨?_, ?_, v', ?_, ?_, ?_, ?_⟩
  · refine ((kf_below (below_one W o)).trans (kf_grown h2 fun r hr => ?_)).trans (kf_set e1 0 v')
    obtain ⟨c, t, fr, h, _⟩ := hty r hr
    exact ⟨c, t, fr, h⟩
  · exact kl_t (kl_t (kl_below (below_one W o)) (kl_grown h2 hty)) (kl_set e1 (by decide) 0 v')
  · rw [setCell_heap e1]; rfl
  · rw [fl_snoc, List.length_append, ints, List.map_append]
    refine own_keep h1 fun g hg => setCell_ne (p := ⟨lb, 0, none⟩) (fun e : lb = g => ?_) v'
    have := (h1.lt g hg).1
    omega
  · refine ⟨?_, fun g hg hg2 => ?_⟩
    · rw [setCell_size]
      exact Nat.le_trans a3.1 (Nat.le_trans (by simp) h2.size)
    · rw [setCell_ne (p := ⟨lb, 0, none⟩) (fun e : lb = g => hg2 e.symm) v']
      have hgW : g < W.heap.size := Nat.lt_of_lt_of_le hg a3.1
      exact (h2.block g (by simp; omega) (fun e => by have := hne g e.symm; omega)).trans (((below_one W o).block g hgW).trans (a3.2 g hg hg2))
  · exact ((a4.alloc a4.size o).grown h2 (by simp; have := a4.size; omega) (fun k hk => by have := hne k hk; omega)).setCell (p := ⟨lb, 0, none⟩) (by simp; omega) v'
def I2 (w y : World) (ib : Nat) (pre : List T3) (W : World) : Prop := W.heap[ib]? = some (.cells #[.int .i64 ((2 * pre.length : Nat) : Int)] tI) ∧ Old y ib W ∧ Below w.heap.size w W
theorem I2_own {w y : World} {ib : Nat} (hw : w.heap.size ≤ y.heap.size) : OwnFrom y.heap.size (fun pre W => I2 w y ib pre W) := fun s A B row hs hg hr => by
  obtain ⟨a1, a3, a4⟩ := hs
  refine ⟨cells_grown hg (fun r e => (hr r e).2) a1, ⟨Nat.le_trans a3.1 hg.size, fun g h1 h2 => ?_⟩, a4.grown hg a4.size (fun k e => by have := (hr k e).1; omega)⟩
  exact (hg.block g (Nat.lt_of_lt_of_le h1 a3.1) (fun e => by have := (hr g e.symm).1; omega)).trans (a3.2 g h1 h2)
theorem I2_step {w y W : World} {ib : Nat} {pre : List T3} {x : T3} (hw : w.heap.size ≤ ib) (h : I2 w y ib pre W) : KeepsFrom y.heap.size W (W.setCell ⟨ib, 0, none⟩ (.int .i64 (((2 * pre.length : Nat) : Int) + 2))) ∧ KL W (W.setCell ⟨ib, 0, none⟩ (.int .i64 (((2 * pre.length : Nat) : Int) + 2))) ∧ I2 w y ib (pre ++ [x]) (W.setCell ⟨ib, 0, none⟩ (.int .i64 (((2 * pre.length : Nat) : Int) + 2))) := by
  obtain ⟨a1, a3, a4⟩ := h
  refine ⟨kf_set a1 _ _, kl_set a1 (by decide) _ _, ?_, ⟨by rw [setCell_size]; exact a3.1, fun g h1 h2 => ?_⟩, a4.setCell (p := ⟨ib, 0, none⟩) (by simp; omega) _⟩
  · rw [setCell_heap a1]
    have e : (((2 * pre.length : Nat) : Int) + 2) = ((2 * (pre ++ [x]).length : Nat) : Int) := by rw [List.length_append]; simp; omega
    rw [e]; rfl
  · rw [setCell_ne (p := ⟨ib, 0, none⟩) (fun e : ib = g => h2 e.symm)]
    exact a3.2 g h1 h2
theorem ownsRow_succ2 {w : World} {base e : Nat} {v : Value} {n : Nat} {xs : List Value} (h : w.ownsRow base e 1 v (n + 2) xs) : ∃ g cap, v = .slice (some ⟨g, 0, none⟩) (n + 2) cap := by
  obtain ⟨g, cap, hv, -, -⟩ := h.form (by omega)
  exact ⟨g, cap, hv⟩
theorem wl_old {w W : World} {a : Nat} {A : Nat → Prop} {n : Nat} {L : LT} {now last : Int} {lb : Nat} {c : Array Value} {t : TypeId} (h : Wl w a A n L now last) (hl : w.heap[lb]? = some (.cells c t (0, 0))) (ht : t ≠ tW ∧ t ≠ tS ∧ t ≠ tL) (o : Old w lb W) : Wl W a A n L now last :=
  h.keep fun g hg => o.2 g (h.lt g hg) (fun e => by subst e; exact not_res h hl ht hg)
theorem Two.old {w0 w W : World} {a b na nb : Nat} {Ta Tb : List T3} {nowa lasta nowb lastb : Int} {rb lb : Nat} {c : Array Value} {t : TypeId} (h : Two w0 w a b na nb Ta nowa lasta Tb nowb lastb rb) (hl : w.heap[lb]? = some (.cells c t (0, 0))) (ht : t ≠ tW ∧ t ≠ tS ∧ t ≠ tL) (hR : rb ≠ lb) (o : Old w lb W) (hb : Below w0.heap.size w0 W) : Two w0 W a b na nb Ta nowa lasta Tb nowb lastb rb := by
  obtain ⟨A, B, h1, h2, h3⟩ := h.wl
  exact ⟨⟨A, B, wl_old h1 hl ht o, wl_old h2 hl ht o, h3⟩, hb, h.oka, h.okb, (o.2 rb (Array.getElem?_eq_some_iff.1 h.res).1 hR).trans h.res⟩
/-- All answers an iterator -/
theorem all_any (b : Nat) (w : World) : Calls Try.prog 18 #[.pointer (some ⟨b, 0, none⟩)] w fun e w' => e = .returned (.func (.func 41) #[] #[.pointer (some ⟨w.heap.size, 0, none⟩)]) ∧ w' = w.alloc (.cells #[.pointer (some ⟨b, 0, none⟩)] tPW) := by
  have hmf : ∀ (fn : Fn) (first cap : Array Value) (w : World), (Instr.makeFunc fn first cap).run Try.prog w = .ok (.func fn first cap) w := fun _ _ _ _ => rfl
  go_enter Try.func18, Try.ntmps18
  go_wp2
  go_ret
  exact ⟨rfl, rfl⟩
end Go.Proofs.Ytdhljogcoooomaa.Sc
