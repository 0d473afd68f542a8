/- totals: a book in memory; has, Counts. -/
import Derived.Test.YteaanenhefbkjaaDoorTe
import Derived.Test.YteaanenhefbkjaaDoorQt
import Derived.Deep.MidRow
namespace Go.Proofs.YteaanenhefbkjaaDoor.Tf
set_option linter.unusedVariables false
set_option linter.unusedSimpArgs false
open Go.RowKit Lib0 Kb Xp Ic Ta Tb Tc Td Te
attribute [local go_sem] Oper.semAt_some
theorem res_row_tmp {P : Program} {fn : Func} {p u : Tmp} {ty : TypeId} (h : fn.results = #[.cell p ty, .tmp u]) (tmps : Array Value) (w : World) (g : Nat) (t : TypeId) (cs : Array Value) (fr : Nat × Nat) (d : TypeDesc)
    (hp : tmps.getD p undef = .pointer (some ⟨g, 0, none⟩)) (hg : w.heap[g]? = some (.cells cs t fr))
    (hu : P.underlying ty = some d) (hd : (match d with | .struct _ | .array _ _ => true | _ => false) = true) (hi : (P.info? ty).map (·.size) = some cs.size) :
    (results fn tmps).run P w = .ok (.tuple #[.agg cs, tmps.getD u undef]) w := by
  rw [results_cell_tmp h, hp]
  simp only [asAddr, Sem.run_pure, Result.andThen_ok, run_loadVar_row w g t ty cs fr d hg hu hd hi]
abbrev tBo : TypeId := 56
/-- a book of n links; F: what each has -/
structure BkT (x : World) (base b g n : Nat) (F : Nat → Nat → Int) : Prop where
  blk : x.heap[b]? = some (.cells #[.slice (some ⟨g, 0, none⟩) n n] tBo (0, 0))
  rows : ∀ k, k < n → x.rangeAt g (k * 12) (ta (F k)).toList
  there : ∀ k, k < n → x.there g (k * 12) 12
  lowb : base ≤ b
  lowg : base ≤ g
  ltg : g < x.heap.size
  ne : b ≠ g
  pos : 0 < n
  few : n ≤ 33
theorem BkT.below {x y : World} {base b g n : Nat} {F : Nat → Nat → Int} (h : BkT x base b g n F) (k : Below x.heap.size x y) : BkT y base b g n F :=
  ⟨kept k h.blk, fun i hi j v hv => (k.cell h.ltg).trans (h.rows i hi j v hv), fun i hi j hj => by
    have h1 := h.there i hi j hj
    have h2 := k.block g h.ltg
    exact ⟨by rw [show y.cell? ⟨g, i * 12 + j, none⟩ = x.cell? ⟨g, i * 12 + j, none⟩ from k.cell h.ltg]; exact h1.1, by have h3 := h1.2; unfold World.frozen? at h3 ⊢; rw [h2]; exact h3⟩, h.lowb, h.lowg, Nat.lt_of_lt_of_le h.ltg k.size, h.ne, h.pos, h.few⟩
theorem BkT.cell {x : World} {base b g n : Nat} {F : Nat → Nat → Int} (h : BkT x base b g n F) : x.cell? ⟨b, 0, none⟩ = some (.slice (some ⟨g, 0, none⟩) n n) := by simp [World.cell?, h.blk]
theorem has_yes {x : World} {base b g n : Nat} {F : Nat → Nat → Int} (h : BkT x base b g n F) (k : Nat) (hk : k < n) : Calls Tryd.prog 12 #[.pointer (some ⟨b, 0, none⟩), .int .i64 (k : Int)] x fun e w' => e = .returned (.bool true) ∧ w' = x := by
  have c0 := h.cell
  have q0 : (0 : Int) ≤ (k : Int) := by omega
  have q1 : (k : Int) < (n : Int) := by omega
  clear h
  go_enter Tryd.func12, Tryd.ntmps12
  go_wp2_with fail
  go_ret
  exact ⟨rfl, rfl⟩
theorem has_top {x : World} {base b g n : Nat} {F : Nat → Nat → Int} (h : BkT x base b g n F) : Calls Tryd.prog 12 #[.pointer (some ⟨b, 0, none⟩), .int .i64 (n : Int)] x fun e w' => e = .returned (.bool false) ∧ w' = x := by
  have c0 := h.cell
  have q0 : (0 : Int) ≤ (n : Int) := by omega
  have q1 : decide ((n : Int) < (n : Int)) = false := decide_eq_false (by omega)
  clear h
  go_enter Tryd.func12, Tryd.ntmps12
  go_wp2_with fail
  go_ret
  exact ⟨rfl, rfl⟩
theorem has_neg (x : World) (b : Nat) : Calls Tryd.prog 12 #[.pointer (some ⟨b, 0, none⟩), .int .i64 (-1)] x fun e w' => e = .returned (.bool false) ∧ w' = x := by
  go_enter Tryd.func12, Tryd.ntmps12
  go_wp2_with fail
  go_ret
  exact ⟨rfl, rfl⟩
set_option maxRecDepth 100000 in
set_option maxHeartbeats 3200000 in
theorem counts_yes {x : World} {base b g n : Nat} {F : Nat → Nat → Int} (h : BkT x base b g n F) (k : Nat) (hk : k < n) : Calls Tryd.prog 6 #[.pointer (some ⟨b, 0, none⟩), .int .i64 (k : Int)] x fun e w' => e = .returned (.tuple #[.agg (ta (F k)), .int .i64 0]) ∧ Below x.heap.size x w' := by
  obtain ⟨x1, hx1⟩ : ∃ x1, x.alloc (.cells (ta fun _ => 0) 28) = x1 := ⟨_, rfl⟩
  have B1 : Below x.heap.size x x1 := hx1 ▸ below_one _ _
  have hr1 : x1.heap[x.heap.size]? = some (.cells (ta fun _ => 0) 28 (0, 0)) := hx1 ▸ h1_0 _ _
  have h1 := h.below B1
  have HH : Hid (Calls Tryd.prog 12 #[.pointer (some ⟨b, 0, none⟩), .int .i64 (k : Int)] x1 fun e w' => e = .returned (.bool true) ∧ w' = x1) := has_yes h1 k hk
  have HC : Hid (∀ y, Calls Tryd.prog 13 #[.agg (ta (F k))] y fun e w' => e = .returned (.agg (ta (F k))) ∧ Below y.heap.size y w') := fun y => counts_any (F k) y
  have c0 := h1.cell
  have hrow := h1.rows k hk
  have HR : Hid (∀ y, Below x1.heap.size x1 y → Below x.heap.size x (y.setRow x.heap.size (ta (F k))) ∧ (y.setRow x.heap.size (ta (F k))).heap[x.heap.size]? = some (.cells (ta (F k)) 28 (0, 0)) ∧ y.heap[x.heap.size]? = some (.cells (ta fun _ => 0) 28 (0, 0))) := fun y hy => ⟨below_setRow (keepB B1 hy) (Nat.le_refl _) _, setRow_at (kept hy hr1) _, kept hy hr1⟩
  have q0 : (k : Int) < (n : Int) := by omega
  have q1 : (0 : Int) ≤ (k : Int) := by omega
  have HX1 : Hid (x.alloc (.cells (ta fun _ => 0) 28) = x1) := hx1
  clear h h1 B1 hr1 hx1
  generalize F k = f at *
  go_enter Tryd.func6, Tryd.ntmps6
  go_wp2_with fail
  rw [show x.alloc (.cells #[.int .i64 0, .int .i64 0, .int .i64 0, .int .i64 0, .int .i64 0, .int .i64 0, .int .i64 0, .int .i64 0, .int .i64 0, .int .i64 0, .int .i64 0, .int .i64 0] 28) = x1 from HX1.out]
  refine HH.out.mono ?_
  rintro e y ⟨rfl, rfl⟩
  go_wp2_with (first
    | (refine wpList_load_mid rfl tTa _ rfl g (k * 12) (by rfl) (ta f).toList _ hrow Tryd.underlying53 rfl infoTa ?_)
    | fail)
  refine (HC.out _).mono ?_
  rintro e y2 ⟨rfl, hy2⟩
  obtain ⟨r1, r2, r3⟩ := HR.out y2 hy2
  have HR1 : Hid (Below x.heap.size x (y2.setRow x.heap.size (ta f))) := r1
  have HR2 : Hid ((y2.setRow x.heap.size (ta f)).heap[x.heap.size]? = some (.cells (ta f) 28 (0, 0))) := r2
  clear hy2 hrow c0 r1 r2
  go_wp2_with (first
    | (refine wpList_store_row rfl 28 _ _ rfl x.heap.size (ta f) (by rfl) (by rfl) _ _ r3 infoCo (by rfl) (by simp [ta, Value.oneCell']) ?_)
    | fail)
  refine bodyPost_ret (v := .tuple #[.agg (ta f), .int .i64 0]) (res_row_tmp (fn := Tryd.f6) (p := 4) (u := 5) rfl _ _ x.heap.size 28 _ _ _ rfl HR2.out Tryd.underlying28 rfl infoCo) rfl ?_
  exact ⟨rfl, HR1.out⟩
set_option maxRecDepth 100000 in
set_option maxHeartbeats 3200000 in
theorem counts_no (x : World) (b : Nat) (i : Int) (hh : ∀ y, Below x.heap.size x y → Calls Tryd.prog 12 #[.pointer (some ⟨b, 0, none⟩), .int .i64 i] y fun e w' => e = .returned (.bool false) ∧ w' = y) : Calls Tryd.prog 6 #[.pointer (some ⟨b, 0, none⟩), .int .i64 i] x fun e w' => e = .returned (.tuple #[.agg (ta fun _ => 0), .int .i64 40]) ∧ Below x.heap.size x w' := by
  obtain ⟨x1, hx1⟩ : ∃ x1, x.alloc (.cells (ta fun _ => 0) 28) = x1 := ⟨_, rfl⟩
  have B1 : Below x.heap.size x x1 := hx1 ▸ below_one _ _
  have hr1 : x1.heap[x.heap.size]? = some (.cells (ta fun _ => 0) 28 (0, 0)) := hx1 ▸ h1_0 _ _
  have HH : Hid (Calls Tryd.prog 12 #[.pointer (some ⟨b, 0, none⟩), .int .i64 i] x1 fun e w' => e = .returned (.bool false) ∧ w' = x1) := hh x1 B1
  have HR1 : Hid (Below x.heap.size x (x1.setRow x.heap.size (ta fun _ => 0))) := below_setRow B1 (Nat.le_refl _) _
  have HR2 : Hid ((x1.setRow x.heap.size (ta fun _ => 0)).heap[x.heap.size]? = some (.cells (ta fun _ => 0) 28 (0, 0))) := setRow_at hr1 _
  have HX1 : Hid (x.alloc (.cells (ta fun _ => 0) 28) = x1) := hx1
  clear hh B1 hx1
  go_enter Tryd.func6, Tryd.ntmps6
  go_wp2_with fail
  rw [show x.alloc (.cells #[.int .i64 0, .int .i64 0, .int .i64 0, .int .i64 0, .int .i64 0, .int .i64 0, .int .i64 0, .int .i64 0, .int .i64 0, .int .i64 0, .int .i64 0, .int .i64 0] 28) = x1 from HX1.out]
  refine HH.out.mono ?_
  rintro e y ⟨rfl, rfl⟩
  go_wp2_with (first
    | (refine wpList_store_row rfl 28 _ _ rfl x.heap.size (ta fun _ => 0) (by rfl) (by rfl) _ _ hr1 infoCo (by rfl) (by simp [ta, Value.oneCell']) ?_)
    | fail)
  refine bodyPost_ret (v := .tuple #[.agg (ta fun _ => 0), .int .i64 40]) (res_row_tmp (fn := Tryd.f6) (p := 4) (u := 5) rfl _ _ x.heap.size 28 _ _ _ rfl HR2.out Tryd.underlying28 rfl infoCo) rfl ?_
  exact ⟨rfl, HR1.out⟩
end Go.Proofs.YteaanenhefbkjaaDoor.Tf
