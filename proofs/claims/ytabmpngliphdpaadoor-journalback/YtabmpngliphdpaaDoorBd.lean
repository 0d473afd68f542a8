/- A strings.Builder: what is written (as in stage 9's). -/
import Derived.Test.YtabmpngliphdpaaDoorJg
import Derived.Test.YtabmpngliphdpaaDoorShelf
import Derived.Lib.Builder
import Derived.Lib.AppendStr
import Derived.Laws.Externs
namespace Go.Proofs.YtabmpngliphdpaaDoor.Bd
set_option linter.unusedVariables false
set_option linter.unusedSimpArgs false
open Go.RowKit Go.Shelf Lib0 Kb
/-- the one row that may have turned, and where the new one lies -/
structure Gr (w w' : World) (v v' : Value) : Prop where
  grown : w.grownBy w' v.ownBlock
  at_ : ∀ k, v'.ownBlock = some k → v.ownBlock = some k ∨ w.heap.size ≤ k
theorem gr_step {x y : World} {v : Value} {o : Obj} {g n c : Nat} (gr : (x.alloc o).grownBy y v.ownBlock) (hat : v.ownBlock = some g ∨ g = x.heap.size + 1) : Gr x y v (.slice (some ⟨g, 0, none⟩) n c) :=
  ⟨⟨gr.os, gr.tape, gr.output, Nat.le_trans (by simp) gr.size, fun i hi hne => (gr.block i (by simp; omega) hne).trans (Below.heap_alloc x o i hi)⟩, fun k hk => by
    simp only [Value.ownBlock, Option.some.injEq] at hk
    subst hk
    rcases hat with h | h
    · exact .inl h
    · exact .inr (by omega)⟩
theorem scne {w : World} {g k : Nat} (h : g ≠ k) (o : Nat) (v : Value) : (w.setCell ⟨g, o, none⟩ v).heap[k]? = w.heap[k]? := by
  show (w.heap.modify g _)[k]? = _
  rw [Array.getElem?_modify]; simp [h]
theorem owns_keep {w w' : World} {b e s n : Nat} {v : Value} {xs : List Value} (h : w.ownsRow b e s v n xs) (hk : ∀ p, v.ownBlock = some p → w'.heap[p]? = w.heap[p]?) : w'.ownsRow b e s v n xs := by
  refine ⟨h.1, ?_⟩
  rcases h.2 with h2 | ⟨g, c, cur, rfl, hb, hg, r⟩
  · exact .inl h2
  · exact .inr ⟨g, c, cur, rfl, hb, (hk g rfl).trans hg, r⟩
theorem infoB : (Tryd.prog.info? 5).map (fun i => (i.zero, i.size, i.bytes)) = some (some (.int .u8 0), 1, 1) := by kernel_rfl
/-- the builder at a block holds these bytes -/
def Is (w : World) (B b : Nat) (l : List UInt8) : Prop := ∃ p v, w.heap[b]? = some (.cells #[p, v] 81) ∧ (p = .pointer none ∨ p = .pointer (some ⟨b, 0, none⟩)) ∧ w.ownsRow B 5 1 v l.length (Lib.byteCells l) ∧ B ≤ b
/-- builders and rows of bytes alone have turned -/
structure Ch (B : Nat) (w w' : World) : Prop where
  below : Below B w w'
  same : ∀ (k : Nat) (o : Obj), w.heap[k]? = some o → (∀ c fr, o ≠ .cells c 5 fr) → (∀ c fr, o ≠ .cells c 81 fr) → w'.heap[k]? = some o
theorem Ch.refl (B : Nat) (w : World) : Ch B w w := ⟨Below.refl _ _, fun _ _ h _ _ => h⟩
theorem Ch.trans {B : Nat} {a b c : World} (h : Ch B a b) (k : Ch B b c) : Ch B a c := ⟨h.1.trans k.1, fun i o hi h1 h2 => k.2 i o (h.2 i o hi h1 h2) h1 h2⟩
theorem ch_below {B : Nat} {a b : World} (h : Below a.heap.size a b) (hB : B ≤ a.heap.size) : Ch B a b := ⟨h.mono hB, fun k o hk _ _ => (h.block k (Array.getElem?_eq_some_iff.1 hk).1).trans hk⟩
theorem ch_set {B : Nat} {w : World} {b : Nat} {c : Array Value} (h : w.heap[b]? = some (.cells c 81)) (hB : B ≤ b) (o : Nat) (v : Value) : Ch B w (w.setCell ⟨b, o, none⟩ v) :=
  ⟨(Below.refl _ _).setCell (p := ⟨b, o, none⟩) hB v, fun k o' hk _ h2 => (scne (fun e => by subst e; rw [h] at hk; cases hk; exact h2 _ _ rfl) _ _).trans hk⟩
theorem cell3 {x : World} {g : Nat} {a b c : Value} {t : TypeId} (h : x.heap[g]? = some (.cells #[a, b, c] t)) : x.cell? ⟨g, 0, none⟩ = some a ∧ x.cell? ⟨g, 1, none⟩ = some b ∧ x.cell? ⟨g, 2, none⟩ = some c := by
  refine ⟨?_, ?_, ?_⟩ <;> simp only [World.cell?, h] <;> rfl
theorem row_ne {X : World} {base n : Nat} {v : Value} {xs : List Value} {k : Nat} {o : Obj} (ho : X.ownsRow base 5 1 v n xs) (hk : X.heap[k]? = some o) (hne : ∀ c fr, o ≠ .cells c 5 fr) : some k ≠ v.ownBlock := fun e => by
  rcases ho.2 with ⟨rfl, _⟩ | ⟨g, cap, cur, rfl, _, hg, _⟩
  · simp [Value.ownBlock] at e
  · simp only [Value.ownBlock, Option.some.injEq] at e
    subst e
    rw [hg] at hk; cases hk
    exact hne _ _ rfl
theorem ch_row {B n : Nat} {w w' : World} {v : Value} {xs : List Value} (h : w.grownBy w' v.ownBlock) (ho : w.ownsRow B 5 1 v n xs) (hB : B ≤ w.heap.size) : Ch B w w' :=
  ⟨(Below.refl B w).grown h hB fun k hk => (ho.lt k hk).1, fun k o hk h1 _ => (h.block k (Array.getElem?_eq_some_iff.1 hk).1 (row_ne ho hk h1)).trans hk⟩
theorem ch_on {B : Nat} {w w' : World} {k : Nat} {c : Array Value} {t : TypeId} {fr : Nat × Nat} (h : Ch B w w') (hk : w.heap[k]? = some (.cells c t fr)) (h1 : t ≠ 5) (h2 : t ≠ 81) : w'.heap[k]? = some (.cells c t fr) :=
  h.2 k _ hk (fun c' fr' e => by cases e; exact h1 rfl) (fun c' fr' e => by cases e; exact h2 rfl)
theorem Is.lt {w : World} {B b : Nat} {l : List UInt8} (h : Is w B b l) : b < w.heap.size := by
  obtain ⟨p, v, hb, _⟩ := h
  exact (Array.getElem?_eq_some_iff.1 hb).1
theorem Is.below {w w' : World} {B b : Nat} {l : List UInt8} (h : Is w B b l) (hb : Below w.heap.size w w') : Is w' B b l := by
  obtain ⟨p, v, h1, h2, h3, h4⟩ := h
  exact ⟨p, v, kept hb h1, h2, owns_keep h3 fun q hq => hb.block q (h3.lt q hq).2, h4⟩
theorem Is.lib {w : World} {B b : Nat} {l : List UInt8} (h : Is w B b l) : Lib.IsBuilder 81 5 B b (Lib.byteCells l) w := by
  obtain ⟨p, v, h1, h2, h3, h4⟩ := h
  have hl : (Lib.byteCells l).length = l.length := by simp [Lib.byteCells]
  have hne : v.ownBlock ≠ some b := fun e => row_ne h3 h1 (fun c fr e => by cases e) e.symm
  rcases h2 with rfl | rfl
  · exact .inl ⟨h4, v, h1, by rw [hl]; exact h3, hne⟩
  · exact .inr ⟨h4, v, h1, by rw [hl]; exact h3, hne⟩
theorem sizeB : ∃ j, Tryd.prog.info? 81 = some j ∧ j.size = 2 := by
  have h : (Tryd.prog.info? 81).map (·.size) = some 2 := by kernel_rfl
  obtain ⟨j, hj, hs⟩ := Option.map_eq_some_iff.1 h
  exact ⟨j, hj, hs⟩
theorem liesB : liesAt Tryd.prog Tryd.prog.depth 81 (2 / Tryd.prog.cellsOf 81) 0 81 1 = true := by kernel_rfl
set_option maxRecDepth 100000 in
theorem check_any {w : World} {B b : Nat} {l : List UInt8} (h : Is w B b l) :
    Calls Tryd.prog 71 #[.pointer (some ⟨b, 0, none⟩)] w fun e w' => e = .returned (.tuple #[]) ∧ (∃ v, w'.heap[b]? = some (.cells #[.pointer (some ⟨b, 0, none⟩), v] 81) ∧ w'.ownsRow B 5 1 v l.length (Lib.byteCells l)) ∧ Ch B w w' := by
  obtain ⟨p, v, h1, h2, h3, h4⟩ := h
  obtain ⟨j, hj, hjs⟩ := sizeB
  have hsh : w.shape? b = some (81, 2) := by simp [World.shape?, h1]
  have c0 : w.cell? ⟨b, 0, none⟩ = some p := by simp [World.cell?, h1]
  have z0 : w.frozen? ⟨b, 0, none⟩ = false := by simp [World.frozen?, h1]
  have n1 := Jg.setCell_heap h1 0 (.pointer (some ⟨b, 0, none⟩))
  have o1 : (w.setCell ⟨b, 0, none⟩ (.pointer (some ⟨b, 0, none⟩))).ownsRow B 5 1 v l.length (Lib.byteCells l) := owns_keep h3 fun q hq => scne (fun e => row_ne h3 h1 (fun c fr e => by cases e) (by rw [hq, e])) _ _
  have ch := ch_set h1 h4 0 (.pointer (some ⟨b, 0, none⟩))
  rcases h2 with rfl | rfl
  · clear h3 h1
    go_enter Tryd.func71, Tryd.ntmps71
    go_wp2
    rw [Lib.run_to_unsafe w ⟨b, 0, none⟩ Tryd.underlying79 Tryd.underlying112 hj (by rw [hjs]; decide) hsh (Nat.zero_lt_succ 1)]
    simp only [Result.andThen]
    rw [Oper.upon_value]
    go_wp2
    rw [run_callFunc_extern Tryd.func73 (by kernel_rfl) (by kernel_rfl) (by kernel_rfl) (e := Extern.AbiNoEscape.same) (by kernel_rfl)]
    rw [Lib.run_noEscape]
    simp only [Result.andThen]
    rw [Oper.upon_value]
    go_wp2
    rw [Lib.run_from_unsafe w ⟨b, 0, none⟩ Tryd.underlying112 Tryd.underlying79 hj hsh liesB]
    simp only [Result.andThen]
    rw [Oper.upon_value]
    go_wp2
    go_end0
    exact ⟨rfl, ⟨v, n1, o1⟩, ch⟩
  · clear n1 o1 ch
    have H1 : Hid (w.heap[b]? = some (.cells #[.pointer (some ⟨b, 0, none⟩), v] 81)) := h1
    have H3 : Hid (World.ownsRow w B 5 1 v l.length (Lib.byteCells l)) := h3
    clear h1 h3
    go_enter Tryd.func71, Tryd.ntmps71
    go_wp2
    rw [Lib.run_neq_ptr_same w _ Tryd.underlying79 hj]
    go_wp2
    go_end0
    exact ⟨rfl, ⟨v, H1.out, H3.out⟩, Ch.refl _ _⟩
theorem owns_sl {w : World} {base e s n : Nat} {v : Value} {xs : List Value} (h : w.ownsRow base e s v n xs) : ∃ o cap, v = .slice o n cap := by
  rcases h.2 with ⟨rfl, h0⟩ | ⟨g, cap, cur, rfl, _⟩
  · exact ⟨none, 0, by rw [h0]⟩
  · exact ⟨_, cap, rfl⟩
set_option maxRecDepth 100000 in
theorem writeByte_any {w : World} {B b : Nat} {l : List UInt8} (h : Is w B b l) (c : UInt8) (C : Int) (hC : (c.toNat : Int) = C) (hl : l.length ≤ 70368744177664) :
    Calls Tryd.prog 70 #[.pointer (some ⟨b, 0, none⟩), .int .u8 C] w fun e w' => e = .returned .nilIface ∧ Is w' B b (l ++ [c]) ∧ Ch B w w' := by
  obtain ⟨ia, hia, hza0, hza1, hza2⟩ := info_parts infoB
  have hlt := h.lt
  have hB : B ≤ b := by obtain ⟨p, v, h1, h2, h3, h4⟩ := h; exact h4
  go_enter Tryd.func70, Tryd.ntmps70
  go_wp2_with fail
  refine (check_any h).mono ?_
  rintro _ x ⟨rfl, ⟨v, h1, h2⟩, ch⟩
  obtain ⟨o, cap, rfl⟩ := owns_sl h2
  obtain ⟨L, HL, hL⟩ : ∃ L, Hid (l.length = L) ∧ L ≤ 70368744177664 := ⟨_, rfl, hl⟩
  rw [HL.out] at h1 h2
  have c1 : x.cell? ⟨b, 1, none⟩ = some (.slice o L cap) := by simp [World.cell?, h1]
  have z1 : x.frozen? ⟨b, 1, none⟩ = false := by simp [World.frozen?, h1]
  have HO : Hid (World.ownsRow x B 5 1 (.slice o L cap) L (Lib.byteCells l)) := h2
  have H1 : Hid (x.heap[b]? = some (.cells #[.pointer (some ⟨b, 0, none⟩), .slice o L cap] 81)) := h1
  have hxs := ch.1.size
  clear h h1 h2
  go_wp2_with (at_builtin; refine wpList_append_lies _ rfl _ _ _ rfl B 5 ia _ 1 1 Tryd.underlying75 hia hza0 hza1 hza2 rfl (by omega) _ L _ rfl (HO.out.alloc _) ⟨x.heap.size, 0, Option.none⟩ 1 1 _ rfl (by rfl) (World.news_of_block (heap_alloc_new x _)) (by simp [Value.oneCell']) (by omega) (by unfold maxLen; omega) (by omega) (by first | omega | (simp <;> omega)) (x.heap.size + 1) (by simp) ?_; intro g1 c1' w1 own1 gr1 hat1 hlt1; have G1 := (show Gr _ _ _ (.slice (some ⟨g1, 0, Option.none⟩) (L + 1) c1') from gr_step gr1 hat1); have n1 := (ch_row (B := B) G1.1 HO.out (by omega)).2 b _ H1.out (fun c fr e => by cases e); have n2 : w1.heap[b]? = some (.cells #[.pointer (some ⟨b, 0, none⟩), .slice o L cap] 81) := (G1.1.block b (Array.getElem?_eq_some_iff.1 H1.out).1 (row_ne HO.out H1.out (fun c fr e => by cases e))).trans H1.out; have k1 : w1.cell? ⟨b, 1, none⟩ = some (.slice o L cap) := (by simp [World.cell?, n2]); have k2 : w1.frozen? ⟨b, 1, none⟩ = false := (by simp [World.frozen?, n2]); have CR := ch_row (B := B) G1.1 HO.out (by omega); replace own1 : Hid (World.ownsRow _ _ _ _ _ _ _) := own1; clear gr1 hat1 n1)
  go_ret
  have n3 := Jg.setCell_heap n2 1 (.slice (some ⟨g1, 0, none⟩) (L + 1) c1')
  have o3 := own1.out
  refine ⟨rfl, ⟨_, _, n3, .inr rfl, ?_, hB⟩, ch.trans (CR.trans (ch_set n2 hB 1 _))⟩
  have o4 : (w1.setCell ⟨b, 1, none⟩ (.slice (some ⟨g1, 0, none⟩) (L + 1) c1')).ownsRow B 5 1 (.slice (some ⟨g1, 0, none⟩) (L + 1) c1') (L + 1) _ := owns_keep o3 fun q hq => scne (fun e => row_ne o3 n2 (fun c fr e => by cases e) (by rw [hq, e])) _ _
  rw [List.length_append, HL.out, Lib.byteCells_append]
  simp only [Lib.byteCells, List.map_cons, List.map_nil, hC]
  exact o4
set_option maxRecDepth 100000 in
theorem writeString_any {w : World} {B b : Nat} {l : List UInt8} (h : Is w B b l) (s : ByteArray) (hl : l.length + s.size ≤ 70368744177664) :
    Calls Tryd.prog 58 #[.pointer (some ⟨b, 0, none⟩), .string s] w fun e w' => e = .returned (.tuple #[.int .i64 (s.size : Int), .nilIface]) ∧ Is w' B b (l ++ s.data.toList) ∧ Ch B w w' := by
  obtain ⟨ia, hia, hza0, hza1, hza2⟩ := info_parts infoB
  have hlt := h.lt
  have hB : B ≤ b := by obtain ⟨p, v, h1, h2, h3, h4⟩ := h; exact h4
  go_enter Tryd.func58, Tryd.ntmps58
  go_wp2_with fail
  refine (check_any h).mono ?_
  rintro _ x ⟨rfl, ⟨v, h1, h2⟩, ch⟩
  obtain ⟨o, cap, rfl⟩ := owns_sl h2
  obtain ⟨L, HL, hL⟩ : ∃ L, Hid (l.length = L) ∧ L + s.size ≤ 70368744177664 := ⟨_, rfl, hl⟩
  rw [HL.out] at h1 h2
  have c1 : x.cell? ⟨b, 1, none⟩ = some (.slice o L cap) := by simp [World.cell?, h1]
  have z1 : x.frozen? ⟨b, 1, none⟩ = false := by simp [World.frozen?, h1]
  have HO : Hid (World.ownsRow x B 5 1 (.slice o L cap) L (Lib.byteCells l)) := h2
  have H1 : Hid (x.heap[b]? = some (.cells #[.pointer (some ⟨b, 0, none⟩), .slice o L cap] 81)) := h1
  have hxs := ch.1.size
  clear h h1 h2 hl
  go_wp2_with (refine Go.Lib.wpList_append_own_string _ rfl _ _ _ _ rfl B 5 ia Tryd.underlying75 Tryd.underlying9 hia hza0 hza1 hza2 _ L _ rfl HO.out s rfl (by unfold maxLen; omega) (by omega) (by omega) ?_; intro v3 w1 own1 gr1 _hx; obtain ⟨o3, cp3, rfl⟩ := owns_sl own1; have n2 : w1.heap[b]? = some (.cells #[.pointer (some ⟨b, 0, none⟩), .slice o L cap] 81) := (gr1.block b (Array.getElem?_eq_some_iff.1 H1.out).1 (row_ne HO.out H1.out (fun c fr e => by cases e))).trans H1.out; have k1 : w1.cell? ⟨b, 1, none⟩ = some (.slice o L cap) := (by simp [World.cell?, n2]); have k2 : w1.frozen? ⟨b, 1, none⟩ = false := (by simp [World.frozen?, n2]); have CR := ch_row (B := B) gr1 HO.out (by omega); replace own1 : Hid (World.ownsRow _ _ _ _ _ _ _) := own1; clear gr1 _hx)
  go_ret2
  have n3 := Jg.setCell_heap n2 1 (.slice o3 (L + s.size) cp3)
  have o3' := own1.out
  refine ⟨rfl, ⟨_, _, n3, .inr rfl, ?_, hB⟩, ch.trans (CR.trans (ch_set n2 hB 1 _))⟩
  have o4 : (w1.setCell ⟨b, 1, none⟩ (.slice o3 (L + s.size) cp3)).ownsRow B 5 1 (.slice o3 (L + s.size) cp3) (L + s.size) _ := owns_keep o3' fun q hq => scne (fun e => row_ne o3' n2 (fun c fr e => by cases e) (by rw [hq, e])) _ _
  have h3 : s.data.toList.length = s.size := by simp
  rw [List.length_append, HL.out, h3, Lib.byteCells_append]
  exact o4
theorem freeze_ne {w : World} {g n k : Nat} (h : k ≠ g) : (w.freeze ⟨g, 0, none⟩ n).heap[k]? = w.heap[k]? := by
  unfold World.freeze
  split
  · rfl
  · simp only [Array.getElem?_modify]
    rw [if_neg (fun e => h e.symm)]
set_option maxRecDepth 100000 in
set_option maxHeartbeats 1600000 in
theorem string_any {w : World} {B b : Nat} {l : List UInt8} (h : Is w B b l) (h0 : l ≠ []) :
    Calls Tryd.prog 43 #[.pointer (some ⟨b, 0, none⟩)] w fun e w' => e = .returned (.string ⟨l.toArray⟩) ∧ Ch B w w' := by
  obtain ⟨p, v, hbk, -, hown, hB⟩ := h
  have hl0 : l.length ≠ 0 := by simpa using h0
  obtain ⟨g, cap, cur, rfl, hbg, hg, hnc, hcm, hcs, htake⟩ : ∃ g cap cur, v = .slice (some ⟨g, 0, none⟩) l.length cap ∧ B ≤ g ∧ w.heap[g]? = some (.cells cur 5 (0, 0)) ∧ l.length ≤ cap ∧ cap ≤ maxLen ∧ cur.size = cap * 1 ∧ cur.toList.take (l.length * 1) = Lib.byteCells l := by
    rcases hown.2 with ⟨_, hz⟩ | ⟨g, cap, cur, hv, r⟩
    · exact absurd hz hl0
    · exact ⟨g, cap, cur, hv, r⟩
  have c1 : w.drew.cell? ⟨b, 1, none⟩ = some (.slice (some ⟨g, 0, none⟩) l.length cap) := by
    have : w.drew.heap[b]? = some (.cells #[p, .slice (some ⟨g, 0, none⟩) l.length cap] 81 (0, 0)) := hbk
    simp [World.cell?, this]
  have hSD : (Builtin.unsafeSliceData_ #[75] 132 #[.slice (some ⟨g, 0, none⟩) l.length cap]).run Tryd.prog w.drew = .ok (.pointer (some ⟨g, 0, none⟩)) w.drew :=
    Lib.run_unsafeSliceData_row _ _ _ _ _ _ (by omega)
  have cb : Tryd.prog.cellsOf 5 = 1 := by kernel_rfl
  have hUS : (Builtin.unsafeString_ #[132, 3] 9 #[.pointer (some ⟨g, 0, none⟩), .int .i64 l.length]).run Tryd.prog w.drew = .ok (.string ⟨l.toArray⟩) (w.drew.freeze ⟨g, 0, none⟩ l.length) := by
    refine Lib.run_unsafeString_row w.drew 132 3 9 5 Tryd.underlying132 cb g cur.size (by have hg' : w.drew.heap[g]? = some (.cells cur 5 (0, 0)) := hg; simp [World.shape?, hg']) l h0 (by omega) (by unfold maxLen at hcm; omega) ?_
    intro j x hx
    exact hown.cells (g := g) rfl j (.int .u8 x.toNat) (by simp [Lib.byteCells, hx])
  have CH : Ch B w (w.drew.freeze ⟨g, 0, none⟩ l.length) := ⟨Lib.below_freeze (Below.drew (Below.refl B w)) (p := ⟨g, 0, none⟩) hbg _, fun k o hk h1 _ => (freeze_ne (fun e => by subst e; rw [hg] at hk; cases hk; exact h1 _ _ rfl)).trans hk⟩
  clear hown hg hbk htake
  go_enter Tryd.func43, Tryd.ntmps43
  go_wp2
  go_region
  all_goals (go_wp2; go_ret; exact ⟨rfl, CH⟩)
end Go.Proofs.YtabmpngliphdpaaDoor.Bd
