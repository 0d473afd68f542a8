/- A strings.Builder: what is written, and what else is kept. -/
import Derived.Test.YtgidjfhlooggkaaWr
import Derived.Test.YtgidjfhlooggkaaShelf
import Derived.Lib.Builder
import Derived.Lib.AppendStr
import Derived.Laws.Externs
namespace Go.Proofs.Ytgidjfhlooggkaa.Bd
set_option linter.unusedVariables false
set_option linter.unusedSimpArgs false
open Go.RowKit Go.Shelf Kb Ga Gb Gc Nt Wk Ls Wr
/-- the builder at a block holds these bytes -/
def Is (w : World) (B b : Nat) (l : List UInt8) : Prop := ∃ p v, w.heap[b]? = some (.cells #[p, v] 87) ∧ (p = .pointer none ∨ p = .pointer (some ⟨b, 0, none⟩)) ∧ w.ownsRow B 5 1 v l.length (Lib.byteCells l) ∧ B ≤ b
/-- builders and rows of bytes alone have turned -/
structure Ch (B : Nat) (w w' : World) : Prop where
  below : Below B w w'
  same : ∀ (k : Nat) (o : Obj), w.heap[k]? = some o → (∀ c fr, o ≠ .cells c 5 fr) → (∀ c fr, o ≠ .cells c 87 fr) → w'.heap[k]? = some o
theorem Ch.refl (B : Nat) (w : World) : Ch B w w := ⟨Below.refl _ _, fun _ _ h _ _ => h⟩
theorem Ch.trans {B : Nat} {a b c : World} (h : Ch B a b) (k : Ch B b c) : Ch B a c := ⟨h.1.trans k.1, fun i o hi h1 h2 => k.2 i o (h.2 i o hi h1 h2) h1 h2⟩
theorem ch_below {B : Nat} {a b : World} (h : Below a.heap.size a b) (hB : B ≤ a.heap.size) : Ch B a b := ⟨h.mono hB, fun k o hk _ _ => (h.block k (Array.getElem?_eq_some_iff.1 hk).1).trans hk⟩
theorem ch_set {B : Nat} {w : World} {b : Nat} {c : Array Value} (h : w.heap[b]? = some (.cells c 87)) (hB : B ≤ b) (o : Nat) (v : Value) : Ch B w (w.setCell ⟨b, o, none⟩ v) :=
  ⟨(Below.refl _ _).setCell (p := ⟨b, o, none⟩) hB v, fun k o' hk _ h2 => (Gd.setCell_ne (fun e => by subst e; rw [h] at hk; cases hk; exact h2 _ _ rfl) _ _).trans hk⟩
theorem cell3 {x : World} {g : Nat} {a b c : Value} {t : TypeId} (h : x.heap[g]? = some (.cells #[a, b, c] t)) : x.cell? ⟨g, 0, none⟩ = some a ∧ x.cell? ⟨g, 1, none⟩ = some b ∧ x.cell? ⟨g, 2, none⟩ = some c := by
  refine ⟨?_, ?_, ?_⟩ <;> simp only [World.cell?, h] <;> rfl
theorem row_ne {X : World} {base n : Nat} {v : Value} {xs : List Value} {k : Nat} {o : Obj} (ho : X.ownsRow base 5 1 v n xs) (hk : X.heap[k]? = some o) (hne : ∀ c fr, o ≠ .cells c 5 fr) : some k ≠ v.ownBlock := fun e => by
  rcases ho.2 with ⟨rfl, _⟩ | ⟨g, cap, cur, rfl, _, hg, _⟩
  · simp [Value.ownBlock] at e
  · simp only [Value.ownBlock, Option.some.injEq] at e
    subst e
    rw [hg] at hk; cases hk
    exact hne _ _ rfl
theorem ch_row {B n : Nat} {w w' : World} {v : Value} {xs : List Value} (h : w.grownBy w' v.ownBlock) (ho : w.ownsRow B 5 1 v n xs) (hB : B ≤ w.heap.size) : Ch B w w' :=
  ⟨(Below.refl B w).grown h hB fun k hk => (ho.lt k hk).1, fun k o hk h1 _ => (h.block k (Array.getElem?_eq_some_iff.1 hk).1 (row_ne ho hk h1)).trans hk⟩
theorem ch_kn {B : Nat} {w w' : World} (h : Ch B w w') : KN B w w' := ⟨h.1, fun k c fr hk => (h.2 k _ hk (fun c' fr' e => by cases e) (fun c' fr' e => by cases e)).trans hk.symm⟩
theorem ch_kf {B : Nat} {w w' : World} (C : Nat) (h : Ch B w w') : KeepsFrom C w w' := ⟨h.1.size, fun k o _ hk hc => h.2 k o hk (fun c' fr' e => by subst e; simp [Obj.isCells] at hc) (fun c' fr' e => by subst e; simp [Obj.isCells] at hc)⟩
theorem ch_on {B : Nat} {w w' : World} {k : Nat} {c : Array Value} {t : TypeId} {fr : Nat × Nat} (h : Ch B w w') (hk : w.heap[k]? = some (.cells c t fr)) (h1 : t ≠ 5) (h2 : t ≠ 87) : w'.heap[k]? = some (.cells c t fr) :=
  h.2 k _ hk (fun c' fr' e => by cases e; exact h1 rfl) (fun c' fr' e => by cases e; exact h2 rfl)
theorem Is.lt {w : World} {B b : Nat} {l : List UInt8} (h : Is w B b l) : b < w.heap.size := by
  obtain ⟨p, v, hb, _⟩ := h
  exact (Array.getElem?_eq_some_iff.1 hb).1
theorem Is.below {w w' : World} {B b : Nat} {l : List UInt8} (h : Is w B b l) (hb : Below w.heap.size w w') : Is w' B b l := by
  obtain ⟨p, v, h1, h2, h3, h4⟩ := h
  exact ⟨p, v, kept hb h1, h2, owns_keep h3 fun q hq => hb.block q (h3.lt q hq).2, h4⟩
theorem Is.lib {w : World} {B b : Nat} {l : List UInt8} (h : Is w B b l) : Lib.IsBuilder 87 5 B b (Lib.byteCells l) w := by
  obtain ⟨p, v, h1, h2, h3, h4⟩ := h
  have hl : (Lib.byteCells l).length = l.length := by simp [Lib.byteCells]
  have hne : v.ownBlock ≠ some b := fun e => row_ne h3 h1 (fun c fr e => by cases e) e.symm
  rcases h2 with rfl | rfl
  · exact .inl ⟨h4, v, h1, by rw [hl]; exact h3, hne⟩
  · exact .inr ⟨h4, v, h1, by rw [hl]; exact h3, hne⟩
theorem sizeB : ∃ j, Try.prog.info? 87 = some j ∧ j.size = 2 := by
  have h : (Try.prog.info? 87).map (·.size) = some 2 := by kernel_rfl
  obtain ⟨j, hj, hs⟩ := Option.map_eq_some_iff.1 h
  exact ⟨j, hj, hs⟩
theorem liesB : liesAt Try.prog Try.prog.depth 87 (2 / Try.prog.cellsOf 87) 0 87 1 = true := by kernel_rfl
set_option maxRecDepth 100000 in
theorem check_any {w : World} {B b : Nat} {l : List UInt8} (h : Is w B b l) :
    Calls Try.prog 98 #[.pointer (some ⟨b, 0, none⟩)] w fun e w' => e = .returned (.tuple #[]) ∧ (∃ v, w'.heap[b]? = some (.cells #[.pointer (some ⟨b, 0, none⟩), v] 87) ∧ w'.ownsRow B 5 1 v l.length (Lib.byteCells l)) ∧ Ch B w w' := by
  obtain ⟨p, v, h1, h2, h3, h4⟩ := h
  obtain ⟨j, hj, hjs⟩ := sizeB
  have hsh : w.shape? b = some (87, 2) := by simp [World.shape?, h1]
  have c0 : w.cell? ⟨b, 0, none⟩ = some p := by simp [World.cell?, h1]
  have z0 : w.frozen? ⟨b, 0, none⟩ = false := by simp [World.frozen?, h1]
  have n1 := Gd.setCell_heap h1 0 (.pointer (some ⟨b, 0, none⟩))
  have o1 : (w.setCell ⟨b, 0, none⟩ (.pointer (some ⟨b, 0, none⟩))).ownsRow B 5 1 v l.length (Lib.byteCells l) := owns_keep h3 fun q hq => Gd.setCell_ne (fun e => row_ne h3 h1 (fun c fr e => by cases e) (by rw [hq, e])) _ _
  have ch := ch_set h1 h4 0 (.pointer (some ⟨b, 0, none⟩))
  rcases h2 with rfl | rfl
  · clear h3 h1
    go_enter Try.func98, Try.ntmps98
    go_wp2
    rw [Lib.run_to_unsafe w ⟨b, 0, none⟩ Try.underlying85 Try.underlying134 hj (by rw [hjs]; decide) hsh (Nat.zero_lt_succ 1)]
    simp only [Result.andThen]
    rw [Oper.upon_value]
    go_wp2
    rw [run_callFunc_extern Try.func106 (by kernel_rfl) (by kernel_rfl) (by kernel_rfl) (e := Extern.AbiNoEscape.same) (by kernel_rfl)]
    rw [Lib.run_noEscape]
    simp only [Result.andThen]
    rw [Oper.upon_value]
    go_wp2
    rw [Lib.run_from_unsafe w ⟨b, 0, none⟩ Try.underlying134 Try.underlying85 hj hsh liesB]
    simp only [Result.andThen]
    rw [Oper.upon_value]
    go_wp2
    go_end0
    exact ⟨rfl, ⟨v, n1, o1⟩, ch⟩
  · clear n1 o1 ch
    have H1 : Hid (w.heap[b]? = some (.cells #[.pointer (some ⟨b, 0, none⟩), v] 87)) := h1
    have H3 : Hid (World.ownsRow w B 5 1 v l.length (Lib.byteCells l)) := h3
    clear h1 h3
    go_enter Try.func98, Try.ntmps98
    go_wp2
    rw [Lib.run_neq_ptr_same w _ Try.underlying85 hj]
    go_wp2
    go_end0
    exact ⟨rfl, ⟨v, H1.out, H3.out⟩, Ch.refl _ _⟩
theorem owns_sl {w : World} {base e s n : Nat} {v : Value} {xs : List Value} (h : w.ownsRow base e s v n xs) : ∃ o cap, v = .slice o n cap := by
  rcases h.2 with ⟨rfl, h0⟩ | ⟨g, cap, cur, rfl, _⟩
  · exact ⟨none, 0, by rw [h0]⟩
  · exact ⟨_, cap, rfl⟩
set_option maxRecDepth 100000 in
theorem writeByte_any {w : World} {B b : Nat} {l : List UInt8} (h : Is w B b l) (c : UInt8) (C : Int) (hC : (c.toNat : Int) = C) (hl : l.length ≤ 70368744177664) :
    Calls Try.prog 84 #[.pointer (some ⟨b, 0, none⟩), .int .u8 C] w fun e w' => e = .returned .nilIface ∧ Is w' B b (l ++ [c]) ∧ Ch B w w' := by
  obtain ⟨ia, hia, hza0, hza1, hza2⟩ := info_parts infoB
  have hlt := h.lt
  have hB : B ≤ b := by obtain ⟨p, v, h1, h2, h3, h4⟩ := h; exact h4
  go_enter Try.func84, Try.ntmps84
  go_wp2_with fail
  refine (check_any h).mono ?_
  rintro _ x ⟨rfl, ⟨v, h1, h2⟩, ch⟩
  obtain ⟨o, cap, rfl⟩ := owns_sl h2
  obtain ⟨L, HL, hL⟩ : ∃ L, Hid (l.length = L) ∧ L ≤ 70368744177664 := ⟨_, rfl, hl⟩
  rw [HL.out] at h1 h2
  have c1 : x.cell? ⟨b, 1, none⟩ = some (.slice o L cap) := by simp [World.cell?, h1]
  have z1 : x.frozen? ⟨b, 1, none⟩ = false := by simp [World.frozen?, h1]
  have HO : Hid (World.ownsRow x B 5 1 (.slice o L cap) L (Lib.byteCells l)) := h2
  have H1 : Hid (x.heap[b]? = some (.cells #[.pointer (some ⟨b, 0, none⟩), .slice o L cap] 87)) := h1
  have hxs := ch.1.size
  clear h h1 h2
  go_wp2_with (at_builtin; refine wpList_append_lies _ rfl _ _ _ rfl B 5 ia _ 1 1 Try.underlying81 hia hza0 hza1 hza2 rfl (by omega) _ L _ rfl (HO.out.alloc _) ⟨x.heap.size, 0, Option.none⟩ 1 1 _ rfl (by rfl) (World.news_of_block (heap_alloc_new x _)) (by simp [Value.oneCell']) (by omega) (by unfold maxLen; omega) (by omega) (by first | omega | (simp <;> omega)) (x.heap.size + 1) (by simp) ?_; intro g1 c1' w1 own1 gr1 hat1 hlt1; have G1 := (show Gr _ _ _ (.slice (some ⟨g1, 0, Option.none⟩) (L + 1) c1') from gr_step gr1 hat1); have n1 := (ch_row (B := B) G1.1 HO.out (by omega)).2 b _ H1.out (fun c fr e => by cases e); have n2 : w1.heap[b]? = some (.cells #[.pointer (some ⟨b, 0, none⟩), .slice o L cap] 87) := (G1.1.block b (Array.getElem?_eq_some_iff.1 H1.out).1 (row_ne HO.out H1.out (fun c fr e => by cases e))).trans H1.out; have k1 : w1.cell? ⟨b, 1, none⟩ = some (.slice o L cap) := (by simp [World.cell?, n2]); have k2 : w1.frozen? ⟨b, 1, none⟩ = false := (by simp [World.frozen?, n2]); have CR := ch_row (B := B) G1.1 HO.out (by omega); replace own1 : Hid (World.ownsRow _ _ _ _ _ _ _) := own1; clear gr1 hat1 n1)
  go_ret
  have n3 := Gd.setCell_heap n2 1 (.slice (some ⟨g1, 0, none⟩) (L + 1) c1')
  have o3 := own1.out
  refine ⟨rfl, ⟨_, _, n3, .inr rfl, ?_, hB⟩, ch.trans (CR.trans (ch_set n2 hB 1 _))⟩
  have o4 : (w1.setCell ⟨b, 1, none⟩ (.slice (some ⟨g1, 0, none⟩) (L + 1) c1')).ownsRow B 5 1 (.slice (some ⟨g1, 0, none⟩) (L + 1) c1') (L + 1) _ := owns_keep o3 fun q hq => Gd.setCell_ne (fun e => row_ne o3 n2 (fun c fr e => by cases e) (by rw [hq, e])) _ _
  rw [List.length_append, HL.out, Lib.byteCells_append]
  simp only [Lib.byteCells, List.map_cons, List.map_nil, hC]
  exact o4
set_option maxRecDepth 100000 in
theorem writeString_any {w : World} {B b : Nat} {l : List UInt8} (h : Is w B b l) (s : ByteArray) (hl : l.length + s.size ≤ 70368744177664) :
    Calls Try.prog 81 #[.pointer (some ⟨b, 0, none⟩), .string s] w fun e w' => e = .returned (.tuple #[.int .i64 (s.size : Int), .nilIface]) ∧ Is w' B b (l ++ s.data.toList) ∧ Ch B w w' := by
  obtain ⟨ia, hia, hza0, hza1, hza2⟩ := info_parts infoB
  have hlt := h.lt
  have hB : B ≤ b := by obtain ⟨p, v, h1, h2, h3, h4⟩ := h; exact h4
  go_enter Try.func81, Try.ntmps81
  go_wp2_with fail
  refine (check_any h).mono ?_
  rintro _ x ⟨rfl, ⟨v, h1, h2⟩, ch⟩
  obtain ⟨o, cap, rfl⟩ := owns_sl h2
  obtain ⟨L, HL, hL⟩ : ∃ L, Hid (l.length = L) ∧ L + s.size ≤ 70368744177664 := ⟨_, rfl, hl⟩
  rw [HL.out] at h1 h2
  have c1 : x.cell? ⟨b, 1, none⟩ = some (.slice o L cap) := by simp [World.cell?, h1]
  have z1 : x.frozen? ⟨b, 1, none⟩ = false := by simp [World.frozen?, h1]
  have HO : Hid (World.ownsRow x B 5 1 (.slice o L cap) L (Lib.byteCells l)) := h2
  have H1 : Hid (x.heap[b]? = some (.cells #[.pointer (some ⟨b, 0, none⟩), .slice o L cap] 87)) := h1
  have hxs := ch.1.size
  clear h h1 h2 hl
  go_wp2_with (refine Go.Lib.wpList_append_own_string _ rfl _ _ _ _ rfl B 5 ia Try.underlying81 Try.underlying9 hia hza0 hza1 hza2 _ L _ rfl HO.out s rfl (by unfold maxLen; omega) (by omega) (by omega) ?_; intro v3 w1 own1 gr1 _hx; obtain ⟨o3, cp3, rfl⟩ := owns_sl own1; have n2 : w1.heap[b]? = some (.cells #[.pointer (some ⟨b, 0, none⟩), .slice o L cap] 87) := (gr1.block b (Array.getElem?_eq_some_iff.1 H1.out).1 (row_ne HO.out H1.out (fun c fr e => by cases e))).trans H1.out; have k1 : w1.cell? ⟨b, 1, none⟩ = some (.slice o L cap) := (by simp [World.cell?, n2]); have k2 : w1.frozen? ⟨b, 1, none⟩ = false := (by simp [World.frozen?, n2]); have CR := ch_row (B := B) gr1 HO.out (by omega); replace own1 : Hid (World.ownsRow _ _ _ _ _ _ _) := own1; clear gr1 _hx)
  go_ret2
  have n3 := Gd.setCell_heap n2 1 (.slice o3 (L + s.size) cp3)
  have o3' := own1.out
  refine ⟨rfl, ⟨_, _, n3, .inr rfl, ?_, hB⟩, ch.trans (CR.trans (ch_set n2 hB 1 _))⟩
  have o4 : (w1.setCell ⟨b, 1, none⟩ (.slice o3 (L + s.size) cp3)).ownsRow B 5 1 (.slice o3 (L + s.size) cp3) (L + s.size) _ := owns_keep o3' fun q hq => Gd.setCell_ne (fun e => row_ne o3' n2 (fun c fr e => by cases e) (by rw [hq, e])) _ _
  have h3 : s.data.toList.length = s.size := by simp
  rw [List.length_append, HL.out, h3, Lib.byteCells_append]
  exact o4
theorem freeze_ne {w : World} {g n k : Nat} (h : k ≠ g) : (w.freeze ⟨g, 0, none⟩ n).heap[k]? = w.heap[k]? := by
  unfold World.freeze
  split
  · rfl
  · simp only [Array.getElem?_modify]
    rw [if_neg (fun e => h e.symm)]
set_option maxRecDepth 100000 in
set_option maxHeartbeats 1600000 in
theorem string_any {w : World} {B b : Nat} {l : List UInt8} (h : Is w B b l) (h0 : l ≠ []) :
    Calls Try.prog 51 #[.pointer (some ⟨b, 0, none⟩)] w fun e w' => e = .returned (.string ⟨l.toArray⟩) ∧ Ch B w w' := by
  obtain ⟨p, v, hbk, -, hown, hB⟩ := h
  have hl0 : l.length ≠ 0 := by simpa using h0
  obtain ⟨g, cap, cur, rfl, hbg, hg, hnc, hcm, hcs, htake⟩ : ∃ g cap cur, v = .slice (some ⟨g, 0, none⟩) l.length cap ∧ B ≤ g ∧ w.heap[g]? = some (.cells cur 5 (0, 0)) ∧ l.length ≤ cap ∧ cap ≤ maxLen ∧ cur.size = cap * 1 ∧ cur.toList.take (l.length * 1) = Lib.byteCells l := by
    rcases hown.2 with ⟨_, hz⟩ | ⟨g, cap, cur, hv, r⟩
    · exact absurd hz hl0
    · exact ⟨g, cap, cur, hv, r⟩
  have c1 : w.drew.cell? ⟨b, 1, none⟩ = some (.slice (some ⟨g, 0, none⟩) l.length cap) := by
    have : w.drew.heap[b]? = some (.cells #[p, .slice (some ⟨g, 0, none⟩) l.length cap] 87 (0, 0)) := hbk
    simp [World.cell?, this]
  have hSD : (Builtin.unsafeSliceData_ #[81] 122 #[.slice (some ⟨g, 0, none⟩) l.length cap]).run Try.prog w.drew = .ok (.pointer (some ⟨g, 0, none⟩)) w.drew :=
    Lib.run_unsafeSliceData_row _ _ _ _ _ _ (by omega)
  have cb : Try.prog.cellsOf 5 = 1 := by kernel_rfl
  have hUS : (Builtin.unsafeString_ #[122, 3] 9 #[.pointer (some ⟨g, 0, none⟩), .int .i64 l.length]).run Try.prog w.drew = .ok (.string ⟨l.toArray⟩) (w.drew.freeze ⟨g, 0, none⟩ l.length) := by
    refine Lib.run_unsafeString_row w.drew 122 3 9 5 Try.underlying122 cb g cur.size (by have hg' : w.drew.heap[g]? = some (.cells cur 5 (0, 0)) := hg; simp [World.shape?, hg']) l h0 (by omega) (by unfold maxLen at hcm; omega) ?_
    intro j x hx
    exact hown.cells (g := g) rfl j (.int .u8 x.toNat) (by simp [Lib.byteCells, hx])
  have CH : Ch B w (w.drew.freeze ⟨g, 0, none⟩ l.length) := ⟨Lib.below_freeze (Below.drew (Below.refl B w)) (p := ⟨g, 0, none⟩) hbg _, fun k o hk h1 _ => (freeze_ne (fun e => by subst e; rw [hg] at hk; cases hk; exact h1 _ _ rfl)).trans hk⟩
  clear hown hg hbk htake
  go_enter Try.func51, Try.ntmps51
  go_wp2
  go_region
  all_goals (go_wp2; go_ret; exact ⟨rfl, CH⟩)
theorem hexL_take (s : ByteArray) (k : Nat) (h : k < s.size) : Lib0.hexL (s.data.toList.take (k + 1)) = Lib0.hexL (s.data.toList.take k) ++ [Lib0.hx (s[k].toNat / 16), Lib0.hx (s[k].toNat % 16)] := by
  rw [Lib0.take_snoc s k h, Lib0.hexL_snoc]
theorem shr4 (c : UInt8) : IntKind.u8.wrap ((c.toNat : Int) / 2 ^ 4) = ((c.toNat / 16 : Nat) : Int) := by
  have := c.toNat_lt
  rw [Lib0.wrap_u8 _ (by omega) (by omega)]; omega
theorem and15_fin : ∀ c : Fin 256, bits .and .u8 (c.val : Int) 15 = ((c.val % 16 : Nat) : Int) := by decide +kernel
theorem and15 (c : UInt8) : bits .and .u8 (c.toNat : Int) 15 = ((c.toNat % 16 : Nat) : Int) := and15_fin ⟨c.toNat, c.toNat_lt⟩
set_option maxRecDepth 100000 in
set_option maxHeartbeats 1600000 in
theorem hexes_any {w : World} {B b : Nat} {l : List UInt8} (h : Is w B b l) (s : ByteArray) (hs : s.size ≤ 1048576) (hl : l.length ≤ 35184372088832) :
    Calls Try.prog 83 #[.pointer (some ⟨b, 0, none⟩), .string s] w fun e w' => e = .returned (.tuple #[]) ∧ Is w' B b (l ++ Lib0.hexL s.data.toList) ∧ Ch B w w' := by
  have HI : Hid (Is w B b l) := h
  clear h
  go_enter Try.func83, Try.ntmps83
  go_wp2
  go_loopw [7] (fun vi wr => ∃ (k : Nat) (E : List UInt8), k ≤ s.size ∧ vi = .int .i64 (k : Int) ∧ Hid (l ++ Lib0.hexL (s.data.toList.take k) = E) ∧ E.length = l.length + 2 * k ∧ Is wr B b E ∧ Ch B w wr) (fun vi _ => s.size - (intOf vi).toNat)
  case atStart => exact ⟨0, l, Nat.zero_le _, rfl, by show _ = _; simp [Lib0.hexL], by omega, HI.out, Ch.refl _ _⟩
  case round =>
    obtain ⟨k, E, hk, rfl, HS, hE, hi, hch⟩ := hrel
    rename World => wr
    by_cases hlt : k < s.size
    · have hlt' : (k : Int) < (s.size : Int) := by omega
      have HS2 : Hid (l ++ Lib0.hexL (s.data.toList.take (k + 1)) = E ++ [Lib0.hx (s[k].toNat / 16)] ++ [Lib0.hx (s[k].toNat % 16)]) := by
        show _ = _
        rw [hexL_take s k hlt, ← List.append_assoc, HS.out, List.append_assoc]; rfl
      have e1 := shr4 s[k]
      have e2 := and15 s[k]
      have b1 := s[k].toNat_lt
      have hx1 := Lib0.hx_get (s[k].toNat / 16) (by omega)
      have hx2 := Lib0.hx_get (s[k].toNat % 16) (by omega)
      clear HS
      go_wp2_with fail
      refine (writeByte_any hi (Lib0.hx (s[k].toNat / 16)) _ rfl (by omega)).mono ?_
      rintro _ x ⟨rfl, hi2, ch2⟩
      go_wp2_with fail
      refine (writeByte_any hi2 (Lib0.hx (s[k].toNat % 16)) _ rfl (by rw [List.length_append]; simp only [List.length_cons, List.length_nil]; omega)).mono ?_
      rintro _ y ⟨rfl, hi3, ch3⟩
      have hch4 := hch.trans (ch2.trans ch3)
      go_wp2
      refine ⟨⟨k + 1, _, by omega, by go_num, HS2, ?_, hi3, hch4⟩, by simp [intOf]; omega⟩
      simp only [List.length_append, List.length_cons, List.length_nil]
      omega
    · have HE : Hid (l ++ Lib0.hexL s.data.toList = E) := by
        have := HS.out
        rw [Lib0.take_all s k (by omega)] at this
        exact this
      have hlt' : ¬ (k : Int) < (s.size : Int) := by omega
      go_wp2
      go_end0
      exact ⟨rfl, by rw [HE.out]; exact hi, hch⟩
theorem repeat_len (l : List UInt8) : ∀ n, (Lib.repeatL l n).length = l.length * n
  | 0 => by simp [Lib.repeatL]
  | n + 1 => by simp only [Lib.repeatL, List.length_append, repeat_len l n]; rw [Nat.mul_succ]; omega
/-- a node's line -/
def sgn (t : Int) : List UInt8 := if 0 < tgS t then Lib0.hexL (tgB t) else [63]
def vlB (v : ByteArray) : List UInt8 := if v.size = 0 then [] else 32 :: Lib0.hexL v.data.toList
def lnE (d : Nat) (t : Int) (v : ByteArray) : List UInt8 := Lib.repeatL [32, 32] (d - 1) ++ sgn t ++ vlB v ++ [10]
theorem tgB_len (t : Int) : (tgB t).length ≤ 3 := by
  unfold tgB
  repeat' split
  all_goals simp
theorem sgn_len (t : Int) : (sgn t).length ≤ 6 := by
  unfold sgn
  split
  · rw [Lib0.hexL_length]
    have : (tgB t).length ≤ 3 := by
      unfold tgB
      repeat' split
      all_goals simp
    omega
  · simp
theorem vlB_len (v : ByteArray) (h : v.size ≤ 1048576) : (vlB v).length ≤ 2097153 := by
  unfold vlB
  split
  · simp
  · have : v.data.toList.length = v.size := by simp
    rw [List.length_cons, Lib0.hexL_length]; omega
theorem tgB_pos {t : Int} (h : ¬ 0 < tgS t) : tgB t = [] := by
  have := tgS_bd t
  unfold tgB
  rw [if_neg (by omega), if_neg (by omega), if_neg (by omega)]
set_option maxRecDepth 100000 in
set_option maxHeartbeats 1600000 in
theorem line_any {w : World} {B b : Nat} {l : List UInt8} (h : Is w B b l) (d : Nat) (t : Int) (v : ByteArray) (o : Option Addr) (kl kc : Nat) (hd1 : 1 ≤ d) (hd2 : d ≤ 1000000) (ht : t ≤ 9223372036854775807) (hv : v.size ≤ 1048576) (hl : l.length ≤ 17592186044416) :
    Calls Try.prog 50 #[.pointer (some ⟨b, 0, none⟩), .int .i64 (d : Int), .agg #[.int .i64 t, .string v, .slice o kl kc]] w fun e w' => e = .returned (.tuple #[]) ∧ Is w' B b (l ++ lnE d t v) ∧ Ch B w w' := by
  have hB : B ≤ b := by obtain ⟨p, v, h1, h2, h3, h4⟩ := h; exact h4
  have hBw : B ≤ w.heap.size := by have := h.lt; omega
  have b1 := below_one w (.cells #[.int .i64 t, .string v, .slice o kl kc] 40)
  have n1 := h1_0 w (.cells #[.int .i64 t, .string v, .slice o kl kc] 40)
  have i1 := h.below b1
  have c1 := ch_below b1 hBw
  obtain ⟨D, rfl⟩ : ∃ D, d = D + 1 := ⟨d - 1, by omega⟩
  have rp := fun y => Try.strings_Repeat ⟨#[32, 32]⟩ D y (by omega) (by rw [show (⟨#[32, 32]⟩ : ByteArray).size = 2 from rfl]; omega)
  have rl : (Lib.repeatL (⟨#[32, 32]⟩ : ByteArray).data.toList D).length = 2 * D := by rw [repeat_len]; simp
  obtain ⟨RP, HRP⟩ : ∃ RP, Hid (Lib.repeatL (⟨#[32, 32]⟩ : ByteArray).data.toList D = RP) := ⟨_, rfl⟩
  simp only [HRP.out] at rp
  rw [HRP.out] at rl
  have hg := sgn_len t
  have hvl := vlB_len v hv
  have HF : Hid (l ++ lnE (D + 1) t v = l ++ RP ++ sgn t ++ vlB v ++ [10]) := by
    show _ = _
    unfold lnE
    rw [Nat.add_sub_cancel, show ([32, 32] : List UInt8) = (⟨#[32, 32]⟩ : ByteArray).data.toList from rfl, HRP.out]
    simp only [List.append_assoc]
  have hDD : ((D + 1 : Nat) : Int) - 1 = (D : Int) := by omega
  have hRs : (⟨RP.toArray⟩ : ByteArray).size = 2 * D := by rw [← rl]; rfl
  rw [HF.out]
  go_enter Try.func50, Try.ntmps50
  go_wp2_with fail
  generalize w.alloc (.cells #[.int .i64 t, .string v, .slice o kl kc] 40) = W at *
  refine (rp W).mono ?_
  rintro _ x ⟨rfl, hx⟩
  have i2 := i1.below hx
  have c2 := c1.trans (ch_below hx (Nat.le_trans hBw b1.size))
  have n2 := kept hx n1
  clear i1 c1 n1 rp
  go_wp2_with fail
  refine (writeString_any i2 ⟨RP.toArray⟩ (by rw [hRs]; omega)).mono ?_
  rintro _ y ⟨rfl, i3, c3⟩
  replace i3 : Is y B b (l ++ RP) := i3
  have n3 := ch_on c3 n2 (by decide) (by decide)
  replace c3 := c2.trans c3
  clear i2 c2 n2 hx
  obtain ⟨d0, d1, d2⟩ := cell3 n3
  have tsz := fun y => tagSize_any t y ht
  by_cases hp : 0 < tgS t
  · have HSg : Hid (sgn t = Lib0.hexL (tgB t)) := by show _ = _; unfold sgn; rw [if_pos hp]
    obtain ⟨S, HS⟩ : ∃ S, Hid (tgS t = S) := ⟨_, rfl⟩
    simp only [HS.out] at tsz
    rw [HS.out] at hp
    have at1 := appendTag_any t (.slice none 0 0) [] 0 y.heap.size y ht (by omega) (Nat.le_refl _) ⟨rfl, .inl ⟨rfl, rfl⟩⟩
    rw [List.nil_append, Nat.zero_add] at at1
    go_wp2_with fail
    refine (tsz y).mono ?_
    rintro _ y' ⟨rfl, hyy⟩
    rw [hyy]; clear hyy y' tsz
    go_wp2_with fail
    refine at1.mono ?_
    rintro _ z ⟨v1, rfl, ho1, hz⟩
    obtain ⟨o1, cp1, rfl⟩ := owns_sl ho1
    have hcv : (convert 81 9 (.slice o1 (tgB t).length cp1)).run Try.prog z = .ok (.string ⟨(tgB t).toArray⟩) z := Lib0.run_str Try.underlying81 Try.underlying5 Try.underlying9 ho1
    have i4 := i3.below hz
    have c4 := c3.trans (ch_below hz (Nat.le_trans hBw c3.1.size))
    have n4 := kept hz n3
    clear i3 c3 n3 d0 d1 d2 at1 ho1 hz
    go_wp2_with fail
    refine (hexes_any i4 ⟨(tgB t).toArray⟩ (by show (tgB t).length ≤ _; have := tgB_len t; omega) (by rw [List.length_append]; omega)).mono ?_
    rintro _ q5 ⟨rfl, i5, c5⟩
    have n5 := ch_on c5 n4 (by decide) (by decide)
    replace i5 : Is q5 B b (l ++ RP ++ sgn t) := by rw [HSg.out]; exact i5
    replace c5 := c4.trans c5
    clear i4 c4 n4 hcv
    obtain ⟨e0, e1, e2⟩ := cell3 n5
    by_cases hv0 : v.size = 0
    · have HV : Hid (vlB v = []) := by show _ = _; unfold vlB; rw [if_pos hv0]
      obtain rfl := size0 hv0
      clear hv0
      go_wp2_with fail
      refine (writeByte_any i5 10 10 rfl (by simp only [List.length_append]; omega)).mono ?_
      rintro _ u ⟨rfl, iu, cu⟩
      go_wp2_with fail
      go_end0
      exact ⟨rfl, by rw [HV.out, List.append_nil]; exact iu, c5.trans cu⟩
    · have HV : Hid (vlB v = 32 :: Lib0.hexL v.data.toList) := by show _ = _; unfold vlB; rw [if_neg hv0]
      have hne : v.toList.isEmpty = false := by rw [ByteArray.toList_eq, List.isEmpty_eq_false_iff]; exact fun h => hv0 (by have := congrArg List.length h; simpa using this)
      have hvl2 : v.data.toList.length = v.size := by simp
      go_wp2_with fail
      refine (writeByte_any i5 32 32 rfl (by simp only [List.length_append]; omega)).mono ?_
      rintro _ u ⟨rfl, iu, cu⟩
      have nu := ch_on cu n5 (by decide) (by decide)
      obtain ⟨g0, g1, g2⟩ := cell3 nu
      clear e0 e1 e2
      go_wp2_with fail
      refine (hexes_any iu v hv (by simp only [List.length_append, List.length_cons, List.length_nil]; omega)).mono ?_
      rintro _ q ⟨rfl, iq, cq⟩
      go_wp2_with fail
      refine (writeByte_any iq 10 10 rfl (by simp only [List.length_append, List.length_cons, List.length_nil, Lib0.hexL_length]; omega)).mono ?_
      rintro _ r ⟨rfl, ir, cr⟩
      go_wp2_with fail
      go_end0
      refine ⟨rfl, ?_, c5.trans (cu.trans (cq.trans cr))⟩
      rw [HV.out]
      simp only [List.append_assoc, List.cons_append, List.nil_append] at ir ⊢
      exact ir
  · have HSg : Hid (sgn t = [63]) := by show _ = _; unfold sgn; rw [if_neg hp]
    obtain ⟨S, HS⟩ : ∃ S, Hid (tgS t = S) := ⟨_, rfl⟩
    simp only [HS.out] at tsz
    rw [HS.out] at hp
    go_wp2_with fail
    refine (tsz y).mono ?_
    rintro _ y' ⟨rfl, hyy⟩
    rw [hyy]; clear hyy y' tsz
    go_wp2_with fail
    refine (writeString_any i3 ⟨#[63]⟩ (by rw [show (⟨#[63]⟩ : ByteArray).size = 1 from rfl, List.length_append]; omega)).mono ?_
    rintro _ q5 ⟨rfl, i5, c5⟩
    have n5 := ch_on c5 n3 (by decide) (by decide)
    replace i5 : Is q5 B b (l ++ RP ++ sgn t) := by rw [HSg.out]; exact i5
    replace c5 := c3.trans c5
    clear i3 c3 n3 d0 d1 d2
    obtain ⟨e0, e1, e2⟩ := cell3 n5
    by_cases hv0 : v.size = 0
    · have HV : Hid (vlB v = []) := by show _ = _; unfold vlB; rw [if_pos hv0]
      obtain rfl := size0 hv0
      clear hv0
      go_wp2_with fail
      refine (writeByte_any i5 10 10 rfl (by simp only [List.length_append]; omega)).mono ?_
      rintro _ u ⟨rfl, iu, cu⟩
      go_wp2_with fail
      go_end0
      exact ⟨rfl, by rw [HV.out, List.append_nil]; exact iu, c5.trans cu⟩
    · have HV : Hid (vlB v = 32 :: Lib0.hexL v.data.toList) := by show _ = _; unfold vlB; rw [if_neg hv0]
      have hne : v.toList.isEmpty = false := by rw [ByteArray.toList_eq, List.isEmpty_eq_false_iff]; exact fun h => hv0 (by have := congrArg List.length h; simpa using this)
      have hvl2 : v.data.toList.length = v.size := by simp
      go_wp2_with fail
      refine (writeByte_any i5 32 32 rfl (by simp only [List.length_append]; omega)).mono ?_
      rintro _ u ⟨rfl, iu, cu⟩
      have nu := ch_on cu n5 (by decide) (by decide)
      obtain ⟨g0, g1, g2⟩ := cell3 nu
      clear e0 e1 e2
      go_wp2_with fail
      refine (hexes_any iu v hv (by simp only [List.length_append, List.length_cons, List.length_nil]; omega)).mono ?_
      rintro _ q ⟨rfl, iq, cq⟩
      go_wp2_with fail
      refine (writeByte_any iq 10 10 rfl (by simp only [List.length_append, List.length_cons, List.length_nil, Lib0.hexL_length]; omega)).mono ?_
      rintro _ r ⟨rfl, ir, cr⟩
      go_wp2_with fail
      go_end0
      refine ⟨rfl, ?_, c5.trans (cu.trans (cq.trans cr))⟩
      rw [HV.out]
      simp only [List.append_assoc, List.cons_append, List.nil_append] at ir ⊢
      exact ir
end Go.Proofs.Ytgidjfhlooggkaa.Bd
