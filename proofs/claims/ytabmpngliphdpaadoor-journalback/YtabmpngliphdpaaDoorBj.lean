/- journal: the builder within a Journal, which is read by String and written on. -/
import Derived.Test.YtabmpngliphdpaaDoorBd
import Derived.Lib.FrozenHead
namespace Go.Proofs.YtabmpngliphdpaaDoor.Bj
set_option linter.unusedVariables false
set_option linter.unusedSimpArgs false
open Go.RowKit Go.Shelf Go.Lib Lib0 Kb Bd
abbrev tJo : TypeId := 83
/-- a journal in memory: its bytes, how many entries it tells -/
structure Jo (w : World) (B g : Nat) (p v : Value) (l : List UInt8) (n : Int) : Prop where
  row : w.heap[g]? = some (.cells #[p, v, .int .i64 n] tJo (0, 0))
  addr : p = .pointer none ∨ p = .pointer (some ⟨g, 0, none⟩)
  own : w.ownsRowF B 5 1 v l.length (Lib.byteCells l)
  base : B ≤ g
  empty : l = [] → v = .slice none 0 0
/-- all stays but the journal's own blocks -/
structure Fj (g : Nat) (v : Value) (w w' : World) : Prop where
  os : w'.os = w.os
  tape : w'.tape = w.tape
  output : w'.output = w.output
  size : w.heap.size ≤ w'.heap.size
  block : ∀ k, k < w.heap.size → k ≠ g → v.ownBlock ≠ some k → w'.heap[k]? = w.heap[k]?
/-- the same row, or a new one -/
def Nw (w : World) (v v' : Value) : Prop := ∀ q, v'.ownBlock = some q → v.ownBlock = some q ∨ w.heap.size ≤ q
theorem Fj.refl (g : Nat) (v : Value) (w : World) : Fj g v w w := ⟨rfl, rfl, rfl, Nat.le_refl _, fun _ _ _ _ => rfl⟩
theorem Fj.trans {g : Nat} {v v' : Value} {a b c : World} (h : Fj g v a b) (hv : Nw a v v') (k : Fj g v' b c) : Fj g v a c :=
  ⟨k.os.trans h.os, k.tape.trans h.tape, k.output.trans h.output, Nat.le_trans h.size k.size, fun i hi h1 h2 => (k.block i (Nat.lt_of_lt_of_le hi h.size) h1 (fun e => (hv i e).elim h2 (fun e => by omega))).trans (h.block i hi h1 h2)⟩
theorem Fj.of_below {g : Nat} {v : Value} {a b : World} (h : Below a.heap.size a b) : Fj g v a b := ⟨h.os, h.tape, h.output, h.size, fun i hi _ _ => h.block i hi⟩
theorem Fj.of_grown {g : Nat} {v : Value} {a b : World} (h : a.grownBy b v.ownBlock) : Fj g v a b := ⟨h.os, h.tape, h.output, h.size, fun i hi _ h2 => h.block i hi (fun e => h2 e.symm)⟩
theorem Fj.of_set (g : Nat) (v : Value) (w : World) (o : Nat) (x : Value) : Fj g v w (w.setCell ⟨g, o, none⟩ x) := ⟨rfl, rfl, rfl, by simp [World.setCell], fun i _ h1 _ => scne (fun e => h1 e.symm) _ _⟩
theorem Nw.refl (w : World) (v : Value) : Nw w v v := fun _ h => .inl h
theorem Nw.trans {a b : World} {u v x : Value} (h : Nw a u v) (k : Nw b v x) (hs : a.heap.size ≤ b.heap.size) : Nw a u x := fun q hq => (k q hq).elim (h q) (fun e => .inr (Nat.le_trans hs e))
theorem Fj.below {g : Nat} {v : Value} {a b : World} {B : Nat} (h : Fj g v a b) (hB : B ≤ g) (hv : ∀ q, v.ownBlock = some q → B ≤ q) (hs : B ≤ a.heap.size) : Below B a b :=
  ⟨h.os, h.tape, h.output, h.size, fun k hk => h.block k (by omega) (by omega) (fun e => by have := hv k e; omega)⟩
theorem ownF_keep {w w' : World} {b e s n : Nat} {v : Value} {xs : List Value} (h : w.ownsRowF b e s v n xs) (hk : ∀ p, v.ownBlock = some p → w'.heap[p]? = w.heap[p]?) : w'.ownsRowF b e s v n xs := by
  refine ⟨h.1, ?_⟩
  rcases h.2 with hn | ⟨g, cap, cur, fz, rfl, hb, hgg, rest⟩
  · exact .inl hn
  · exact .inr ⟨g, cap, cur, fz, rfl, hb, (hk g rfl).trans hgg, rest⟩
theorem Jo.lt {w : World} {B g : Nat} {p v : Value} {l : List UInt8} {n : Int} (h : Jo w B g p v l n) : g < w.heap.size := (Array.getElem?_eq_some_iff.1 h.row).1
theorem Jo.ne {w : World} {B g : Nat} {p v : Value} {l : List UInt8} {n : Int} (h : Jo w B g p v l n) : v.ownBlock ≠ some g := ownBlock_neF h.own h.row (by decide)
theorem Jo.below {w w' : World} {B g : Nat} {p v : Value} {l : List UInt8} {n : Int} (h : Jo w B g p v l n) (k : Below w.heap.size w w') : Jo w' B g p v l n :=
  ⟨kept k h.row, h.addr, ownF_keep h.own fun q hq => k.block q (h.own.lt q hq).2, h.base, h.empty⟩
theorem ownF_sl {w : World} {base e s n : Nat} {v : Value} {xs : List Value} (h : w.ownsRowF base e s v n xs) : ∃ o cap, v = .slice o n cap := by
  rcases h.2 with ⟨rfl, h0⟩ | ⟨g, cap, cur, fz, rfl, _⟩
  · exact ⟨none, 0, by rw [h0]⟩
  · exact ⟨_, cap, rfl⟩
theorem liesJ : liesAt Tryd.prog Tryd.prog.depth tJo (3 / Tryd.prog.cellsOf tJo) 0 81 1 = true := by kernel_rfl
set_option maxRecDepth 100000 in
theorem jcheck_any {w : World} {B g : Nat} {p v : Value} {l : List UInt8} {n : Int} (h : Jo w B g p v l n) :
    Calls Tryd.prog 71 #[.pointer (some ⟨g, 0, none⟩)] w fun e w' => e = .returned (.tuple #[]) ∧ Jo w' B g (.pointer (some ⟨g, 0, none⟩)) v l n ∧ Fj g v w w' := by
  have hne := h.ne
  obtain ⟨h1, h2, h3, h4, h5⟩ := h
  obtain ⟨j, hj, hjs⟩ := sizeB
  have hsh : w.shape? g = some (tJo, 3) := by simp [World.shape?, h1]
  have c0 : w.cell? ⟨g, 0, none⟩ = some p := by simp [World.cell?, h1]
  have z0 : w.frozen? ⟨g, 0, none⟩ = false := by simp [World.frozen?, h1]
  have n1 := Jg.setCell_heap h1 0 (.pointer (some ⟨g, 0, none⟩))
  have o1 : (w.setCell ⟨g, 0, none⟩ (.pointer (some ⟨g, 0, none⟩))).ownsRowF B 5 1 v l.length (Lib.byteCells l) := ownF_keep h3 fun q hq => scne (fun e => hne (by rw [hq, e])) _ _
  rcases h2 with rfl | rfl
  · have HR : Hid (Jo (w.setCell ⟨g, 0, none⟩ (.pointer (some ⟨g, 0, none⟩))) B g (.pointer (some ⟨g, 0, none⟩)) v l n) := ⟨n1, .inr rfl, o1, h4, h5⟩
    clear h3 h1 n1 o1 hne h5
    go_enter Tryd.func71, Tryd.ntmps71
    go_wp2
    rw [Lib.run_to_unsafe w ⟨g, 0, none⟩ Tryd.underlying79 Tryd.underlying112 hj (by rw [hjs]; decide) hsh (Nat.zero_lt_succ 2)]
    simp only [Result.andThen]
    rw [Oper.upon_value]
    go_wp2
    rw [run_callFunc_extern Tryd.func73 (by kernel_rfl) (by kernel_rfl) (by kernel_rfl) (e := Extern.AbiNoEscape.same) (by kernel_rfl)]
    rw [Lib.run_noEscape]
    simp only [Result.andThen]
    rw [Oper.upon_value]
    go_wp2
    rw [Lib.run_from_unsafe w ⟨g, 0, none⟩ Tryd.underlying112 Tryd.underlying79 hj hsh liesJ]
    simp only [Result.andThen]
    rw [Oper.upon_value]
    go_wp2
    go_end0
    exact ⟨rfl, HR.out, Fj.of_set _ _ _ _ _⟩
  · clear n1 o1
    have HR : Hid (Jo w B g (.pointer (some ⟨g, 0, none⟩)) v l n) := ⟨h1, .inr rfl, h3, h4, h5⟩
    clear h1 h3 hne h5
    go_enter Tryd.func71, Tryd.ntmps71
    go_wp2
    rw [Lib.run_neq_ptr_same w _ Tryd.underlying79 hj]
    go_wp2
    go_end0
    exact ⟨rfl, HR.out, Fj.refl _ _ _⟩
section
variable {P : Program} {w : World}
/-- append of a string to a row whose head may be frozen; the row is the old one or a new one -/
theorem app_str (base : Nat) (t u ty e : TypeId) (i : TypeInfo) (ht : P.underlying t = some (.slice e)) (hu : P.underlying u = some .string) (hi : P.info? e = some i) (hz : i.zero = some (.int .u8 0)) (hsize : i.size = 1) (hby : i.bytes = 1)
    (v : Value) (n : Nat) (xs : List Value) (hown : w.ownsRowF base e 1 v n xs) (s : ByteArray) (h63 : n + s.size ≤ maxLen) (hbytes : n + s.size ≤ 140737488355328) (hbase : base ≤ w.heap.size) :
    ∃ v' w', (Builtin.append_ #[t, u] ty #[v, .string s]).run P w = .ok v' w' ∧ w'.ownsRowF base e 1 v' (n + s.size) (xs ++ strCells s) ∧ w.grownBy w' v.ownBlock ∧ Nw w v v' := by
  obtain ⟨v', w', h1, h2, h3, _⟩ := run_append_own_stringF (P := P) w base t u ty e i ht hu hi hz hsize hby v n xs hown s h63 hbytes hbase
  refine ⟨v', w', h1, h2, h3, ?_⟩
  rcases hown.2 with ⟨rfl, rfl⟩ | ⟨g, cap, cur, fz, rfl, hbg, hg, hfz, hnc, hcm, hcs, htake⟩
  · obtain ⟨v2, w2, k1, k2, _, _⟩ := run_append_own_stringF (P := P) w w.heap.size t u ty e i ht hu hi hz hsize hby (.slice none 0 0) 0 xs ⟨hown.1, .inl ⟨rfl, rfl⟩⟩ s h63 hbytes (Nat.le_refl _)
    rw [h1] at k1
    cases k1
    exact fun q hq => .inr (k2.lt q hq).1
  · have hxl : xs.length = n := by simpa using hown.1
    by_cases hroom : n + s.size ≤ cap
    · have hcs' : cur.size = cap := by simpa using hcs
      have hr := run_append_room_stringF (P := P) w t u ty e i ht hu hi hsize g n cap cur fz hg (by simpa using hfz) s hroom (by omega)
      rw [h1] at hr
      cases hr
      exact fun q hq => .inl hq
    · have holds : ∀ j u, xs[j]? = some u → w.cell? ((⟨g, 0, none⟩ : Addr).add j) = some u := hown.cells (g := g) rfl
      have hr := run_append_grow_string (P := P) w t u ty e i (.int .u8 0) ht hu hi hz ⟨g, 0, none⟩ n cap xs (by rw [hsize]; simpa using hxl) holds s (by omega) (by unfold maxLen at h63; omega) (by rw [hby]; exact growslice_fits (by omega) (by omega))
      rw [h1] at hr
      cases hr
      exact fun q hq => .inr (by cases hq; exact Nat.le_refl _)
theorem wpList_app_str {ops : Array Oper} {rest : List Oper} {o : Oper} {a : Act} {Q : Exit → Act → World → Prop} (hgd : o.guard = none) (sl x : Operand) (t u : TypeId)
    (ho : o.op = .call { callee := .builtin .append, args := #[sl, x], argTypes := #[t, u] })
    (base : Nat) (e : TypeId) (i : TypeInfo) (ht : P.underlying t = some (.slice e)) (hu : P.underlying u = some .string) (hi : P.info? e = some i) (hz : i.zero = some (.int .u8 0)) (hsize : i.size = 1) (hby : i.bytes = 1)
    (v : Value) (n : Nat) (xs : List Value) (hs : a.eval sl = v) (hown : w.ownsRowF base e 1 v n xs) (s : ByteArray) (hx : a.eval x = .string s)
    (h63 : n + s.size ≤ maxLen) (hbytes : n + s.size ≤ 140737488355328) (hbase : base ≤ w.heap.size)
    (h : ∀ v' w', w'.ownsRowF base e 1 v' (n + s.size) (xs ++ strCells s) → w.grownBy w' v.ownBlock → Nw w v v' → wpList P ops Q rest (a.put o.dst v') w') : wpList P ops Q (o :: rest) a w := by
  refine wpList_plain hgd fun K hK => ?_
  obtain ⟨v', w', hr, h2, h3, h4⟩ := app_str (P := P) (w := w) base t u o.type e i ht hu hi hz hsize hby v n xs hown s h63 hbytes hbase
  unfold Oper.wp execOp
  simp only [ho, resolve, invoke, builtin, Sem.run_bind, Sem.run_pure, Result.andThen_ok, List.map_toArray, List.map_cons, List.map_nil, hs, hx, hr]
  exact hK _ _ (h v' w' h2 h3 h4)
end
set_option maxRecDepth 100000 in
theorem jwrite_any {w : World} {B g : Nat} {p v : Value} {l : List UInt8} {n : Int} (h : Jo w B g p v l n) (s : ByteArray) (h0 : s.data.toList ≠ []) (hl : l.length + s.size ≤ 140737488355328) :
    Calls Tryd.prog 58 #[.pointer (some ⟨g, 0, none⟩), .string s] w fun e w' => e = .returned (.tuple #[.int .i64 (s.size : Int), .nilIface]) ∧ ∃ v', Jo w' B g (.pointer (some ⟨g, 0, none⟩)) v' (l ++ s.data.toList) n ∧ Fj g v w w' ∧ Nw w v v' := by
  obtain ⟨ia, hia, hza0, hza1, hza2⟩ := info_parts infoB
  have hlt := h.lt
  have hB : B ≤ g := h.base
  go_enter Tryd.func58, Tryd.ntmps58
  go_wp2_with fail
  refine (jcheck_any h).mono ?_
  rintro _ x ⟨rfl, hJ, ch⟩
  have hne := hJ.ne
  have h2 := hJ.own
  have h1 := hJ.row
  obtain ⟨o, cap, rfl⟩ := ownF_sl h2
  obtain ⟨L, HL, hL⟩ : ∃ L, Hid (l.length = L) ∧ L + s.size ≤ 140737488355328 := ⟨_, rfl, hl⟩
  rw [HL.out] at h1 h2 ch hne
  have c1 : x.cell? ⟨g, 1, none⟩ = some (.slice o L cap) := by simp [World.cell?, h1]
  have z1 : x.frozen? ⟨g, 1, none⟩ = false := by simp [World.frozen?, h1]
  have HO : Hid (World.ownsRowF x B 5 1 (.slice o L cap) L (Lib.byteCells l)) := h2
  have H1 : Hid (x.heap[g]? = some (.cells #[.pointer (some ⟨g, 0, none⟩), .slice o L cap, .int .i64 n] tJo (0, 0))) := h1
  have HNE : Hid ((Value.slice o L cap).ownBlock ≠ some g) := hne
  have HCH : Hid (Fj g (.slice o L cap) w x) := ch
  have hxs := ch.size
  have H0 : Hid (s.data.toList ≠ []) := h0
  clear h h1 h2 hl hJ ch hne h0
  go_wp2_with (refine wpList_app_str rfl _ _ _ _ rfl B 5 ia Tryd.underlying75 Tryd.underlying9 hia hza0 hza1 hza2 _ L _ rfl HO.out s rfl (by unfold maxLen; omega) (by omega) (by omega) ?_; intro v3 w1 own1 gr1 nw1; obtain ⟨o3, cp3, rfl⟩ := ownF_sl own1; have n2 : w1.heap[g]? = some (.cells #[.pointer (some ⟨g, 0, none⟩), .slice o L cap, .int .i64 n] tJo (0, 0)) := (gr1.block g (Array.getElem?_eq_some_iff.1 H1.out).1 (fun e => HNE.out e.symm)).trans H1.out; have k1 : w1.cell? ⟨g, 1, none⟩ = some (.slice o L cap) := (by simp [World.cell?, n2]); have k2 : w1.frozen? ⟨g, 1, none⟩ = false := (by simp [World.frozen?, n2]); have HNW : Hid (Nw x (.slice o L cap) (.slice o3 (L + s.size) cp3)) := nw1; have HGR : Hid (Fj g (.slice o L cap) x w1) := Fj.of_grown gr1; replace own1 : Hid (World.ownsRowF _ _ _ _ _ _ _) := own1; clear gr1 nw1)
  go_ret2
  have n3 := Jg.setCell_heap n2 1 (.slice o3 (L + s.size) cp3)
  have o3' := own1.out
  have hn3 := ownBlock_neF o3' n2 (by decide)
  refine ⟨rfl, _, ⟨n3, .inr rfl, ?_, hB, ?_⟩, by rw [HL.out]; exact HCH.out.trans (Nw.refl _ _) (HGR.out.trans HNW.out (Fj.of_set _ _ _ _ _)), ?_⟩
  · have o4 : (w1.setCell ⟨g, 1, none⟩ (.slice o3 (L + s.size) cp3)).ownsRowF B 5 1 (.slice o3 (L + s.size) cp3) (L + s.size) _ := ownF_keep o3' fun q hq => scne (fun e => hn3 (by rw [hq, e])) _ _
    have h3 : s.data.toList.length = s.size := by simp
    rw [List.length_append, HL.out, h3, Lib.byteCells_append]
    exact o4
  · intro e
    have := H0.out
    simp at e
    exact absurd (by simpa using e.2) this
  · rw [HL.out]; exact fun q hq => (HNW.out q hq).elim .inl (fun e => .inr (Nat.le_trans HCH.out.size e))
theorem string_size {l : List UInt8} : (⟨l.toArray⟩ : ByteArray).size = l.length := by show l.toArray.size = _; simp
set_option maxRecDepth 100000 in
set_option maxHeartbeats 1600000 in
theorem jstring_some {w : World} {B g : Nat} {p v : Value} {l : List UInt8} {n : Int} (h : Jo w B g p v l n) (h0 : l ≠ []) :
    Calls Tryd.prog 43 #[.pointer (some ⟨g, 0, none⟩)] w fun e w' => e = .returned (.string ⟨l.toArray⟩) ∧ Jo w' B g p v l n ∧ Fj g v w w' := by
  have hgne := h.ne
  obtain ⟨hbk, hp, hown, hB, he⟩ := h
  have hl0 : l.length ≠ 0 := by simpa using h0
  obtain ⟨q, cap, cur, fz, rfl, hbg, hg, hfz, hnc, hcm, hcs, htake⟩ : ∃ q cap cur fz, v = .slice (some ⟨q, 0, none⟩) l.length cap ∧ B ≤ q ∧ w.heap[q]? = some (.cells cur 5 fz) ∧ fz.2 ≤ l.length * 1 ∧ l.length ≤ cap ∧ cap ≤ maxLen ∧ cur.size = cap * 1 ∧ cur.toList.take (l.length * 1) = Lib.byteCells l := by
    rcases hown.2 with ⟨_, hz⟩ | ⟨q, cap, cur, fz, hv, r⟩
    · exact absurd hz hl0
    · exact ⟨q, cap, cur, fz, hv, r⟩
  have hqg : q ≠ g := fun e => hgne (by subst e; rfl)
  have c1 : w.drew.cell? ⟨g, 1, none⟩ = some (.slice (some ⟨q, 0, none⟩) l.length cap) := by
    have : w.drew.heap[g]? = some (.cells #[p, .slice (some ⟨q, 0, none⟩) l.length cap, .int .i64 n] tJo (0, 0)) := hbk
    simp [World.cell?, this]
  have hSD : (Builtin.unsafeSliceData_ #[75] 132 #[.slice (some ⟨q, 0, none⟩) l.length cap]).run Tryd.prog w.drew = .ok (.pointer (some ⟨q, 0, none⟩)) w.drew :=
    Lib.run_unsafeSliceData_row _ _ _ _ _ _ (by omega)
  have cb : Tryd.prog.cellsOf 5 = 1 := by kernel_rfl
  have hUS : (Builtin.unsafeString_ #[132, 3] 9 #[.pointer (some ⟨q, 0, none⟩), .int .i64 l.length]).run Tryd.prog w.drew = .ok (.string ⟨l.toArray⟩) (w.drew.freeze ⟨q, 0, none⟩ l.length) := by
    refine Lib.run_unsafeString_row w.drew 132 3 9 5 Tryd.underlying132 cb q cur.size (by have hg' : w.drew.heap[q]? = some (.cells cur 5 fz) := hg; simp [World.shape?, hg']) l h0 (by omega) (by unfold maxLen at hcm; omega) ?_
    intro j x hx
    exact hown.cells (g := q) rfl j (.int .u8 x.toNat) (by simp [Lib.byteCells, hx])
  have HF : Hid (Jo (w.drew.freeze ⟨q, 0, none⟩ l.length) B g p (.slice (some ⟨q, 0, none⟩) l.length cap) l n ∧ Fj g (.slice (some ⟨q, 0, none⟩) l.length cap) w (w.drew.freeze ⟨q, 0, none⟩ l.length)) := by
    have hb := Lib.below_freeze (Below.drew (Below.refl 0 w)) (p := ⟨q, 0, none⟩) (Nat.zero_le _) l.length
    refine ⟨⟨(freeze_ne (fun e => hqg e.symm)).trans hbk, hp, ⟨hown.1, .inr ?_⟩, hB, he⟩, ⟨hb.os, hb.tape, hb.output, hb.size, fun k hk h1 h2 => freeze_ne (fun e => h2 (by rw [e]; rfl))⟩⟩
    obtain ⟨fz', hfz', hle⟩ : ∃ fz', (w.drew.freeze ⟨q, 0, none⟩ l.length).heap[q]? = some (.cells cur 5 fz') ∧ fz'.2 ≤ l.length := by
      have hgd : w.drew.heap[q]? = some (.cells cur 5 fz) := hg
      unfold World.freeze
      split
      · rename_i hx; exact absurd hx hl0
      · simp only [Array.getElem?_modify, hgd, if_true, Option.map_some]
        refine ⟨_, rfl, ?_⟩
        simp
        split <;> simp_all <;> omega
    exact ⟨q, cap, cur, fz', rfl, hbg, hfz', by omega, hnc, hcm, hcs, htake⟩
  clear hown hg hbk htake hgne hp he
  go_enter Tryd.func43, Tryd.ntmps43
  go_wp2
  go_region
  all_goals (go_wp2; go_ret; exact ⟨rfl, HF.out⟩)
end Go.Proofs.YtabmpngliphdpaaDoor.Bj
