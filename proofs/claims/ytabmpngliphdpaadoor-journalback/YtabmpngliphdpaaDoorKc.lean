/- journal.Open. -/
import Derived.Test.YtabmpngliphdpaaDoorKa
import Derived.Test.YtabmpngliphdpaaDoorJx
namespace Go.Proofs.YtabmpngliphdpaaDoor.Kc
set_option linter.unusedVariables false
set_option linter.unusedSimpArgs false
open Go.RowKit Go.Conc Lib0 Kb Ja Jl Jn Jp Jq Jr Ju Jg Bj Ka Jx Jy
attribute [local go_sem] Oper.semAt_some
abbrev tPF : TypeId := 86
theorem as_any (q k : Nat) (W : World) (hh : Hdl W) (hx1 : W.heap[k]? = some (.cells #[.pointer none] tPF (0, 0))) :
    Calls Tryd.prog 33 #[.iface 86 (.pointer (some ⟨q, 0, none⟩)), .iface 88 (.pointer (some ⟨k, 0, none⟩))] W fun ev w' => ev = .returned (.bool true) ∧ w'.heap[k]? = some (.cells #[.pointer (some ⟨q, 0, none⟩)] tPF (0, 0)) ∧ Below k W w' := by
  have hfr : W.frozen? ⟨k, 0, none⟩ = false := by simp [World.frozen?, hx1]
  have hcl : W.cell? ⟨k, 0, none⟩ = some (.pointer none) := by simp [World.cell?, hx1]
  have hkl : k < W.heap.size := (Array.getElem?_eq_some_iff.1 hx1).1
  refine (Je.as_hit ⟨q, 0, none⟩ ⟨k, 0, none⟩ (.pointer none) W hh hcl hfr).mono ?_
  rintro ev y ⟨rfl, hy⟩
  obtain ⟨Y, hY⟩ : ∃ Y, ((((W.alloc (.cells #[.pointer (some ⟨k, 0, none⟩)] 88)).alloc (.cells #[.pointer (some ⟨3, 88, none⟩), .pointer (some ⟨W.heap.size, 0, none⟩), .int .u64 150] 115)).alloc (.cells #[.pointer (some ⟨3, 88, none⟩), .pointer (some ⟨W.heap.size, 0, none⟩), .int .u64 150] 115)).alloc (.cells #[.pointer (some ⟨q, 0, none⟩)] 86)) = Y := ⟨_, rfl⟩
  rw [hY] at hy
  have hbY : Below W.heap.size W Y := hY ▸ keepB (keepB (keepB (below_one _ _) (below_one _ _)) (below_one _ _)) (below_one _ _)
  have hxY := kept hbY hx1
  subst hy
  refine ⟨rfl, ?_, (hbY.mono (Nat.le_of_lt hkl)).setCell (Nat.le_refl _) _⟩
  rw [setCell_heap hxY 0]; rfl
/-- where a cutter stands -/
def atOf (w : World) (g : Nat) : Nat := match w.heap[g]? with
  | some (Obj.cells c _ _) => (match c[1]? with
    | some (Value.int _ i) => i.toNat
    | _ => 0)
  | _ => 0
theorem atOf_cu {w : World} {g : Nat} {b : ByteArray} {at' n rc ec : Nat} (h : Cu w g b at' n rc ec) : atOf w g = at' := by
  unfold atOf
  rw [h.row]
  rfl
theorem cuts_step {l : List UInt8} {a n z : Nat} (h : rcd (l.drop a) ((n : Int) + 1) = some z) (ha : a ≤ l.length) : cuts l (l.length + 1) a n = cuts l (l.length + 1) (a + (12 + z)) (n + 1) := by
  have := rcd_fit h
  rw [cuts_some h]
  exact cuts_fuel l _ _ _ _ (by omega) (by omega) (by omega)
/-- what holds between the rounds of Open -/
structure Ro (w wr : World) (J g rc ec : Nat) (s : ByteArray) (at' n : Nat) : Prop where
  cu : Cu wr g s at' n rc ec
  jo : ∃ p v, Jo wr w.heap.size J p v (s.data.toList.take at') (n : Int)
  fit : at' ≤ s.size ∧ n ≤ at'
  run : cuts s.data.toList (s.data.toList.length + 1) at' n = ends s.data.toList
  below : Below w.heap.size w wr
  low : w.heap.size ≤ g ∧ w.heap.size ≤ rc ∧ w.heap.size ≤ ec
theorem Oc.below {g rc ec B : Nat} {a b : World} (h : Oc g rc ec a b) (hB : B ≤ a.heap.size) (hg : B ≤ g) (h1 : B ≤ rc) (h2 : B ≤ ec) : Below B a b :=
  ⟨h.os, h.tape, h.output, h.size, fun k hk => h.block k (by omega) (by omega) (by omega) (by omega)⟩
/-- a journal abides a cutter's steps -/
theorem jo_oc {w wr y : World} {J g rc ec B : Nat} {p v : Value} {l : List UInt8} {n : Int} {s : ByteArray} {at' m : Nat} (h : Jo wr B J p v l n) (hc : Cu wr g s at' m rc ec) (k : Oc g rc ec wr y) : Jo y B J p v l n := by
  obtain ⟨s1, hr⟩ := hc.rch
  obtain ⟨s2, he⟩ := hc.ech
  have hj := h.row
  have n1 : J ≠ g := fun e => by subst e; rw [hc.row] at hj; cases hj
  have n2 : J ≠ rc := fun e => by subst e; rw [hr] at hj; cases hj
  have n3 : J ≠ ec := fun e => by subst e; rw [he] at hj; cases hj
  refine ⟨(k.block J h.lt n1 n2 n3).trans hj, h.addr, ownF_keep h.own fun q hq => ?_, h.base, h.empty⟩
  have hql := (h.own.lt q hq).2
  obtain ⟨cap, cur, fz, hg⟩ : ∃ cap cur fz, wr.heap[q]? = some (.cells cur 5 fz) := by
    rcases h.own.2 with ⟨rfl, _⟩ | ⟨q', cap, cur, fz, rfl, _, hg, _⟩
    · cases hq
    · cases hq; exact ⟨cap, cur, fz, hg⟩
  refine k.block q hql (fun e => ?_) (fun e => ?_) (fun e => ?_)
  · subst e; rw [hc.row] at hg; cases hg
  · subst e; rw [hr] at hg; cases hg
  · subst e; rw [he] at hg; cases hg
/-- a cutter abides a journal's steps -/
theorem cu_fj {wr y : World} {J g rc ec B : Nat} {p v : Value} {l : List UInt8} {n : Int} {s : ByteArray} {at' m : Nat} (h : Jo wr B J p v l n) (hc : Cu wr g s at' m rc ec) (k : Fj J v wr y) : Cu y g s at' m rc ec := by
  obtain ⟨s1, hr⟩ := hc.rch
  obtain ⟨s2, he⟩ := hc.ech
  have hj := h.row
  have hrow : ∀ q, v.ownBlock = some q → ∃ cur fz, wr.heap[q]? = some (.cells cur 5 fz) := fun q hq => by
    rcases h.own.2 with ⟨rfl, _⟩ | ⟨q', cap, cur, fz, rfl, _, hg, _⟩
    · cases hq
    · cases hq; exact ⟨cur, fz, hg⟩
  refine ⟨(k.block g (Array.getElem?_eq_some_iff.1 hc.row).1 ?_ ?_).trans hc.row, ⟨s1, (k.block rc (Array.getElem?_eq_some_iff.1 hr).1 ?_ ?_).trans hr⟩, ⟨s2, (k.block ec (Array.getElem?_eq_some_iff.1 he).1 ?_ ?_).trans he⟩, hc.ne⟩
  · intro e; subst e; rw [hc.row] at hj; cases hj
  · intro e; obtain ⟨_, _, hg⟩ := hrow _ e; rw [hc.row] at hg; cases hg
  · intro e; subst e; rw [hr] at hj; cases hj
  · intro e; obtain ⟨_, _, hg⟩ := hrow _ e; rw [hr] at hg; cases hg
  · intro e; subst e; rw [he] at hj; cases hj
  · intro e; obtain ⟨_, _, hg⟩ := hrow _ e; rw [he] at hg; cases hg
/-- what Open answers -/
def Op' (w : World) (s : ByteArray) (e : Ending) (w' : World) : Prop :=
  ∃ J p v er, e = .returned (.tuple #[.pointer (some ⟨J, 0, none⟩), .int .i64 ((ends s.data.toList).1 : Int), er]) ∧ Jo w' w.heap.size J p v (s.data.toList.take (ends s.data.toList).1) ((ends s.data.toList).2 : Int) ∧ ((ends s.data.toList).1 = s.size → er = .nilIface) ∧ ((ends s.data.toList).1 ≠ s.size → ∃ q, er = .iface 86 (.pointer (some ⟨q, 0, none⟩)) ∧ w.heap.size ≤ q ∧ Jg.Ft w' q ((ends s.data.toList).1 : Int) 230) ∧ Below w.heap.size w w'
set_option maxRecDepth 100000 in
set_option maxHeartbeats 3200000 in
theorem open_any (s : ByteArray) (hs : s.size ≤ 140737488355328) (w : World) (hH : Hal w) (hh : Hdl w) {a : Addr} (hE : w.cell? ⟨1, 0, none⟩ = some (.iface 173 (.pointer (some a)))) :
    Calls Tryd.prog 26 #[.string s] w (Op' w s) := by
  have HH : Hid (Hal w ∧ Hdl w ∧ w.cell? ⟨1, 0, none⟩ = some (.iface 173 (.pointer (some a))) ∧ s.size ≤ 140737488355328) := ⟨hH, hh, hE, hs⟩
  clear hH hh hE hs
  have hSS : Hid (s.data.toList.length = s.size) := (size_list s).symm
  go_enter Tryd.func26, Tryd.ntmps26
  go_wp2_with fail
  refine (new_any w).mono ?_
  rintro e y0 ⟨rfl, hJ0, hb0⟩
  obtain ⟨J, hJJ⟩ : ∃ J, w.heap.size = J := ⟨_, rfl⟩
  have HJ0 : Hid (Jo y0 w.heap.size J (.pointer none) (.slice none 0 0) [] 0) := hJJ ▸ hJ0
  have HB0 : Hid (Below w.heap.size w y0) := hb0
  have HJJ : Hid (w.heap.size = J) := hJJ
  rw [hJJ]
  clear hJ0 hb0 hJJ
  go_wp2_with fail
  refine (cutterOf_any s y0).mono ?_
  rintro e y1 ⟨g, rc, ec, rfl, hc, h1, h2, h3, hb1⟩
  have HRO : Hid (Ro w y1 J g rc ec s 0 0) := by
    have hj1 := Bj.Jo.below HJ0.out hb1
    have hl := HB0.out.size
    exact ⟨hc, ⟨_, _, hj1⟩, ⟨Nat.zero_le _, Nat.le_refl _⟩, rfl, HB0.out.trans (hb1.mono hl), by omega, by omega, by omega⟩
  clear hc h1 h2 h3 hb1
  go_wp2_with fail
  go_loopw [7] (fun jv wr => ∃ at' n, Hid (Ro w wr J g rc ec s at' n)) (fun _ wr => s.size - atOf wr g)
  case atStart => exact ⟨0, 0, HRO⟩
  case round =>
    obtain ⟨at', n, HR⟩ := hrel
    clear HRO
    have HHr : Hid (Hal wr) := hal_next HH.out.1 HR.out.below
    have HEr : Hid (wr.cell? ⟨1, 0, none⟩ = some (.iface 173 (.pointer (some a)))) := (HR.out.below.cell (World.block_lt_of_cell? _ _ HH.out.2.2.1)).trans HH.out.2.2.1
    obtain ⟨p, v, HJr⟩ : ∃ p v, Hid (Jo wr w.heap.size J p v (s.data.toList.take at') (n : Int)) := let ⟨p, v, h⟩ := HR.out.jo; ⟨p, v, h⟩
    cases hz : rcd (s.data.toList.drop at') ((n : Int) + 1) with
    | none =>
      by_cases hend : at' = s.size
      · have HNX := next_end HR.out.cu HHr.out HH.out.2.2.2 HR.out.fit.1 HR.out.fit.2 hz hend HEr.out
        have HN : Hid (Calls _ _ _ _ _) := HNX
        have HEND : Hid (at' = s.size) := hend
        have HZN : Hid (rcd (s.data.toList.drop at') ((n : Int) + 1) = none) := hz
        clear HNX hend hz
        go_wp2_with fail
        refine HN.out.mono ?_
        rintro e y ⟨rfl, hcu, hoc⟩
        have HOC : Hid (Oc g rc ec wr y) := hoc
        have HJy : Hid (Jo y w.heap.size J p v (s.data.toList.take at') (n : Int)) := jo_oc (w := w) HJr.out HR.out.cu hoc
        have HBw : Hid (Below w.heap.size w y) := HR.out.below.trans (Kc.Oc.below hoc HR.out.below.size HR.out.low.1 HR.out.low.2.1 HR.out.low.2.2)
        have HEY : Hid (y.cell? ⟨1, 0, none⟩ = some (.iface 173 (.pointer (some a)))) := (HBw.out.cell (World.block_lt_of_cell? _ _ HH.out.2.2.1)).trans HH.out.2.2.1
        clear hcu hoc
        have hcy : y.cell? ⟨1, 0, none⟩ = some (.iface 173 (.pointer (some a))) := HEY.out
        obtain ⟨W2, HW2⟩ : ∃ W, Hid (y.alloc (.cells #[.int .i64 0, .int .i64 0, .int .i64 0, .int .i64 0, .string ⟨#[]⟩, .slice none 0 0, .string ⟨#[]⟩] 107) = W) := ⟨_, rfl⟩
        have hb2 : Below y.heap.size y W2 := HW2.out ▸ below_one _ _
        have hx2 : W2.heap[y.heap.size]? = some (.cells rcZ 107 (0, 0)) := HW2.out ▸ h1_0 _ _
        obtain ⟨W3, HW3⟩ : ∃ W, Hid (W2.setRow y.heap.size rcZ = W) := ⟨_, rfl⟩
        have hx3 : W3.heap[y.heap.size]? = some (.cells rcZ 107 (0, 0)) := HW3.out ▸ setRow_at hx2 _
        have hs3 : W3.heap.size = W2.heap.size := by rw [← HW3.out]; simp
        have hb3 : Below y.heap.size y W3 := HW3.out ▸ ⟨hb2.os, hb2.tape, hb2.output, by have := hb2.size; simpa using this, fun k hk => (setRow_other W2 _ k _ (fun e => by omega)).trans (hb2.block k hk)⟩
        obtain ⟨W4, HW4⟩ : ∃ W, Hid (W3.alloc (.cells #[.pointer none] tPF) = W) := ⟨_, rfl⟩
        have hb4 : Below W3.heap.size W3 W4 := HW4.out ▸ below_one _ _
        have hx4 : W4.heap[W3.heap.size]? = some (.cells #[.pointer none] tPF (0, 0)) := HW4.out ▸ h1_0 _ _
        have hr4 : W4.heap[y.heap.size]? = some (.cells rcZ 107 (0, 0)) := kept hb4 hx3
        have hby : Below y.heap.size y W4 := hb3.trans (hb4.mono hb3.size)
        have e4 : W4.cell? ⟨1, 0, none⟩ = some (.iface 173 (.pointer (some a))) := (hby.cell (World.block_lt_of_cell? _ _ hcy)).trans hcy
        have HBY : Hid (Below y.heap.size y W4) := hby
        have HX4 : Hid (W4.heap[W3.heap.size]? = some (.cells #[.pointer none] tPF (0, 0))) := hx4
        have HS3 : Hid (y.heap.size < W3.heap.size) := by have h1 := (Array.getElem?_eq_some_iff.1 hx3).1; exact h1
        have HFIN : Hid (Op' w s (.returned (.tuple #[.pointer (some ⟨J, 0, none⟩), .int .i64 (s.size : Int), .nilIface])) W4) := by
          have hrun := HR.out.run
          rw [cuts_none HZN.out] at hrun
          refine ⟨J, p, v, .nilIface, ?_, ?_, fun _ => rfl, fun h => ?_, ?_⟩
          · rw [← hrun, ← HEND.out]
          · rw [← hrun]; exact Bj.Jo.below HJy.out HBY.out
          · rw [← hrun] at h; exact absurd HEND.out h
          · exact HBw.out.trans (HBY.out.mono HBw.out.size)
        have zr : (Tryd.prog.info? 107).map (·.size) = some rcZ.size := zrec
        have o0 : rcZ.all (·.oneCell') = true := by simp [rcZ, Value.oneCell']
        clear hb2 hs3 hb3 hb4 hby hx3 hx4 hr4 hcy
        have HIS : Hid (Calls _ _ _ _ _) := Jf.is_same a W4
        go_wp2_with (first | (rw [HW2.out]) | (rw [HW3.out]) | (rw [HW4.out]) | (refine wpList_store_row rfl 107 _ _ rfl y.heap.size rcZ rfl rfl _ _ hx2 zr rfl o0 ?_) | fail)
        refine HIS.out.mono ?_
        rintro e y5 ⟨rfl, rfl⟩
        go_wp2_with fail
        go_ret3
        exact HFIN.out
      · have hlt : at' < s.size := by have := HR.out.fit; omega
        have HNX := next_bad HR.out.cu HHr.out HH.out.2.2.2 HR.out.fit.1 HR.out.fit.2 hz hlt
        have HN : Hid (Calls _ _ _ _ _) := HNX
        have HEND : Hid (at' ≠ s.size) := hend
        have HZN : Hid (rcd (s.data.toList.drop at') ((n : Int) + 1) = none) := hz
        clear HNX hend hz hlt
        go_wp2_with fail
        refine HN.out.mono ?_
        rintro e y ⟨q, hq, rfl, hft, hcu, hoc⟩
        have HOC : Hid (Oc g rc ec wr y) := hoc
        have HFT : Hid (Jg.Ft y q (at' : Int) 230 ∧ wr.heap.size ≤ q) := ⟨hft, hq⟩
        have HJy : Hid (Jo y w.heap.size J p v (s.data.toList.take at') (n : Int)) := jo_oc (w := w) HJr.out HR.out.cu hoc
        have HBw : Hid (Below w.heap.size w y) := HR.out.below.trans (Kc.Oc.below hoc HR.out.below.size HR.out.low.1 HR.out.low.2.1 HR.out.low.2.2)
        have HEY : Hid (y.cell? ⟨1, 0, none⟩ = some (.iface 173 (.pointer (some a)))) := (HBw.out.cell (World.block_lt_of_cell? _ _ HH.out.2.2.1)).trans HH.out.2.2.1
        clear hcu hoc hft hq
        have hcy : y.cell? ⟨1, 0, none⟩ = some (.iface 173 (.pointer (some a))) := HEY.out
        obtain ⟨W2, HW2⟩ : ∃ W, Hid (y.alloc (.cells #[.int .i64 0, .int .i64 0, .int .i64 0, .int .i64 0, .string ⟨#[]⟩, .slice none 0 0, .string ⟨#[]⟩] 107) = W) := ⟨_, rfl⟩
        have hb2 : Below y.heap.size y W2 := HW2.out ▸ below_one _ _
        have hx2 : W2.heap[y.heap.size]? = some (.cells rcZ 107 (0, 0)) := HW2.out ▸ h1_0 _ _
        obtain ⟨W3, HW3⟩ : ∃ W, Hid (W2.setRow y.heap.size rcZ = W) := ⟨_, rfl⟩
        have hx3 : W3.heap[y.heap.size]? = some (.cells rcZ 107 (0, 0)) := HW3.out ▸ setRow_at hx2 _
        have hs3 : W3.heap.size = W2.heap.size := by rw [← HW3.out]; simp
        have hb3 : Below y.heap.size y W3 := HW3.out ▸ ⟨hb2.os, hb2.tape, hb2.output, by have := hb2.size; simpa using this, fun k hk => (setRow_other W2 _ k _ (fun e => by omega)).trans (hb2.block k hk)⟩
        obtain ⟨W4, HW4⟩ : ∃ W, Hid (W3.alloc (.cells #[.pointer none] tPF) = W) := ⟨_, rfl⟩
        have hb4 : Below W3.heap.size W3 W4 := HW4.out ▸ below_one _ _
        have hx4 : W4.heap[W3.heap.size]? = some (.cells #[.pointer none] tPF (0, 0)) := HW4.out ▸ h1_0 _ _
        have hr4 : W4.heap[y.heap.size]? = some (.cells rcZ 107 (0, 0)) := kept hb4 hx3
        have hby : Below y.heap.size y W4 := hb3.trans (hb4.mono hb3.size)
        have e4 : W4.cell? ⟨1, 0, none⟩ = some (.iface 173 (.pointer (some a))) := (hby.cell (World.block_lt_of_cell? _ _ hcy)).trans hcy
        have HBY : Hid (Below y.heap.size y W4) := hby
        have HX4 : Hid (W4.heap[W3.heap.size]? = some (.cells #[.pointer none] tPF (0, 0))) := hx4
        have HS3 : Hid (y.heap.size < W3.heap.size) := by have h1 := (Array.getElem?_eq_some_iff.1 hx3).1; exact h1
        have zr : (Tryd.prog.info? 107).map (·.size) = some rcZ.size := zrec
        have o0 : rcZ.all (·.oneCell') = true := by simp [rcZ, Value.oneCell']
        have hh4 : Hdl W4 := Hdl.next (Hdl.next HH.out.2.1 HBw.out) hby
        have hf4 : W4.heap[q]? = some (.cells #[.int .i64 (at' : Int), .int .i64 230] 91 (0, 0)) := kept hby HFT.out.1
        have hf41 : W4.cell? ⟨q, 1, none⟩ = some (.int .i64 230) := by simp [World.cell?, hf4]
        have HIS : Hid (Calls _ _ _ _ _) := Jf.is_end q 230 a W4 hf41
        have HAS : Hid (Calls _ _ _ _ _) := as_any q W3.heap.size W4 hh4 hx4
        have HF4 : Hid (W4.heap[q]? = some (.cells #[.int .i64 (at' : Int), .int .i64 230] 91 (0, 0))) := hf4
        have HS34 : Hid (q < W3.heap.size ∧ y.heap.size ≤ W3.heap.size ∧ W3.heap.size < W4.heap.size) := ⟨Nat.lt_of_lt_of_le (Array.getElem?_eq_some_iff.1 HFT.out.1).1 hb3.size, hb3.size, (Array.getElem?_eq_some_iff.1 hx4).1⟩
        clear hb2 hs3 hb3 hb4 hby hx3 hx4 hr4 hcy hh4 hf4 hf41
        go_wp2_with (first | (rw [HW2.out]) | (rw [HW3.out]) | (rw [HW4.out]) | (refine wpList_store_row rfl 107 _ _ rfl y.heap.size rcZ rfl rfl _ _ hx2 zr rfl o0 ?_) | fail)
        refine HIS.out.mono ?_
        rintro e y5 ⟨rfl, rfl⟩
        go_wp2_with fail
        refine HAS.out.mono ?_
        rintro e y6 ⟨rfl, hx6, hb6⟩
        have HB6 : Hid (Below w.heap.size w y6) := (HBw.out.trans (HBY.out.mono HBw.out.size)).trans (hb6.mono (by have := HBw.out.size; have := HS34.out; omega))
        have hf6 : y6.heap[q]? = some (.cells #[.int .i64 (at' : Int), .int .i64 230] 91 (0, 0)) := (hb6.block q HS34.out.1).trans HF4.out
        have c9 : y6.cell? ⟨W3.heap.size, 0, none⟩ = some (.pointer (some ⟨q, 0, none⟩)) := by simp [World.cell?, hx6]
        have l9 : W3.heap.size < y6.heap.size := (Array.getElem?_eq_some_iff.1 hx6).1
        have cq : y6.cell? ⟨q, 0, none⟩ = some (.int .i64 (at' : Int)) := by simp [World.cell?, hf6]
        have lq : q < y6.heap.size := (Array.getElem?_eq_some_iff.1 hf6).1
        have HF6 : Hid (y6.heap[q]? = some (.cells #[.int .i64 (at' : Int), .int .i64 230] 91 (0, 0))) := hf6
        have HJ6 : Hid (Jo y6 w.heap.size J p v (s.data.toList.take at') (n : Int)) := by
          have h4 := Bj.Jo.below HJy.out HBY.out
          have hjl := HJy.out.lt
          refine ⟨(hb6.block J (by have := HS34.out; omega)).trans h4.row, h4.addr, ownF_keep h4.own fun r hr => hb6.block r ?_, h4.base, h4.empty⟩
          have := (HJy.out.own.lt r hr).2
          have := HS34.out
          omega
        have HFIN : Hid (∀ y7, Below y6.heap.size y6 y7 → Op' w s (.returned (.tuple #[.pointer (some ⟨J, 0, none⟩), .int .i64 (at' : Int), .iface 86 (.pointer (some ⟨q, 0, none⟩))])) y7) := by
          intro y7 hy7
          have hrun := HR.out.run
          rw [cuts_none HZN.out] at hrun
          refine ⟨J, p, v, _, ?_, ?_, fun h => ?_, fun h => ⟨q, rfl, ?_, ?_⟩, ?_⟩
          · rw [← hrun]
          · rw [← hrun]; exact Bj.Jo.below HJ6.out hy7
          · rw [← hrun] at h; exact absurd h HEND.out
          · exact Nat.le_trans HR.out.below.size HFT.out.2
          · rw [← hrun]; exact kept hy7 HF6.out
          · exact HB6.out.trans (hy7.mono HB6.out.size)
        clear hx6 hb6 hf6
        go_wp2_with fail
        refine Ql.region_cl (by kernel_rfl) (by kernel_rfl) ?_
        try dsimp only [Act.put]
        repeat (first | go_big_quiet_skip | (go_big_quiet_want; go_big_quiet_op; first | go_big_quiet_on | (refine ⟨_, fun _ _ => rfl, ?_⟩; go_big_quiet_on) | (refine ⟨_, fun _ _ => ⟨rfl, rfl⟩, ?_⟩; go_big_quiet_on)) | (refine wpQuiet_step (fun K hK => ?_); first
          | (refine Ql.q_cell (by rfl) 86 _ rfl W3.heap.size 0 rfl _ c9 l9 (fun y => Tryd.isAgg86 y) (hK _ ?_); clear hK K; simp only [Act.put, List.setIfInBounds_toArray, List.set_cons_succ, List.set_cons_zero])
          | (refine Ql.q_cell (by rfl) 3 _ rfl q 0 rfl _ cq lq (fun y => Tryd.isAgg3 y) (hK _ ?_); clear hK K; simp only [Act.put, List.setIfInBounds_toArray, List.set_cons_succ, List.set_cons_zero])
          | fail))
        refine wpQuiet_nil ?_
        intro y7 hy7
        have HF7 := HFIN.out y7 hy7
        have HF8 : Hid (Op' w s _ y7) := HF7
        clear HF7
        go_wp2_with fail
        go_ret3
        exact HF8.out
    | some z =>
      have HNX := next_got HR.out.cu HHr.out HH.out.2.2.2 HR.out.fit.1 HR.out.fit.2 hz
      have HN : Hid (Calls _ _ _ _ _) := HNX
      have HZN : Hid (rcd (s.data.toList.drop at') ((n : Int) + 1) = some z) := hz
      clear HNX hz
      go_wp2_with fail
      refine HN.out.mono ?_
      rintro e y ⟨v1, M, rfl, hown, hcu, hoc⟩
      have HOC : Hid (Oc g rc ec wr y) := hoc
      have HCU : Hid (Cu y g s (at' + (12 + z)) (n + 1) rc ec) := hcu
      have HJy : Hid (Jo y w.heap.size J p v (s.data.toList.take at') (n : Int)) := jo_oc (w := w) HJr.out HR.out.cu hoc
      have HBw : Hid (Below w.heap.size w y) := HR.out.below.trans (Kc.Oc.below hoc HR.out.below.size HR.out.low.1 HR.out.low.2.1 HR.out.low.2.2)
      have HEY : Hid (y.cell? ⟨1, 0, none⟩ = some (.iface 173 (.pointer (some a)))) := (HBw.out.cell (World.block_lt_of_cell? _ _ HH.out.2.2.1)).trans HH.out.2.2.1
      have h1c : (rcC s at' n z v1).all (·.oneCell') = true := by obtain ⟨o0, c0, rfl⟩ := Bd.owns_sl hown; simp [rcC, Jo.evV, Value.oneCell']
      obtain ⟨RV, hRV⟩ : ∃ RV, rcC s at' n z v1 = RV := ⟨_, rfl⟩
      obtain ⟨R, hR⟩ : ∃ R, (s.extract at' s.size).extract 0 (12 + z) = R := ⟨_, rfl⟩
      have hRV6 : RV[6]? = some (.string R) := by rw [← hRV, ← hR]; rfl
      have hsz : RV.size = 7 := by rw [← hRV]; rfl
      rw [hRV] at h1c ⊢
      have HRB : Hid ((s.extract at' s.size).extract 0 (12 + z) = R) := hR
      clear hcu hoc hown hRV hR
      have hcy : y.cell? ⟨1, 0, none⟩ = some (.iface 173 (.pointer (some a))) := HEY.out
      obtain ⟨W2, HW2⟩ : ∃ W, Hid (y.alloc (.cells #[.int .i64 0, .int .i64 0, .int .i64 0, .int .i64 0, .string ⟨#[]⟩, .slice none 0 0, .string ⟨#[]⟩] 107) = W) := ⟨_, rfl⟩
      have hb2 : Below y.heap.size y W2 := HW2.out ▸ below_one _ _
      have hx2 : W2.heap[y.heap.size]? = some (.cells rcZ 107 (0, 0)) := HW2.out ▸ h1_0 _ _
      obtain ⟨W3, HW3⟩ : ∃ W, Hid (W2.setRow y.heap.size RV = W) := ⟨_, rfl⟩
      have hx3 : W3.heap[y.heap.size]? = some (.cells RV 107 (0, 0)) := HW3.out ▸ setRow_at hx2 _
      have hs3 : W3.heap.size = W2.heap.size := by rw [← HW3.out]; simp
      have hb3 : Below y.heap.size y W3 := HW3.out ▸ ⟨hb2.os, hb2.tape, hb2.output, by have := hb2.size; simpa using this, fun k hk => (setRow_other W2 _ k _ (fun e => by omega)).trans (hb2.block k hk)⟩
      obtain ⟨W4, HW4⟩ : ∃ W, Hid (W3.alloc (.cells #[.pointer none] tPF) = W) := ⟨_, rfl⟩
      have hb4 : Below W3.heap.size W3 W4 := HW4.out ▸ below_one _ _
      have hx4 : W4.heap[W3.heap.size]? = some (.cells #[.pointer none] tPF (0, 0)) := HW4.out ▸ h1_0 _ _
      have hr4 : W4.heap[y.heap.size]? = some (.cells RV 107 (0, 0)) := kept hb4 hx3
      have hby : Below y.heap.size y W4 := hb3.trans (hb4.mono hb3.size)
      have e4 : W4.cell? ⟨1, 0, none⟩ = some (.iface 173 (.pointer (some a))) := (hby.cell (World.block_lt_of_cell? _ _ hcy)).trans hcy
      have HBY : Hid (Below y.heap.size y W4) := hby
      have HX4 : Hid (W4.heap[W3.heap.size]? = some (.cells #[.pointer none] tPF (0, 0))) := hx4
      have HS3 : Hid (y.heap.size < W3.heap.size) := by have h1 := (Array.getElem?_eq_some_iff.1 hx3).1; exact h1
      have zr : (Tryd.prog.info? 107).map (·.size) = some RV.size := by rw [hsz]; exact zrec
      have hold : rcZ.size = RV.size := by rw [hsz]; rfl
      have k6 : W4.cell? ⟨y.heap.size, 6, none⟩ = some (.string R) := by simp [World.cell?, hr4, hRV6]
      have kl : y.heap.size < W4.heap.size := (Array.getElem?_eq_some_iff.1 hr4).1
      have HIS : Hid (Calls _ _ _ _ _) := Jf.is_nil a W4
      have HAS : Hid (Calls _ _ _ _ _) := Je.as_nil (.iface 88 (.pointer (some ⟨W3.heap.size, 0, none⟩))) W4
      have HJ4 : Hid (Jo W4 w.heap.size J p v (s.data.toList.take at') (n : Int)) := Bj.Jo.below HJy.out hby
      have HC4 : Hid (Cu W4 g s (at' + (12 + z)) (n + 1) rc ec) := Cu.below HCU.out hby
      have hfit := rcd_fit HZN.out
      have hRL : R.data.toList = (s.data.toList.drop at').take (12 + z) := by rw [← HRB.out, ext_mid, ext_drop, List.drop_zero, Nat.sub_zero]
      have hRn : R.size = 12 + z := by rw [size_list, hRL, List.length_take, List.length_drop]; omega
      have hne : R.data.toList ≠ [] := fun e => by
        have h0 : R.size = 0 := by rw [size_list R, e]; rfl
        omega
      have hks := hSS.out
      have hkb := HH.out.2.2.2
      have hkn := HR.out.fit
      have hss := hSS.out
      have HKP : Hid (Calls _ _ _ _ _) := keep_any HJ4.out R hne (by rw [List.length_take]; omega) (by omega)
      have HNW : Hid (s.data.toList.take at' ++ R.data.toList = s.data.toList.take (at' + (12 + z)) ∧ at' + (12 + z) ≤ s.data.toList.length) := ⟨by rw [hRL, ← List.take_add], hfit⟩
      clear hb2 hs3 hb3 hb4 hby hx3 hx4 hr4 hcy hfit hRL hRn hne hks hkb hkn hRV6 hss
      go_wp2_with (first | (rw [HW2.out]) | (rw [HW3.out]) | (rw [HW4.out]) | (refine wpList_store_row rfl 107 _ _ rfl y.heap.size RV rfl rfl _ _ hx2 zr hold h1c ?_) | fail)
      refine HIS.out.mono ?_
      rintro e y5 ⟨rfl, rfl⟩
      go_wp2_with fail
      refine HAS.out.mono ?_
      rintro e y6 ⟨rfl, rfl⟩
      go_wp2_with fail
      refine HKP.out.mono ?_
      rintro e y7 ⟨rfl, v7, hj7, hf7, hn7⟩
      have HRO7 : Hid (Ro w y7 J g rc ec s (at' + (12 + z)) (n + 1)) := by
        have hcu7 := cu_fj HJ4.out HC4.out hf7
        have hfw := HR.out.fit
        refine ⟨hcu7, ⟨.pointer (some ⟨J, 0, none⟩), v7, ?_⟩, ⟨by have := HNW.out.2; have := hSS.out; omega, by omega⟩, ?_, ?_, HR.out.low⟩
        · rw [← HNW.out.1, show ((n + 1 : Nat) : Int) = (n : Int) + 1 by omega]; exact hj7
        · rw [← HR.out.run]; exact (cuts_step HZN.out (by have := hSS.out; omega)).symm
        · refine (HBw.out.trans (HBY.out.mono HBw.out.size)).trans (hf7.below ?_ ?_ ?_)
          · exact HJ4.out.base
          · exact fun r hr => (HJ4.out.own.lt r hr).1
          · exact Nat.le_trans HBw.out.size HBY.out.size
      clear hj7 hf7 hn7
      go_wp2_with fail
      refine ⟨⟨_, _, HRO7⟩, ?_⟩
      rw [atOf_cu HRO7.out.cu, atOf_cu HR.out.cu]
      have := HRO7.out.fit
      omega
end Go.Proofs.YtabmpngliphdpaaDoor.Kc
