/- journal's cutter: next. -/
import Derived.Test.YtabmpngliphdpaaDoorJw
namespace Go.Proofs.YtabmpngliphdpaaDoor.Jy
set_option linter.unusedVariables false
set_option linter.unusedSimpArgs false
open Go.RowKit Go.Conc Lib0 Kb Ja Jb Jl Jm Jn Jo Jp Jq Jr Ju Jv
attribute [local go_sem] Oper.semAt_some
theorem Cu.below {w w' : World} {g : Nat} {b : ByteArray} {at' n rc ec : Nat} (h : Cu w g b at' n rc ec) (k : Below w.heap.size w w') : Cu w' g b at' n rc ec :=
  ⟨kept k h.row, let ⟨s, hs⟩ := h.rch; ⟨s, kept k hs⟩, let ⟨s, hs⟩ := h.ech; ⟨s, kept k hs⟩, h.ne⟩
theorem Oc.row {g rc ec : Nat} (w : World) (k : Nat) (c : Array Value) {w0 : World} (h : Oc g rc ec w0 w) (hk : w0.heap.size ≤ k) : Oc g rc ec w0 (w.setRow k c) :=
  ⟨h.os, h.tape, h.output, by have := h.size; simpa using this, fun i hi h1 h2 h3 => (setRow_other w k i c (fun e => by omega)).trans (h.block i hi h1 h2 h3)⟩
theorem Oc.after {g rc ec : Nat} {a b c : World} (h : Below a.heap.size a b) (k : Oc g rc ec b c) : Oc g rc ec a c := (Oc.of_below h).trans k
theorem Cu.row {w : World} {g : Nat} {b : ByteArray} {at' n rc ec : Nat} (h : Cu w g b at' n rc ec) {k : Nat} (hg : k ≠ g) (h1 : k ≠ rc) (h2 : k ≠ ec) (c : Array Value) : Cu (w.setRow k c) g b at' n rc ec :=
  ⟨(setRow_other w k g c hg.symm).trans h.row, let ⟨s, hs⟩ := h.rch; ⟨s, (setRow_other w k rc c h1.symm).trans hs⟩, let ⟨s, hs⟩ := h.ech; ⟨s, (setRow_other w k ec c h2.symm).trans hs⟩, h.ne⟩
theorem res_next {g : Nat} (x : World) (c : Array Value) (v : Value) (tm : Array Value) (h2 : tm.getD 2 undef = .pointer (some ⟨g, 0, none⟩)) (h3 : tm.getD 3 undef = v) (hc : c.size = 7) (hx : x.heap[g]? = some (.cells c 107 (0, 0))) : (results Tryd.f47 tm).run Tryd.prog x = .ok (.tuple #[.agg c, v]) x := by
  have h2' : tm[2]?.getD undef = .pointer (some ⟨g, 0, none⟩) := by simpa using h2
  have h3' : tm[3]?.getD undef = v := by simpa using h3
  obtain ⟨a0, a1, a2, a3, a4, a5, a6, rfl⟩ : ∃ a0 a1 a2 a3 a4 a5 a6, c = #[a0, a1, a2, a3, a4, a5, a6] := by
    obtain ⟨L⟩ := c
    match L, hc with
    | [a0, a1, a2, a3, a4, a5, a6], _ => exact ⟨a0, a1, a2, a3, a4, a5, a6, rfl⟩
  have c0 : x.cell? ⟨g, 0, none⟩ = some a0 := by simp [World.cell?, hx]
  have c1 : x.cell? ⟨g, 1, none⟩ = some a1 := by simp [World.cell?, hx]
  have c2 : x.cell? ⟨g, 2, none⟩ = some a2 := by simp [World.cell?, hx]
  have c3 : x.cell? ⟨g, 3, none⟩ = some a3 := by simp [World.cell?, hx]
  have c4 : x.cell? ⟨g, 4, none⟩ = some a4 := by simp [World.cell?, hx]
  have c5 : x.cell? ⟨g, 5, none⟩ = some a5 := by simp [World.cell?, hx]
  have c6 : x.cell? ⟨g, 6, none⟩ = some a6 := by simp [World.cell?, hx]
  simp [results, Tryd.results47, go_sem, h2', h3', asAddr, c0, c1, c2, c3, c4, c5, c6]
/-- what next hands over of a record -/
def rcC (b : ByteArray) (at' n z : Nat) (v : Value) : Array Value := #[.int .i64 ((n + 1 : Nat) : Int)] ++ evV (some (((b.data.toList.drop at').drop 8).take z)) ++ #[v, .string ((b.extract at' b.size).extract 0 (12 + z))]
theorem rcC_size (b : ByteArray) (at' n z : Nat) (v : Value) : (rcC b at' n z v).size = 7 := rfl
theorem rcZ_size : rcZ.size = 7 := rfl
theorem zrec : (Tryd.prog.info? 107).map (·.size) = some 7 := by kernel_rfl
set_option maxRecDepth 100000 in
set_option maxHeartbeats 1600000 in
theorem next_got {w : World} {g : Nat} {b : ByteArray} {at' n rc ec : Nat} (h : Cu w g b at' n rc ec) (hH : Hal w) (hb : b.size ≤ 140737488355328) (ha : at' ≤ b.size) (hn : n ≤ at') {z : Nat} (hz : rcd (b.data.toList.drop at') ((n : Int) + 1) = some z) :
    Calls Tryd.prog 47 #[.pointer (some ⟨g, 0, none⟩)] w fun e w' => ∃ v M, e = .returned (.tuple #[.agg (rcC b at' n z v), .nilIface]) ∧ w'.ownsRow w.heap.size 85 5 v M (osV (evR (some (((b.data.toList.drop at').drop 8).take z)))) ∧ Cu w' g b (at' + (12 + z)) (n + 1) rc ec ∧ Oc g rc ec w w' := by
  obtain ⟨W1, HW1⟩ : ∃ W, Hid (w.alloc (.cells #[.int .i64 0, .int .i64 0, .int .i64 0, .int .i64 0, .string ⟨#[]⟩, .slice none 0 0, .string ⟨#[]⟩] 107) = W) := ⟨_, rfl⟩
  have hb1 : Below w.heap.size w W1 := HW1.out ▸ below_one _ _
  have HC1 : Hid (Cu W1 g b at' n rc ec) := Cu.below h hb1
  have HC0 : Hid (Cu w g b at' n rc ec) := h
  have HB1 : Hid (Below w.heap.size w W1) := hb1
  have HCUT := cut_ok HC1.out (hal_next hH hb1) hb ha hn hz
  have HX1 : Hid (W1.heap[w.heap.size]? = some (.cells rcZ 107 (0, 0))) := HW1.out ▸ h1_0 _ _
  have HL : Hid (g < w.heap.size ∧ rc < w.heap.size ∧ ec < w.heap.size) := ⟨(Array.getElem?_eq_some_iff.1 h.row).1, let ⟨s, hs⟩ := h.rch; (Array.getElem?_eq_some_iff.1 hs).1, let ⟨s, hs⟩ := h.ech; (Array.getElem?_eq_some_iff.1 hs).1⟩
  have HCT : Hid (Calls _ _ _ _ _) := HCUT
  clear hb1 h hH hb ha hn hz HCUT
  go_enter Tryd.func47, Tryd.ntmps47
  go_wp2_with (first | (rw [HW1.out]) | fail)
  refine HCT.out.mono ?_
  rintro e y ⟨rfl, hr, ⟨s, v, M, hrc, hown⟩, ⟨s2, hec⟩, hoc⟩
  obtain ⟨RV, hRV⟩ : ∃ RV, rcC b at' n z v = RV := ⟨_, rfl⟩
  have hsz : RV.size = 7 := hRV ▸ rcC_size b at' n z v
  have h1c : RV.all (·.oneCell') = true := by obtain ⟨o0, c0, rfl⟩ := Bd.owns_sl hown; rw [← hRV]; simp [rcC, evV, Value.oneCell']
  have hrc2 : y.heap[rc]? = some (.chan 1 #[.agg RV] false (s + 1) s false) := hRV ▸ hrc
  have HO : Hid (y.ownsRow W1.heap.size 85 5 v M (osV (evR (some (((b.data.toList.drop at').drop 8).take z))))) := hown
  have HRV : Hid (rcC b at' n z v = RV) := hRV
  clear hrc hown hRV
  have c3 : y.cell? ⟨g, 3, none⟩ = some (.chan (some rc)) := by simp [World.cell?, hr]
  have c4 : y.cell? ⟨g, 4, none⟩ = some (.chan (some ec)) := by simp [World.cell?, hr]
  have gl : g < y.heap.size := (Array.getElem?_eq_some_iff.1 hr).1
  have HR : Hid (y.heap[g]? = some (.cells #[.string b, .int .i64 ((at' + (12 + z) : Nat) : Int), .int .i64 ((n + 1 : Nat) : Int), .chan (some rc), .chan (some ec)] 139 (0, 0))) := hr
  have HOC : Hid (Oc g rc ec W1 y) := hoc
  have HRC : Hid (y.heap[rc]? = some (.chan 1 #[.agg RV] false (s + 1) s false)) := hrc2
  have HEC : Hid (y.heap[ec]? = some (.chan 1 #[] false s2 s2 false)) := hec
  clear hr hrc2 hec hoc
  dsimp only
  iterate 39 (first | go_values | go_skip | go_guarded | go_step | go_upon | go_back)
  have hno : ∀ (m : Nat) (c' : CommCase), m ≠ 0 → (#[rcase rc (.agg rcZ), rcase ec .nilIface] : Array CommCase)[m]? = some c' → NoWay y c' := by
    intro m c' hm hc
    match m with
    | 0 => exact absurd rfl hm
    | 1 => cases hc; exact noWay_recv HEC.out
    | m + 2 => simp at hc
  refine Jt.region_select (j := 0) (c := rc) (cases := #[rcase rc (.agg rcZ), rcase ec .nilIface]) rfl (blocking := true) (w1 := y) (by simp [execOp, rcase, rcZ, Act.eval]) rfl hno HRC.out (Nat.zero_lt_succ 0) ?_
  have hcr : commResult #[rcase rc (.agg rcZ), rcase ec .nilIface] .select ((0 : Nat) : Int) ((#[.agg RV] : Array Value).getD 0 undef) true = .tuple #[.int .i64 0, .bool true, .agg RV, .nilIface] := by simp [commResult, rcase, rcZ, goInt]
  rw [hcr]
  have hex : (#[.agg RV] : Array Value).extract 1 (#[.agg RV] : Array Value).size = #[] := by simp
  rw [hex]
  clear hcr hex hno
  obtain ⟨W3, HW3⟩ : ∃ W, Hid (y.setChan rc 1 #[] false (s + 1) (s + 1) false = W) := ⟨_, rfl⟩
  rw [HW3.out]
  have hs3 : W3.heap.size = y.heap.size := by rw [← HW3.out]; exact size_setChan _ _ _ _ _ _ _ _
  have HOC3 : Hid (Oc g rc ec w W3) := HW3.out ▸ Oc.after HB1.out (HOC.out.trans (Oc.of_chan _ _ _ _ _ _ _ _ (.inl rfl)))
  have h20 : w.heap.size < W1.heap.size := (Array.getElem?_eq_some_iff.1 HX1.out).1
  have h21 := HOC.out.size
  have hx3 : W3.heap[w.heap.size]? = some (.cells rcZ 107 (0, 0)) := by
    rw [← HW3.out, setChan_ne _ _ _ _ _ _ _ _ _ (by have := HL.out; omega), HOC.out.block _ h20 (by have := HL.out; omega) (by have := HL.out; omega) (by have := HL.out; omega)]
    exact HX1.out
  have HC3 : Hid (Cu W3 g b (at' + (12 + z)) (n + 1) rc ec) := by
    have hlt := HL.out
    have hgr : rc ≠ g := fun e => by have h1 := HR.out; subst e; rw [HRC.out] at h1; cases h1
    have hge : ec ≠ g := fun e => by have h1 := HR.out; subst e; rw [HEC.out] at h1; cases h1
    refine ⟨?_, ⟨s + 1, ?_⟩, ⟨s2, ?_⟩, HC0.out.ne⟩
    · rw [← HW3.out, setChan_ne _ _ _ _ _ _ _ _ _ hgr]; exact HR.out
    · rw [← HW3.out]; exact heap_setChan _ _ _ _ _ _ _ _ (Array.getElem?_eq_some_iff.1 HRC.out).1
    · rw [← HW3.out, setChan_ne _ _ _ _ _ _ _ _ _ HC0.out.ne]; exact HEC.out
  have HO3 : Hid (W3.ownsRow W1.heap.size 85 5 v M (osV (evR (some (((b.data.toList.drop at').drop 8).take z))))) := Bd.owns_keep HO.out fun p hp => by
    have h1 := (HO.out.lt p hp).1
    rw [← HW3.out, setChan_ne _ _ _ _ _ _ _ _ _ (by have := HL.out; omega)]
  obtain ⟨W4, HW4⟩ : ∃ W, Hid (W3.alloc (.cells #[.int .i64 0, .int .i64 0, .int .i64 0, .int .i64 0, .string ⟨#[]⟩, .slice none 0 0, .string ⟨#[]⟩] 107) = W) := ⟨_, rfl⟩
  have hb4 : Below W3.heap.size W3 W4 := HW4.out ▸ below_one _ _
  have hx4 : W4.heap[W3.heap.size]? = some (.cells rcZ 107 (0, 0)) := HW4.out ▸ h1_0 _ _
  obtain ⟨W5, HW5⟩ : ∃ W, Hid (W4.setRow W3.heap.size RV = W) := ⟨_, rfl⟩
  have hx5 : W5.heap[W3.heap.size]? = some (.cells RV 107 (0, 0)) := HW5.out ▸ setRow_at hx4 _
  have hy5 : W5.heap[w.heap.size]? = some (.cells rcZ 107 (0, 0)) := by rw [← HW5.out, setRow_other _ _ _ _ (by omega)]; exact kept hb4 hx3
  have zr : (Tryd.prog.info? 107).map (·.size) = some RV.size := by rw [hsz]; exact zrec
  have hold : rcZ.size = RV.size := by rw [hsz]; rfl
  obtain ⟨W6, HW6⟩ : ∃ W, Hid (W5.setRow w.heap.size RV = W) := ⟨_, rfl⟩
  have HX6 : Hid (W6.heap[w.heap.size]? = some (.cells RV 107 (0, 0))) := HW6.out ▸ setRow_at hy5 _
  have HFIN : Hid (∃ v M, (.returned (.tuple #[.agg RV, .nilIface]) : Ending) = .returned (.tuple #[.agg (rcC b at' n z v), .nilIface]) ∧ W6.ownsRow w.heap.size 85 5 v M (osV (evR (some (((b.data.toList.drop at').drop 8).take z)))) ∧ Cu W6 g b (at' + (12 + z)) (n + 1) rc ec ∧ Oc g rc ec w W6) := by
    have hlt := HL.out
    have hsz3 := hs3
    refine ⟨v, M, by rw [HRV.out], ?_, ?_, ?_⟩
    · refine (Bd.owns_keep HO3.out fun p hp => ?_).mono (by omega)
      have h1 := HO3.out.lt p hp
      rw [← HW6.out, setRow_other _ _ _ _ (by omega), ← HW5.out, setRow_other _ _ _ _ (by omega)]
      exact hb4.block p h1.2
    · refine HW6.out ▸ Cu.row (HW5.out ▸ Cu.row (Cu.below HC3.out hb4) (by omega) (by omega) (by omega) _) (by omega) (by omega) (by omega) _
    · exact HW6.out ▸ Oc.row _ _ _ (HW5.out ▸ Oc.row _ _ _ (HOC3.out.trans (Oc.of_below hb4)) (by omega)) (Nat.le_refl _)
  clear c3 c4 hb4 hx3 hs3 h20 h21
  go_wp2_with (first | (rw [HW4.out]) | (rw [HW5.out]) | (rw [HW6.out]) | (refine wpList_store_row rfl 107 _ _ rfl W3.heap.size RV rfl rfl _ _ hx4 zr hold h1c ?_) | (refine wpList_load_row rfl 107 _ rfl W3.heap.size rfl _ _ _ _ hx5 Tryd.underlying107 rfl zr ?_) | (refine wpList_store_row rfl 107 _ _ rfl w.heap.size RV rfl rfl _ _ hy5 zr hold h1c ?_) | fail)
  exact bodyPost_ret (v := .tuple #[.agg RV, .nilIface]) (res_next W6 RV _ _ rfl rfl hsz HX6.out) rfl HFIN.out
set_option maxRecDepth 100000 in
set_option maxHeartbeats 1600000 in
theorem next_end {w : World} {g : Nat} {b : ByteArray} {at' n rc ec : Nat} (h : Cu w g b at' n rc ec) (hH : Hal w) (hb : b.size ≤ 140737488355328) (ha : at' ≤ b.size) (hn : n ≤ at') (hz : rcd (b.data.toList.drop at') ((n : Int) + 1) = none) (hend : at' = b.size) {ev : Value} (hev : w.cell? ⟨1, 0, none⟩ = some ev) :
    Calls Tryd.prog 47 #[.pointer (some ⟨g, 0, none⟩)] w fun e w' => e = .returned (.tuple #[.agg rcZ, ev]) ∧ Cu w' g b at' n rc ec ∧ Oc g rc ec w w' := by
  obtain ⟨W1, HW1⟩ : ∃ W, Hid (w.alloc (.cells #[.int .i64 0, .int .i64 0, .int .i64 0, .int .i64 0, .string ⟨#[]⟩, .slice none 0 0, .string ⟨#[]⟩] 107) = W) := ⟨_, rfl⟩
  have hb1 : Below w.heap.size w W1 := HW1.out ▸ below_one _ _
  have HC1 : Hid (Cu W1 g b at' n rc ec) := Cu.below h hb1
  have HC0 : Hid (Cu w g b at' n rc ec) := h
  have HB1 : Hid (Below w.heap.size w W1) := hb1
  have HCUT := cut_end HC1.out (hal_next hH hb1) hb ha hn hz hend ((hb1.cell (World.block_lt_of_cell? _ _ hev)).trans hev)
  have HX1 : Hid (W1.heap[w.heap.size]? = some (.cells rcZ 107 (0, 0))) := HW1.out ▸ h1_0 _ _
  have HL : Hid (g < w.heap.size ∧ rc < w.heap.size ∧ ec < w.heap.size) := ⟨(Array.getElem?_eq_some_iff.1 h.row).1, let ⟨s, hs⟩ := h.rch; (Array.getElem?_eq_some_iff.1 hs).1, let ⟨s, hs⟩ := h.ech; (Array.getElem?_eq_some_iff.1 hs).1⟩
  have HCT : Hid (Calls _ _ _ _ _) := HCUT
  clear hb1 h hH hb ha hn hz HCUT hend hev
  go_enter Tryd.func47, Tryd.ntmps47
  go_wp2_with (first | (rw [HW1.out]) | fail)
  refine HCT.out.mono ?_
  rintro e y ⟨rfl, hr, ⟨s2, hrc⟩, ⟨s, hec2⟩, hoc⟩
  have c3 : y.cell? ⟨g, 3, none⟩ = some (.chan (some rc)) := by simp [World.cell?, hr]
  have c4 : y.cell? ⟨g, 4, none⟩ = some (.chan (some ec)) := by simp [World.cell?, hr]
  have gl : g < y.heap.size := (Array.getElem?_eq_some_iff.1 hr).1
  have HR : Hid (y.heap[g]? = some (.cells #[.string b, .int .i64 (at' : Int), .int .i64 (n : Int), .chan (some rc), .chan (some ec)] 139 (0, 0))) := hr
  have HOC : Hid (Oc g rc ec W1 y) := hoc
  have HRC : Hid (y.heap[rc]? = some (.chan 1 #[] false s2 s2 false)) := hrc
  have HEC : Hid (y.heap[ec]? = some (.chan 1 #[ev] false (s + 1) s false)) := hec2
  clear hr hrc hec2 hoc
  dsimp only
  iterate 39 (first | go_values | go_skip | go_guarded | go_step | go_upon | go_back)
  have hno : ∀ (m : Nat) (c' : CommCase), m ≠ 1 → (#[rcase rc (.agg rcZ), rcase ec .nilIface] : Array CommCase)[m]? = some c' → NoWay y c' := by
    intro m c' hm hc
    match m with
    | 0 => cases hc; exact noWay_recv HRC.out
    | 1 => exact absurd rfl hm
    | m + 2 => simp at hc
  refine Jt.region_select (j := 1) (c := ec) (cases := #[rcase rc (.agg rcZ), rcase ec .nilIface]) rfl (blocking := true) (w1 := y) (by simp [execOp, rcase, rcZ, Act.eval]) rfl hno HEC.out (Nat.zero_lt_succ 0) ?_
  have hcr : commResult #[rcase rc (.agg rcZ), rcase ec .nilIface] .select ((1 : Nat) : Int) ((#[ev] : Array Value).getD 0 undef) true = .tuple #[.int .i64 1, .bool true, .agg rcZ, ev] := by simp [commResult, rcase, rcZ, goInt]
  rw [hcr]
  have hex : (#[ev] : Array Value).extract 1 (#[ev] : Array Value).size = #[] := by simp
  rw [hex]
  clear hcr hex hno
  obtain ⟨W3, HW3⟩ : ∃ W, Hid (y.setChan ec 1 #[] false (s + 1) (s + 1) false = W) := ⟨_, rfl⟩
  rw [HW3.out]
  have hs3 : W3.heap.size = y.heap.size := by rw [← HW3.out]; exact size_setChan _ _ _ _ _ _ _ _
  have HOC3 : Hid (Oc g rc ec w W3) := HW3.out ▸ Oc.after HB1.out (HOC.out.trans (Oc.of_chan _ _ _ _ _ _ _ _ (.inr rfl)))
  have h20 : w.heap.size < W1.heap.size := (Array.getElem?_eq_some_iff.1 HX1.out).1
  have h21 := HOC.out.size
  have hx3 : W3.heap[w.heap.size]? = some (.cells rcZ 107 (0, 0)) := by
    rw [← HW3.out, setChan_ne _ _ _ _ _ _ _ _ _ (by have := HL.out; omega), HOC.out.block _ h20 (by have := HL.out; omega) (by have := HL.out; omega) (by have := HL.out; omega)]
    exact HX1.out
  have HC3 : Hid (Cu W3 g b at' n rc ec) := by
    have hlt := HL.out
    have hgr : rc ≠ g := fun e => by have h1 := HR.out; subst e; rw [HRC.out] at h1; cases h1
    have hge : ec ≠ g := fun e => by have h1 := HR.out; subst e; rw [HEC.out] at h1; cases h1
    refine ⟨?_, ⟨s2, ?_⟩, ⟨s + 1, ?_⟩, HC0.out.ne⟩
    · rw [← HW3.out, setChan_ne _ _ _ _ _ _ _ _ _ hge]; exact HR.out
    · rw [← HW3.out, setChan_ne _ _ _ _ _ _ _ _ _ HC0.out.ne.symm]; exact HRC.out
    · rw [← HW3.out]; exact heap_setChan _ _ _ _ _ _ _ _ (Array.getElem?_eq_some_iff.1 HEC.out).1
  have zr : (Tryd.prog.info? 107).map (·.size) = some rcZ.size := zrec
  have o0 : rcZ.all (·.oneCell') = true := by simp [rcZ, Value.oneCell']
  obtain ⟨W6, HW6⟩ : ∃ W, Hid (W3.setRow w.heap.size rcZ = W) := ⟨_, rfl⟩
  have HX6 : Hid (W6.heap[w.heap.size]? = some (.cells rcZ 107 (0, 0))) := HW6.out ▸ setRow_at hx3 _
  have HFIN : Hid (Cu W6 g b at' n rc ec ∧ Oc g rc ec w W6) := by
    have hlt := HL.out
    refine ⟨?_, ?_⟩
    · exact HW6.out ▸ Cu.row HC3.out (by omega) (by omega) (by omega) _
    · exact HW6.out ▸ Oc.row _ _ _ HOC3.out (Nat.le_refl _)
  clear c3 c4 hs3 h20 h21
  go_wp2_with (first | (rw [HW6.out]) | (refine wpList_store_row rfl 107 _ _ rfl w.heap.size rcZ rfl rfl _ _ hx3 zr rfl o0 ?_) | fail)
  exact bodyPost_ret (v := .tuple #[.agg rcZ, ev]) (res_next W6 rcZ _ _ rfl rfl rfl HX6.out) rfl ⟨rfl, HFIN.out⟩
set_option maxRecDepth 100000 in
set_option maxHeartbeats 1600000 in
theorem next_bad {w : World} {g : Nat} {b : ByteArray} {at' n rc ec : Nat} (h : Cu w g b at' n rc ec) (hH : Hal w) (hb : b.size ≤ 140737488355328) (ha : at' ≤ b.size) (hn : n ≤ at') (hz : rcd (b.data.toList.drop at') ((n : Int) + 1) = none) (hend : at' < b.size) :
    Calls Tryd.prog 47 #[.pointer (some ⟨g, 0, none⟩)] w fun e w' => ∃ q, w.heap.size ≤ q ∧ e = .returned (.tuple #[.agg rcZ, .iface 86 (.pointer (some ⟨q, 0, none⟩))]) ∧ Jg.Ft w' q (at' : Int) 230 ∧ Cu w' g b at' n rc ec ∧ Oc g rc ec w w' := by
  obtain ⟨W1, HW1⟩ : ∃ W, Hid (w.alloc (.cells #[.int .i64 0, .int .i64 0, .int .i64 0, .int .i64 0, .string ⟨#[]⟩, .slice none 0 0, .string ⟨#[]⟩] 107) = W) := ⟨_, rfl⟩
  have hb1 : Below w.heap.size w W1 := HW1.out ▸ below_one _ _
  have HC1 : Hid (Cu W1 g b at' n rc ec) := Cu.below h hb1
  have HC0 : Hid (Cu w g b at' n rc ec) := h
  have HB1 : Hid (Below w.heap.size w W1) := hb1
  have HCUT := Jw.cut_bad HC1.out (hal_next hH hb1) hb ha hn hz hend
  have HX1 : Hid (W1.heap[w.heap.size]? = some (.cells rcZ 107 (0, 0))) := HW1.out ▸ h1_0 _ _
  have HL : Hid (g < w.heap.size ∧ rc < w.heap.size ∧ ec < w.heap.size) := ⟨(Array.getElem?_eq_some_iff.1 h.row).1, let ⟨s, hs⟩ := h.rch; (Array.getElem?_eq_some_iff.1 hs).1, let ⟨s, hs⟩ := h.ech; (Array.getElem?_eq_some_iff.1 hs).1⟩
  have HCT : Hid (Calls _ _ _ _ _) := HCUT
  clear hb1 h hH hb ha hn hz HCUT hend
  go_enter Tryd.func47, Tryd.ntmps47
  go_wp2_with (first | (rw [HW1.out]) | fail)
  refine HCT.out.mono ?_
  rintro e y ⟨rfl, q, hq, hft, hr, ⟨s2, hrc⟩, ⟨s, hec2⟩, hoc⟩
  obtain ⟨EV, hEV⟩ : ∃ EV, (Value.iface 86 (.pointer (some ⟨q, 0, none⟩))) = EV := ⟨_, rfl⟩
  rw [hEV] at hec2
  have HFT : Hid (Jg.Ft y q (at' : Int) 230 ∧ W1.heap.size ≤ q ∧ (Value.iface 86 (.pointer (some ⟨q, 0, none⟩))) = EV) := ⟨hft, hq, hEV⟩
  clear hft hq hEV
  have c3 : y.cell? ⟨g, 3, none⟩ = some (.chan (some rc)) := by simp [World.cell?, hr]
  have c4 : y.cell? ⟨g, 4, none⟩ = some (.chan (some ec)) := by simp [World.cell?, hr]
  have gl : g < y.heap.size := (Array.getElem?_eq_some_iff.1 hr).1
  have HR : Hid (y.heap[g]? = some (.cells #[.string b, .int .i64 (at' : Int), .int .i64 (n : Int), .chan (some rc), .chan (some ec)] 139 (0, 0))) := hr
  have HOC : Hid (Oc g rc ec W1 y) := hoc
  have HRC : Hid (y.heap[rc]? = some (.chan 1 #[] false s2 s2 false)) := hrc
  have HEC : Hid (y.heap[ec]? = some (.chan 1 #[EV] false (s + 1) s false)) := hec2
  clear hr hrc hec2 hoc
  dsimp only
  iterate 39 (first | go_values | go_skip | go_guarded | go_step | go_upon | go_back)
  have hno : ∀ (m : Nat) (c' : CommCase), m ≠ 1 → (#[rcase rc (.agg rcZ), rcase ec .nilIface] : Array CommCase)[m]? = some c' → NoWay y c' := by
    intro m c' hm hc
    match m with
    | 0 => cases hc; exact noWay_recv HRC.out
    | 1 => exact absurd rfl hm
    | m + 2 => simp at hc
  refine Jt.region_select (j := 1) (c := ec) (cases := #[rcase rc (.agg rcZ), rcase ec .nilIface]) rfl (blocking := true) (w1 := y) (by simp [execOp, rcase, rcZ, Act.eval]) rfl hno HEC.out (Nat.zero_lt_succ 0) ?_
  have hcr : commResult #[rcase rc (.agg rcZ), rcase ec .nilIface] .select ((1 : Nat) : Int) ((#[EV] : Array Value).getD 0 undef) true = .tuple #[.int .i64 1, .bool true, .agg rcZ, EV] := by simp [commResult, rcase, rcZ, goInt]
  rw [hcr]
  have hex : (#[EV] : Array Value).extract 1 (#[EV] : Array Value).size = #[] := by simp
  rw [hex]
  clear hcr hex hno
  obtain ⟨W3, HW3⟩ : ∃ W, Hid (y.setChan ec 1 #[] false (s + 1) (s + 1) false = W) := ⟨_, rfl⟩
  rw [HW3.out]
  have hs3 : W3.heap.size = y.heap.size := by rw [← HW3.out]; exact size_setChan _ _ _ _ _ _ _ _
  have HOC3 : Hid (Oc g rc ec w W3) := HW3.out ▸ Oc.after HB1.out (HOC.out.trans (Oc.of_chan _ _ _ _ _ _ _ _ (.inr rfl)))
  have h20 : w.heap.size < W1.heap.size := (Array.getElem?_eq_some_iff.1 HX1.out).1
  have h21 := HOC.out.size
  have hx3 : W3.heap[w.heap.size]? = some (.cells rcZ 107 (0, 0)) := by
    rw [← HW3.out, setChan_ne _ _ _ _ _ _ _ _ _ (by have := HL.out; omega), HOC.out.block _ h20 (by have := HL.out; omega) (by have := HL.out; omega) (by have := HL.out; omega)]
    exact HX1.out
  have HC3 : Hid (Cu W3 g b at' n rc ec) := by
    have hlt := HL.out
    have hgr : rc ≠ g := fun e => by have h1 := HR.out; subst e; rw [HRC.out] at h1; cases h1
    have hge : ec ≠ g := fun e => by have h1 := HR.out; subst e; rw [HEC.out] at h1; cases h1
    refine ⟨?_, ⟨s2, ?_⟩, ⟨s + 1, ?_⟩, HC0.out.ne⟩
    · rw [← HW3.out, setChan_ne _ _ _ _ _ _ _ _ _ hge]; exact HR.out
    · rw [← HW3.out, setChan_ne _ _ _ _ _ _ _ _ _ HC0.out.ne.symm]; exact HRC.out
    · rw [← HW3.out]; exact heap_setChan _ _ _ _ _ _ _ _ (Array.getElem?_eq_some_iff.1 HEC.out).1
  have zr : (Tryd.prog.info? 107).map (·.size) = some rcZ.size := zrec
  have o0 : rcZ.all (·.oneCell') = true := by simp [rcZ, Value.oneCell']
  obtain ⟨W6, HW6⟩ : ∃ W, Hid (W3.setRow w.heap.size rcZ = W) := ⟨_, rfl⟩
  have HX6 : Hid (W6.heap[w.heap.size]? = some (.cells rcZ 107 (0, 0))) := HW6.out ▸ setRow_at hx3 _
  have HFIN : Hid (∃ q, w.heap.size ≤ q ∧ (.returned (.tuple #[.agg rcZ, EV]) : Ending) = .returned (.tuple #[.agg rcZ, .iface 86 (.pointer (some ⟨q, 0, none⟩))]) ∧ Jg.Ft W6 q (at' : Int) 230 ∧ Cu W6 g b at' n rc ec ∧ Oc g rc ec w W6) := by
    have hlt := HL.out
    have hq := HFT.out.2.1
    refine ⟨q, by omega, by rw [HFT.out.2.2], ?_, ?_, ?_⟩
    · show _ = _
      rw [← HW6.out, setRow_other _ _ _ _ (by omega), ← HW3.out, setChan_ne _ _ _ _ _ _ _ _ _ (by omega)]
      exact HFT.out.1
    · exact HW6.out ▸ Cu.row HC3.out (by omega) (by omega) (by omega) _
    · exact HW6.out ▸ Oc.row _ _ _ HOC3.out (Nat.le_refl _)
  clear c3 c4 hs3 h20 h21
  go_wp2_with (first | (rw [HW6.out]) | (refine wpList_store_row rfl 107 _ _ rfl w.heap.size rcZ rfl rfl _ _ hx3 zr rfl o0 ?_) | fail)
  exact bodyPost_ret (v := .tuple #[.agg rcZ, EV]) (res_next W6 rcZ _ _ rfl rfl rfl HX6.out) rfl HFIN.out
end Go.Proofs.YtabmpngliphdpaaDoor.Jy
