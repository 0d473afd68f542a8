/- totals: what a message brings with its answer. -/
import Derived.Test.YteaanenhefbkjaaDoorTd
namespace Go.Proofs.YteaanenhefbkjaaDoor.Te
set_option linter.unusedVariables false
set_option linter.unusedSimpArgs false
open Go.RowKit Lib0 Kb Xp Ic Ta Hp Hr Ht Hu Hx Tb Tc Td Num
attribute [local go_sem] Oper.semAt_some
def c0 : ByteArray := ⟨#[48, 48]⟩
def c5 : ByteArray := ⟨#[48, 53]⟩
def mov (bk cr ys : Bool) (amt : Int) : Nat → Int := if ys then upd (upd (fun _ => 0) (nmI bk cr) 1) (nmI bk cr + 4) amt else fun _ => 0
def br (bk tel cr ys : Bool) (amt : Int) : Nat → Int := if bk then mov bk cr ys amt else if tel then upd (mov bk cr ys amt) 3 1 else if ys then upd (upd (mov bk cr ys amt) 0 1) 1 1 else upd (upd (mov bk cr ys amt) 0 1) 2 1
structure BrM (w : World) (mti : ByteArray) (v : Value) (F : Nat → Int) (x : World) : Prop where
  m : x.heap[w.heap.size]? = some (.cells #[.string mti, v] tMs (0, 0))
  r : x.heap[w.heap.size + 2]? = some (.cells (ta fun _ => 0) tTa (0, 0))
  t : x.heap[w.heap.size + 3]? = some (.cells (ta F) tTa (0, 0))
  bel : Below w.heap.size w x
theorem BrM.below {w x y : World} {mti : ByteArray} {v : Value} {F : Nat → Int} (h : BrM w mti v F x) (k : Below x.heap.size x y) : BrM w mti v F y := ⟨kept k h.m, kept k h.r, kept k h.t, keepB h.bel k⟩
theorem BrM.set {w x : World} {mti : ByteArray} {v : Value} {F : Nat → Int} (h : BrM w mti v F x) (k : Nat) (hk : k < 12) (u : Int) : BrM w mti v (upd F k u) (x.setCell ⟨w.heap.size + 3, k, none⟩ (.int .i64 u)) :=
  ⟨by rw [setCell_ne (p := ⟨w.heap.size + 3, k, none⟩) (by show w.heap.size + 3 ≠ w.heap.size; omega)]; exact h.m, by rw [setCell_ne (p := ⟨w.heap.size + 3, k, none⟩) (by show w.heap.size + 3 ≠ w.heap.size + 2; omega)]; exact h.r, ta_put h.t k hk u, h.bel.setCell (by show w.heap.size ≤ w.heap.size + 3; omega) _⟩
theorem BrM.cells {w x : World} {mti : ByteArray} {v : Value} {F : Nat → Int} (h : BrM w mti v F x) : x.cell? ⟨w.heap.size, 0, none⟩ = some (.string mti) ∧ x.cell? ⟨w.heap.size, 1, none⟩ = some v := by
  have := h.m
  exact ⟨by simp [World.cell?, this], by simp [World.cell?, this]⟩
theorem br_start (w : World) (mti mti2 : ByteArray) (v v2 : Value) : BrM w mti v (fun _ => 0) ((((w.alloc (.cells #[.string mti, v] tMs)).alloc (.cells #[.string mti2, v2] tMs)).alloc (.cells (ta fun _ => 0) tTa)).alloc (.cells (ta fun _ => 0) tTa)) := by
  have b1 := below_one w (.cells #[.string mti, v] tMs)
  have b2 := below_one (w.alloc (.cells #[.string mti, v] tMs)) (.cells #[.string mti2, v2] tMs)
  have b3 := below_one ((w.alloc (.cells #[.string mti, v] tMs)).alloc (.cells #[.string mti2, v2] tMs)) (.cells (ta fun _ => 0) tTa)
  have b4 := below_one (((w.alloc (.cells #[.string mti, v] tMs)).alloc (.cells #[.string mti2, v2] tMs)).alloc (.cells (ta fun _ => 0) tTa)) (.cells (ta fun _ => 0) tTa)
  refine ⟨kept b4 (kept b3 (kept b2 (h1_0 _ _))), ?_, ?_, keepB (keepB (keepB b1 b2) b3) b4⟩
  · have h9 := kept b4 (h1_0 ((w.alloc (.cells #[.string mti, v] tMs)).alloc (.cells #[.string mti2, v2] tMs)) (.cells (ta fun _ => 0) tTa))
    rw [show ((w.alloc (.cells #[.string mti, v] tMs)).alloc (.cells #[.string mti2, v2] tMs)).heap.size = w.heap.size + 2 by simp] at h9
    exact h9
  · have h9 := h1_0 (((w.alloc (.cells #[.string mti, v] tMs)).alloc (.cells #[.string mti2, v2] tMs)).alloc (.cells (ta fun _ => 0) tTa)) (.cells (ta fun _ => 0) tTa)
    rw [show (((w.alloc (.cells #[.string mti, v] tMs)).alloc (.cells #[.string mti2, v2] tMs)).alloc (.cells (ta fun _ => 0) tTa)).heap.size = w.heap.size + 3 by simp] at h9
    exact h9
theorem nmI_lt (bk cr : Bool) : nmI bk cr < 8 := by cases bk <;> cases cr <;> decide
set_option maxRecDepth 100000 in
set_option maxHeartbeats 6400000 in
theorem brought_any (mti mti2 : ByteArray) (hm : mti.size ≤ 1000) (v v2 : Value) (L L2 : List Fl) (bk tel cr ys : Bool) (s : ByteArray) (hk : dg mti 1 = 4 ↔ bk = true) (htl : dg mti 2 = 2 ↔ tel = true) (hcr : getV L 3 = if cr then p2 else p0) (ha : getV L 4 = s) (h12 : s.size ≤ 12) (hys : getV L2 39 = if ys then c0 else c5) (w : World) (h : RowF w v L) (h2 : RowF w v2 L2) (hl : L.length ≤ 1000) (hl2 : L2.length ≤ 1000) (hs : ∀ x ∈ L, x.2.size ≤ 1000000) (hs2 : ∀ x ∈ L2, x.2.size ≤ 1000000) :
    Calls Tryd.prog 22 #[.agg #[.string mti, v], .agg #[.string mti2, v2]] w fun e w' => e = .returned (.agg (ta (br bk tel cr ys (numR s.data.toList).1))) ∧ Below w.heap.size w w' := by
  have H0 := br_start w mti mti2 v v2
  obtain ⟨o, cap, ev, -⟩ := id h
  obtain ⟨o2, cap2, ev2, -⟩ := id h2
  have HG : Hid (∀ y, Below w.heap.size w y → Calls Tryd.prog 16 #[.agg #[.string mti2, v2], .int .i64 39] y fun e w' => e = .returned (.tuple #[.string (if ys then c0 else c5), .bool (getB L2 39)]) ∧ Below y.heap.size y w') := fun y hy => by
    have := get_any mti2 v2 L2 39 y (rowf_below h2 hy) hl2 hs2
    rw [hys] at this
    exact this
  have HC : Hid (∀ y, Calls Tryd.prog 26 #[.string mti] y fun e w' => e = .returned (.int .i64 (dg mti 1)) ∧ Below y.heap.size y w') := fun y => class_b mti hm y
  have HF : Hid (∀ y, Calls Tryd.prog 27 #[.string mti] y fun e w' => e = .returned (.int .i64 (dg mti 2)) ∧ Below y.heap.size y w') := fun y => function_b mti hm y
  have HMV : Hid (∀ y, Below w.heap.size w y → Calls Tryd.prog 32 #[.agg #[.string mti, v]] y fun e w' => e = .returned (.tuple #[.int .i64 (nmI bk cr : Int), .int .i64 ((nmI bk cr : Int) + 4)]) ∧ Below y.heap.size y w') := fun y hy => movedBy_any mti hm v L bk cr hk hcr y (rowf_below h hy) hl hs
  have HAM : Hid (∀ y, Below w.heap.size w y → Calls Tryd.prog 33 #[.agg #[.string mti, v]] y fun e w' => e = .returned (.int .i64 (numR s.data.toList).1) ∧ Below y.heap.size y w') := fun y hy => amount_any mti v L s ha h12 y (rowf_below h hy) hl hs
  have hcb : (dg mti 1 == 4) = bk := by cases bk <;> simp_all
  have hft : (dg mti 2 == 2) = tel := by cases tel <;> simp_all
  generalize dg mti 1 = C at *
  generalize dg mti 2 = F at *
  generalize (numR s.data.toList).1 = A at *
  have HN : Hid (nmI bk cr < 8) := nmI_lt bk cr
  subst ev ev2
  have HH0 : Hid (BrM w mti (.slice o L.length cap) (fun _ => 0) ((((w.alloc (.cells #[.string mti, .slice o L.length cap] tMs)).alloc (.cells #[.string mti2, .slice o2 L2.length cap2] tMs)).alloc (.cells (ta fun _ => 0) tTa)).alloc (.cells (ta fun _ => 0) tTa))) := H0
  unfold ta at HH0
  clear h h2 hl hl2 hs hs2 hk htl hcr ha hys hm h12 H0
  go_enter Tryd.func22, Tryd.ntmps22
  go_wp2_with fail
  refine (HG.out _ HH0.out.bel).mono ?_
  rintro e y1 ⟨rfl, hy1⟩
  have H1 : Hid (BrM w mti (.slice o L.length cap) (fun _ => 0) y1) := HH0.out.below hy1
  obtain ⟨m0, m1⟩ := H1.out.cells
  clear hy1 HH0
  cases ys
  · simp only [Bool.false_eq_true, if_false, c5]
    go_wp2_with fail
    refine (HC.out _).mono ?_
    rintro e y2 ⟨rfl, hy2⟩
    have H2 : Hid (BrM w mti (.slice o L.length cap) (mov bk cr false A) y2) := H1.out.below hy2
    obtain ⟨m0, m1⟩ := H2.out.cells
    clear hy2
    cases bk
    · cases tel
      · go_wp2_with fail
        refine (HF.out _).mono ?_
        rintro e y7 ⟨rfl, hy7⟩
        have H7 : Hid (BrM w mti (.slice o L.length cap) (mov false cr false A) y7) := H2.out.below hy7
        obtain ⟨a0, a1⟩ := ta_cell H7.out.t 0 (by omega)
        have H8 : Hid (BrM w mti (.slice o L.length cap) (upd (mov false cr false A) 0 1) (y7.setCell ⟨w.heap.size + 3, 0, none⟩ (.int .i64 1))) := H7.out.set 0 (by omega) 1
        obtain ⟨b0, b1⟩ := ta_cell H8.out.t 2 (by omega)
        have H9 : Hid (BrM w mti (.slice o L.length cap) (upd (upd (mov false cr false A) 0 1) 2 1) ((y7.setCell ⟨w.heap.size + 3, 0, none⟩ (.int .i64 1)).setCell ⟨w.heap.size + 3, 2, none⟩ (.int .i64 1))) := H8.out.set 2 (by omega) 1
        obtain ⟨B, HBb⟩ : ∃ B, Hid (br false false cr false A = B) := ⟨_, rfl⟩
        have hB : upd (upd (mov false cr false A) 0 1) 2 1 = B := HBb.out
        rw [hB] at H9
        clear hy7 hB
        have hA := H9.out.t
        have hR := H9.out.r
        have HBW : Hid _ := below_setRow H9.out.bel (show w.heap.size ≤ w.heap.size + 2 by omega) (ta B)
        have HRW : Hid _ := setRow_at hR (ta B)
        go_wp2_with (first
          | (refine wpList_load_row rfl tTa _ rfl (w.heap.size + 3) rfl _ _ _ _ hA Tryd.underlying53 rfl infoTa ?_; refine wpList_store_row rfl tTa _ _ rfl (w.heap.size + 2) (ta B) (by rfl) (by rfl) _ _ hR infoTa (by rfl) (by simp [ta, Value.oneCell']) ?_)
          | fail)
        exact bodyPost_ret (v := .agg (ta B)) (results_cell_row (fn := Tryd.f22) (p := 4) rfl _ _ (w.heap.size + 2) tTa _ _ _ rfl HRW.out Tryd.underlying53 rfl infoTa) rfl ⟨by rw [HBb.out], HBW.out⟩
      · go_wp2_with fail
        refine (HF.out _).mono ?_
        rintro e y7 ⟨rfl, hy7⟩
        have H7 : Hid (BrM w mti (.slice o L.length cap) (mov false cr false A) y7) := H2.out.below hy7
        obtain ⟨a0, a1⟩ := ta_cell H7.out.t 3 (by omega)
        have H9 : Hid (BrM w mti (.slice o L.length cap) (upd (mov false cr false A) 3 1) (y7.setCell ⟨w.heap.size + 3, 3, none⟩ (.int .i64 1))) := H7.out.set 3 (by omega) 1
        obtain ⟨B, HBb⟩ : ∃ B, Hid (br false true cr false A = B) := ⟨_, rfl⟩
        have hB : upd (mov false cr false A) 3 1 = B := HBb.out
        rw [hB] at H9
        clear hy7 hB
        have hA := H9.out.t
        have hR := H9.out.r
        have HBW : Hid _ := below_setRow H9.out.bel (show w.heap.size ≤ w.heap.size + 2 by omega) (ta B)
        have HRW : Hid _ := setRow_at hR (ta B)
        go_wp2_with (first
          | (refine wpList_load_row rfl tTa _ rfl (w.heap.size + 3) rfl _ _ _ _ hA Tryd.underlying53 rfl infoTa ?_; refine wpList_store_row rfl tTa _ _ rfl (w.heap.size + 2) (ta B) (by rfl) (by rfl) _ _ hR infoTa (by rfl) (by simp [ta, Value.oneCell']) ?_)
          | fail)
        exact bodyPost_ret (v := .agg (ta B)) (results_cell_row (fn := Tryd.f22) (p := 4) rfl _ _ (w.heap.size + 2) tTa _ _ _ rfl HRW.out Tryd.underlying53 rfl infoTa) rfl ⟨by rw [HBb.out], HBW.out⟩
    · obtain ⟨B, HBb⟩ : ∃ B, Hid (br true tel cr false A = B) := ⟨_, rfl⟩
      have hB : mov true cr false A = B := HBb.out
      rw [hB] at H2
      clear hB
      have hA := H2.out.t
      have hR := H2.out.r
      have HBW : Hid _ := below_setRow H2.out.bel (show w.heap.size ≤ w.heap.size + 2 by omega) (ta B)
      have HRW : Hid _ := setRow_at hR (ta B)
      go_wp2_with (first
        | (refine wpList_load_row rfl tTa _ rfl (w.heap.size + 3) rfl _ _ _ _ hA Tryd.underlying53 rfl infoTa ?_; refine wpList_store_row rfl tTa _ _ rfl (w.heap.size + 2) (ta B) (by rfl) (by rfl) _ _ hR infoTa (by rfl) (by simp [ta, Value.oneCell']) ?_)
        | fail)
      exact bodyPost_ret (v := .agg (ta B)) (results_cell_row (fn := Tryd.f22) (p := 4) rfl _ _ (w.heap.size + 2) tTa _ _ _ rfl HRW.out Tryd.underlying53 rfl infoTa) rfl ⟨by rw [HBb.out], HBW.out⟩
  · simp only [if_true, c0]
    go_wp2_with fail
    refine (HMV.out _ H1.out.bel).mono ?_
    rintro e y2 ⟨rfl, hy2⟩
    have H2 : Hid (BrM w mti (.slice o L.length cap) (fun _ => 0) y2) := H1.out.below hy2
    obtain ⟨m0, m1⟩ := H2.out.cells
    obtain ⟨NI, HNI⟩ : ∃ NI, Hid (nmI bk cr = NI) := ⟨_, rfl⟩
    rw [HNI.out]
    have HN8 : Hid (NI < 8) := by have := HN.out; have := HNI.out; show NI < 8; omega
    obtain ⟨k0, k1⟩ := ta_cell H2.out.t NI (by have := HN8.out; omega)
    obtain ⟨k2, k3⟩ := ta_cell H2.out.t (NI + 4) (by have := HN8.out; omega)
    have H3 : Hid (BrM w mti (.slice o L.length cap) (upd (fun _ => 0) NI 1) (y2.setCell ⟨w.heap.size + 3, NI, none⟩ (.int .i64 1))) := H2.out.set NI (by have := HN8.out; omega) 1
    have q0 : (NI : Int) < 12 := by have := HN8.out; omega
    have q1 : (0 : Int) ≤ (NI : Int) := by omega
    have q2 : NI < 12 := by have := HN8.out; omega
    have q3 : (NI : Int) + 4 < 12 := by have := HN8.out; omega
    have q4 : NI + 4 < 12 := by have := HN8.out; omega
    clear hy2
    go_wp2_with fail
    refine (HAM.out _ H3.out.bel).mono ?_
    rintro e y5 ⟨rfl, hy5⟩
    have H5 : Hid (BrM w mti (.slice o L.length cap) (upd (fun _ => 0) NI 1) y5) := H3.out.below hy5
    obtain ⟨k4, k5⟩ := ta_cell H5.out.t (NI + 4) q4
    have H6 : Hid (BrM w mti (.slice o L.length cap) (mov bk cr true A) (y5.setCell ⟨w.heap.size + 3, NI + 4, none⟩ (.int .i64 A))) := (by
      have h9 := H5.out.set (NI + 4) q4 A
      rw [← HNI.out] at h9 ⊢
      exact h9)
    have hN4 : ((NI : Int) + 4).toNat = NI + 4 := by omega
    have q5 : (0 : Int) ≤ (NI : Int) + 4 := by omega
    clear hy5 k0 k1 k2 k3
    obtain ⟨m0, m1⟩ := H6.out.cells
    go_wp2_with fail
    refine (HC.out _).mono ?_
    rintro e y6 ⟨rfl, hy6⟩
    have H2 : Hid (BrM w mti (.slice o L.length cap) (mov bk cr true A) y6) := H6.out.below hy6
    obtain ⟨m0, m1⟩ := H2.out.cells
    clear hy6
    cases bk
    · cases tel
      · go_wp2_with fail
        refine (HF.out _).mono ?_
        rintro e y7 ⟨rfl, hy7⟩
        have H7 : Hid (BrM w mti (.slice o L.length cap) (mov false cr true A) y7) := H2.out.below hy7
        obtain ⟨a0, a1⟩ := ta_cell H7.out.t 0 (by omega)
        have H8 : Hid (BrM w mti (.slice o L.length cap) (upd (mov false cr true A) 0 1) (y7.setCell ⟨w.heap.size + 3, 0, none⟩ (.int .i64 1))) := H7.out.set 0 (by omega) 1
        obtain ⟨b0, b1⟩ := ta_cell H8.out.t 1 (by omega)
        have H9 : Hid (BrM w mti (.slice o L.length cap) (upd (upd (mov false cr true A) 0 1) 1 1) ((y7.setCell ⟨w.heap.size + 3, 0, none⟩ (.int .i64 1)).setCell ⟨w.heap.size + 3, 1, none⟩ (.int .i64 1))) := H8.out.set 1 (by omega) 1
        obtain ⟨B, HBb⟩ : ∃ B, Hid (br false false cr true A = B) := ⟨_, rfl⟩
        have hB : upd (upd (mov false cr true A) 0 1) 1 1 = B := HBb.out
        rw [hB] at H9
        clear hy7 hB
        have hA := H9.out.t
        have hR := H9.out.r
        have HBW : Hid _ := below_setRow H9.out.bel (show w.heap.size ≤ w.heap.size + 2 by omega) (ta B)
        have HRW : Hid _ := setRow_at hR (ta B)
        go_wp2_with (first
          | (refine wpList_load_row rfl tTa _ rfl (w.heap.size + 3) rfl _ _ _ _ hA Tryd.underlying53 rfl infoTa ?_; refine wpList_store_row rfl tTa _ _ rfl (w.heap.size + 2) (ta B) (by rfl) (by rfl) _ _ hR infoTa (by rfl) (by simp [ta, Value.oneCell']) ?_)
          | fail)
        exact bodyPost_ret (v := .agg (ta B)) (results_cell_row (fn := Tryd.f22) (p := 4) rfl _ _ (w.heap.size + 2) tTa _ _ _ rfl HRW.out Tryd.underlying53 rfl infoTa) rfl ⟨by rw [HBb.out], HBW.out⟩
      · go_wp2_with fail
        refine (HF.out _).mono ?_
        rintro e y7 ⟨rfl, hy7⟩
        have H7 : Hid (BrM w mti (.slice o L.length cap) (mov false cr true A) y7) := H2.out.below hy7
        obtain ⟨a0, a1⟩ := ta_cell H7.out.t 3 (by omega)
        have H9 : Hid (BrM w mti (.slice o L.length cap) (upd (mov false cr true A) 3 1) (y7.setCell ⟨w.heap.size + 3, 3, none⟩ (.int .i64 1))) := H7.out.set 3 (by omega) 1
        obtain ⟨B, HBb⟩ : ∃ B, Hid (br false true cr true A = B) := ⟨_, rfl⟩
        have hB : upd (mov false cr true A) 3 1 = B := HBb.out
        rw [hB] at H9
        clear hy7 hB
        have hA := H9.out.t
        have hR := H9.out.r
        have HBW : Hid _ := below_setRow H9.out.bel (show w.heap.size ≤ w.heap.size + 2 by omega) (ta B)
        have HRW : Hid _ := setRow_at hR (ta B)
        go_wp2_with (first
          | (refine wpList_load_row rfl tTa _ rfl (w.heap.size + 3) rfl _ _ _ _ hA Tryd.underlying53 rfl infoTa ?_; refine wpList_store_row rfl tTa _ _ rfl (w.heap.size + 2) (ta B) (by rfl) (by rfl) _ _ hR infoTa (by rfl) (by simp [ta, Value.oneCell']) ?_)
          | fail)
        exact bodyPost_ret (v := .agg (ta B)) (results_cell_row (fn := Tryd.f22) (p := 4) rfl _ _ (w.heap.size + 2) tTa _ _ _ rfl HRW.out Tryd.underlying53 rfl infoTa) rfl ⟨by rw [HBb.out], HBW.out⟩
    · obtain ⟨B, HBb⟩ : ∃ B, Hid (br true tel cr true A = B) := ⟨_, rfl⟩
      have hB : mov true cr true A = B := HBb.out
      rw [hB] at H2
      clear hB
      have hA := H2.out.t
      have hR := H2.out.r
      have HBW : Hid _ := below_setRow H2.out.bel (show w.heap.size ≤ w.heap.size + 2 by omega) (ta B)
      have HRW : Hid _ := setRow_at hR (ta B)
      go_wp2_with (first
        | (refine wpList_load_row rfl tTa _ rfl (w.heap.size + 3) rfl _ _ _ _ hA Tryd.underlying53 rfl infoTa ?_; refine wpList_store_row rfl tTa _ _ rfl (w.heap.size + 2) (ta B) (by rfl) (by rfl) _ _ hR infoTa (by rfl) (by simp [ta, Value.oneCell']) ?_)
        | fail)
      exact bodyPost_ret (v := .agg (ta B)) (results_cell_row (fn := Tryd.f22) (p := 4) rfl _ _ (w.heap.size + 2) tTa _ _ _ rfl HRW.out Tryd.underlying53 rfl infoTa) rfl ⟨by rw [HBb.out], HBW.out⟩
end Go.Proofs.YteaanenhefbkjaaDoor.Te
