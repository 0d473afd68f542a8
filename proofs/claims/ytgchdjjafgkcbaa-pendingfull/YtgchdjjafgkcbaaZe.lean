/- Keep, Without, Copy, copied; Whole: of fields without kids. -/
import Derived.Test.YtgchdjjafgkcbaaZd
namespace Go.Proofs.Ytgchdjjafgkcbaa.Ze
set_option linter.unusedVariables false
set_option linter.unusedSimpArgs false
open Go.RowKit Go.Maps Lib0 Kb Xp Ic Ix If Ig Za Zb Zc Zd
/-- what a function answers that makes a message: its type, and a row of its own -/
def PostM (w : World) (mti : ByteArray) (M : List Fl) (e : Ending) (w' : World) : Prop := ∃ v', e = .returned (.agg #[.string mti, v']) ∧ w'.ownsRow w.heap.size tF 3 v' M.length (fc M) ∧ (M = [] → v' = .slice none 0 0) ∧ Below w.heap.size w w'
theorem fin_msg {fn : Func} {p : Tmp} (h : fn.results = #[.cell p tG]) {w y : World} {g : Nat} {mti : ByteArray} {v : Value} {M : List Fl} (tm : Array Value) (hp : tm.getD p undef = .pointer (some ⟨g, 0, none⟩)) (hg : w.heap.size ≤ g) (hy : y.heap[g]? = some (.cells #[.string ⟨#[]⟩, .slice none 0 0] tG)) (hr : y.ownsRow w.heap.size tF 3 v M.length (fc M)) (hnl : M = [] → v = .slice none 0 0) (hb : Below w.heap.size w y) :
    bodyPost Try.prog fn (PostM w mti M) .ret ⟨tm, []⟩ ((y.setCell ⟨g, 0, none⟩ (.string mti)).setCell ⟨g, 1, none⟩ v) := by
  have h6 : ((y.setCell ⟨g, 0, none⟩ (.string mti)).setCell ⟨g, 1, none⟩ v).heap[g]? = some (.cells #[.string mti, v] tG) := setCell_heap (setCell_heap hy 0 _) 1 _
  refine bodyPost_ret (v := .agg #[.string mti, v]) (results_cell_row (fn := fn) h _ _ g tG _ _ _ hp h6 Try.underlying46 rfl infoG) rfl ⟨v, rfl, ?_, hnl, ?_⟩
  · refine own_keep hr fun k hk => ?_
    have hne : g ≠ k := fun e => by
      obtain ⟨cy, hcy⟩ := own_ty hr hk
      rw [← e, hy] at hcy
      injection hcy with hcy; injection hcy with _ hcy; exact absurd hcy (by decide)
    rw [setCell_ne (p := ⟨g, 1, none⟩) hne, setCell_ne (p := ⟨g, 0, none⟩) hne]
  · exact (hb.setCell hg _).setCell hg _
/-- the base of a row may be lower -/
theorem own_low {w : World} {b b' e size n : Nat} {v : Value} {xs : List Value} (h : w.ownsRow b e size v n xs) (hb : b' ≤ b) : w.ownsRow b' e size v n xs := by
  obtain ⟨h1, h2 | ⟨g, cap, cur, rfl, h3, h4, h5⟩⟩ := h
  · exact ⟨h1, .inl h2⟩
  · exact ⟨h1, .inr ⟨g, cap, cur, rfl, Nat.le_trans hb h3, h4, h5⟩⟩
structure Ms (w : World) (mti : ByteArray) (v : Value) (L : List Fl) : Prop where
  mti : mti.size ≤ 1000000
  row : RowF w v L
  fo : Fo L
theorem Ms.below {w x : World} {mti : ByteArray} {v : Value} {L : List Fl} (h : Ms w mti v L) (hb : Below w.heap.size w x) : Ms x mti v L := ⟨h.mti, rowf_below h.row hb, h.fo⟩
theorem Ms.slice {w : World} {mti : ByteArray} {v : Value} {L : List Fl} (h : Ms w mti v L) : ∃ o n cap, v = .slice o n cap := by
  obtain ⟨o, cap, e, -⟩ := h.row
  exact ⟨o, _, cap, e⟩
set_option maxRecDepth 100000 in
theorem without_flat (mti : ByteArray) (v nv : Value) (L : List Fl) (z : List Int) (w : World) (hM : Ms w mti v L) (hi : RowI w nv z) (hz : Io z) : Calls Try.prog 45 #[.agg #[.string mti, v], nv] w (PostM w mti (kp z false L)) := by
  have x0 := h2_0 w (.cells #[.string mti, v] tG) (.cells #[.string ⟨#[]⟩, .slice none 0 0] tG)
  have x1 := h2_1 w (.cells #[.string mti, v] tG) (.cells #[.string ⟨#[]⟩, .slice none 0 0] tG)
  have hB := below_two w (.cells #[.string mti, v] tG) (.cells #[.string ⟨#[]⟩, .slice none 0 0] tG)
  have HP : Hid (∀ y, Below w.heap.size w y → Calls Try.prog 57 #[.agg #[.string mti, v], nv, .bool false] y fun e w' => ∃ v', e = .returned (.agg #[.string mti, v']) ∧ w'.ownsRow y.heap.size tF 3 v' (kp z false L).length (fc (kp z false L)) ∧ (kp z false L = [] → v' = .slice none 0 0) ∧ Below y.heap.size y w') := fun y hy => part_flat mti v nv L z false y hM.mti (rowf_below hM.row hy) hM.fo (rowi_below hi hy) hz
  obtain ⟨o, n, cap, rfl⟩ := hM.slice
  have c0 : ((w.alloc (.cells #[.string mti, .slice o n cap] tG)).alloc (.cells #[.string ⟨#[]⟩, .slice none 0 0] tG)).cell? ⟨w.heap.size, 0, none⟩ = some (.string mti) := by simp [World.cell?, x0]
  have c1 : ((w.alloc (.cells #[.string mti, .slice o n cap] tG)).alloc (.cells #[.string ⟨#[]⟩, .slice none 0 0] tG)).cell? ⟨w.heap.size, 1, none⟩ = some (.slice o n cap) := by simp [World.cell?, x0]
  have HX1 : Hid _ := x1
  have HB : Hid (Below w.heap.size w ((w.alloc (.cells #[.string mti, .slice o n cap] tG)).alloc (.cells #[.string ⟨#[]⟩, .slice none 0 0] tG))) := hB
  clear x0 x1 hM hi hz hB
  go_enter Try.func45, Try.ntmps45
  go_wp2_with fail
  refine (HP.out _ HB.out).mono ?_
  rintro e y ⟨v', rfl, hr, hnl, hb⟩
  have HY1 : Hid (y.heap[w.heap.size + 1]? = some (.cells #[.string ⟨#[]⟩, .slice none 0 0] tG)) := kept hb HX1.out
  have HR : Hid (y.ownsRow w.heap.size tF 3 v' (kp z false L).length (fc (kp z false L))) := own_low hr HB.out.size
  have HNL : Hid (kp z false L = [] → v' = .slice none 0 0) := hnl
  clear hnl
  have HBY : Hid (Below w.heap.size w y) := keepB HB.out hb
  obtain ⟨o2, c2, rfl, -⟩ := own_form hr
  have s0 : y.cell? ⟨w.heap.size + 1, 0, none⟩ = some (.string ⟨#[]⟩) := by simp [World.cell?, HY1.out]
  have s1 : y.cell? ⟨w.heap.size + 1, 1, none⟩ = some (.slice none 0 0) := by simp [World.cell?, HY1.out]
  have f0 : y.frozen? ⟨w.heap.size + 1, 0, none⟩ = false := frozen_of_row y _ _ _ _ HY1.out
  have f1 : y.frozen? ⟨w.heap.size + 1, 1, none⟩ = false := frozen_of_row y _ _ _ _ HY1.out
  obtain ⟨K, HK⟩ : ∃ K, Hid ((kp z false L).length = K) := ⟨_, rfl⟩
  rw [HK.out] at HR HNL
  rw [HK.out]
  clear hr hb HP HX1 HB c0 c1
  go_wp2_with fail
  exact fin_msg rfl _ rfl (by omega) HY1.out (by rw [HK.out]; exact HR.out) HNL.out HBY.out
set_option maxRecDepth 100000 in
theorem copy_flat (mti : ByteArray) (v : Value) (L : List Fl) (w : World) (hM : Ms w mti v L) : Calls Try.prog 36 #[.agg #[.string mti, v]] w (PostM w mti L) := by
  have x0 := h2_0 w (.cells #[.string mti, v] tG) (.cells #[.string ⟨#[]⟩, .slice none 0 0] tG)
  have x1 := h2_1 w (.cells #[.string mti, v] tG) (.cells #[.string ⟨#[]⟩, .slice none 0 0] tG)
  have hB := below_two w (.cells #[.string mti, v] tG) (.cells #[.string ⟨#[]⟩, .slice none 0 0] tG)
  have hk : kp [] false L = L := by simp [Zc.kp]
  have HP : Hid (∀ y, Below w.heap.size w y → Calls Try.prog 45 #[.agg #[.string mti, v], .slice none 0 0] y (PostM y mti L)) := fun y hy => by
    have := without_flat mti v (.slice none 0 0) L [] y (hM.below hy) ⟨none, 0, rfl, fun i hi => by simp at hi⟩ ⟨by simp, fun x hx => by simp at hx⟩
    rwa [hk] at this
  obtain ⟨o, n, cap, rfl⟩ := hM.slice
  have c0 : ((w.alloc (.cells #[.string mti, .slice o n cap] tG)).alloc (.cells #[.string ⟨#[]⟩, .slice none 0 0] tG)).cell? ⟨w.heap.size, 0, none⟩ = some (.string mti) := by simp [World.cell?, x0]
  have c1 : ((w.alloc (.cells #[.string mti, .slice o n cap] tG)).alloc (.cells #[.string ⟨#[]⟩, .slice none 0 0] tG)).cell? ⟨w.heap.size, 1, none⟩ = some (.slice o n cap) := by simp [World.cell?, x0]
  have HX1 : Hid _ := x1
  have HB : Hid (Below w.heap.size w ((w.alloc (.cells #[.string mti, .slice o n cap] tG)).alloc (.cells #[.string ⟨#[]⟩, .slice none 0 0] tG))) := hB
  clear x0 x1 hM hB hk
  go_enter Try.func36, Try.ntmps36
  go_wp2_with fail
  refine (HP.out _ HB.out).mono ?_
  rintro e y ⟨v', rfl, hr, hnl, hb⟩
  have HY1 : Hid (y.heap[w.heap.size + 1]? = some (.cells #[.string ⟨#[]⟩, .slice none 0 0] tG)) := kept hb HX1.out
  have HR : Hid (y.ownsRow w.heap.size tF 3 v' L.length (fc L)) := own_low hr HB.out.size
  have HNL : Hid (L = [] → v' = .slice none 0 0) := hnl
  clear hnl
  have HBY : Hid (Below w.heap.size w y) := keepB HB.out hb
  obtain ⟨o2, c2, rfl, -⟩ := own_form hr
  have s0 : y.cell? ⟨w.heap.size + 1, 0, none⟩ = some (.string ⟨#[]⟩) := by simp [World.cell?, HY1.out]
  have s1 : y.cell? ⟨w.heap.size + 1, 1, none⟩ = some (.slice none 0 0) := by simp [World.cell?, HY1.out]
  have f0 : y.frozen? ⟨w.heap.size + 1, 0, none⟩ = false := frozen_of_row y _ _ _ _ HY1.out
  have f1 : y.frozen? ⟨w.heap.size + 1, 1, none⟩ = false := frozen_of_row y _ _ _ _ HY1.out
  obtain ⟨K, HK⟩ : ∃ K, Hid (L.length = K) := ⟨_, rfl⟩
  rw [HK.out] at HR HNL
  rw [HK.out]
  clear hr hb HP HX1 HB c0 c1
  go_wp2_with fail
  exact fin_msg rfl _ rfl (by omega) HY1.out (by rw [HK.out]; exact HR.out) HNL.out HBY.out
theorem field_one (a : ByteArray) (o : Option Addr) (n c : Nat) (y : World) : Sem.run Try.prog (Instr.field tG (.agg #[.string a, .slice o n c]) 1) y = .ok (.slice o n c) y := by kernel_rfl
end Go.Proofs.Ytgchdjjafgkcbaa.Ze
