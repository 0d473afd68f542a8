/- Near: the program's. -/
import Derived.Test.YtpocbaaogkabeaaDoorNr
namespace Go.Proofs.YtpocbaaogkabeaaDoor.Ner
set_option linter.unusedVariables false
set_option linter.unusedSimpArgs false
open Go.RowKit Kb Ca Ld De Oe Hx Dy Dz Sg Sm Sn Nr
/-- is it a stamp? -/
def isSt (s : ByteArray) : Bool := ten s && isD 2000 (tw s.data.toList 0) (tw s.data.toList 2) (tw s.data.toList 4) (tw s.data.toList 6) (tw s.data.toList 8)
/-- the moment with a stamp that lies nearest -/
def IsNear (s : ByteArray) (x b : Int) : Prop := Best (okS (tw s.data.toList 0) (tw s.data.toList 2) (tw s.data.toList 4) (tw s.data.toList 6) (tw s.data.toList 8)) (sk (tw s.data.toList 0) (tw s.data.toList 2) (tw s.data.toList 4) (tw s.data.toList 6) (tw s.data.toList 8)) x 2000 2100 b
set_option maxRecDepth 100000 in
set_option maxHeartbeats 1600000 in
theorem near_date (s : ByteArray) (n : Int) (hn : decide (0 ≤ n ∧ n ≤ 3155759999) = false) (w : World) : Calls Tryd.prog 24 #[.string s, .int .i64 n] w fun e w' => e = .returned (.tuple #[.int .i64 0, .int .i64 80]) ∧ Below w.heap.size w w' := by
  have c := fun x => date_bad n hn x
  unfold dt at c
  clear hn
  go_enter Tryd.func24, Tryd.ntmps24
  go_wp2_with fail
  refine (c _).mono ?_
  rintro e x ⟨rfl, hb⟩
  go_wp2_with fail
  go_ret2
  refine ⟨rfl, ?_⟩
  first | exact hb | exact keepB hb (below_one _ _)
set_option maxRecDepth 100000 in
set_option maxHeartbeats 1600000 in
theorem near_stamp (s : ByteArray) (hs : s.size ≤ 140737488351232) (n : Int) (h0 : 0 ≤ n) (h1 : n ≤ 3155759999) (h : isSt s = false) (w : World) (hT : Tab w) : Calls Tryd.prog 24 #[.string s, .int .i64 n] w fun e w' => e = .returned (.tuple #[.int .i64 0, .int .i64 81]) ∧ Below w.heap.size w w' := by
  have c := date_good n h0 h1 w hT
  cases h4 : ten s
  · have cs := fun x => stamp_bad s hs h4 x
    unfold dt at c cs
    clear h h4
    go_enter Tryd.func24, Tryd.ntmps24
    go_wp2_with fail
    refine c.mono ?_
    rintro e x ⟨⟨Y, M, D, hd, rfl⟩, hb⟩
    have hb2 : ∀ o, Below w.heap.size w (x.alloc o) := fun o => keepB hb (below_one _ _)
    go_wp2_with fail
    refine (cs _).mono ?_
    rintro e y ⟨rfl, hy⟩
    have hy2 := keepB (hb2 _) hy
    go_wp2_with fail
    go_ret2
    refine ⟨rfl, ?_⟩
    first | exact hy2 | exact keepB hy2 (below_one _ _)
  · have cs := fun x hT => stamp_good s hs h4 x hT
    rw [show isD 2000 (tw s.data.toList 0) (tw s.data.toList 2) (tw s.data.toList 4) (tw s.data.toList 6) (tw s.data.toList 8) = false by simpa [isSt, h4] using h] at cs
    unfold dt at c cs
    clear h h4
    generalize tw s.data.toList 0 = M' at *
    generalize tw s.data.toList 2 = D' at *
    generalize tw s.data.toList 4 = H' at *
    generalize tw s.data.toList 6 = I' at *
    generalize tw s.data.toList 8 = S' at *
    go_enter Tryd.func24, Tryd.ntmps24
    go_wp2_with fail
    refine c.mono ?_
    rintro e x ⟨⟨Y, M, D, hd, rfl⟩, hb⟩
    have hb2 : ∀ o, Below w.heap.size w (x.alloc o) := fun o => keepB hb (below_one _ _)
    go_wp2_with fail
    refine (cs _ (hT.next (hb2 _))).mono ?_
    rintro e y ⟨rfl, hy⟩
    have hy2 := keepB (hb2 _) hy
    go_wp2_with fail
    go_ret2
    refine ⟨rfl, ?_⟩
    first | exact hy2 | exact keepB hy2 (below_one _ _)
set_option maxRecDepth 100000 in
set_option maxHeartbeats 1600000 in
theorem near_good (s : ByteArray) (hs : s.size ≤ 140737488351232) (n : Int) (h0 : 0 ≤ n) (h1 : n ≤ 3155759999) (h : isSt s = true) (w : World) (hT : Tab w) : Calls Tryd.prog 24 #[.string s, .int .i64 n] w fun e w' => (∃ b, IsNear s n b ∧ e = .returned (.tuple #[.int .i64 b, .int .i64 0])) ∧ Below w.heap.size w w' := by
  simp only [isSt, Bool.and_eq_true] at h
  obtain ⟨h4, hd⟩ := h
  have c := date_good n h0 h1 w hT
  have cs := fun x hT => stamp_good s hs h4 x hT
  rw [hd] at cs
  unfold IsNear
  clear h4
  generalize tw s.data.toList 0 = M' at *
  generalize tw s.data.toList 2 = D' at *
  generalize tw s.data.toList 4 = H' at *
  generalize tw s.data.toList 6 = I' at *
  generalize tw s.data.toList 8 = S' at *
  have cN := fun Y y0 y1 x hT => nearest_any M' D' H' I' S' Y n y0 y1 h0 h1 2000 x hT
  unfold dt at c cs cN
  go_enter Tryd.func24, Tryd.ntmps24
  go_wp2_with fail
  refine c.mono ?_
  rintro e x ⟨⟨Y, M, D, hday, rfl⟩, hb⟩
  have hb2 : ∀ o, Below w.heap.size w (x.alloc o) := fun o => keepB hb (below_one _ _)
  have hiy := hday.in_year
  go_wp2_with fail
  refine (cs _ (hT.next (hb2 _))).mono ?_
  rintro e y ⟨rfl, hy⟩
  have hy2 := keepB (hb2 _) hy
  have sX := kept hy (h1_0 x _)
  have hlt : x.heap.size < y.heap.size := (Array.getElem?_eq_some_iff.1 sX).1
  obtain ⟨r0, r1, r2, r3, r4, r5⟩ := held6 sX
  have hy3 : ∀ o, Below w.heap.size w (y.alloc o) := fun o => keepB hy2 (below_one _ _)
  clear c cs sX
  go_wp2_with fail
  refine (cN Y hday.y0 hday.y1 _ (hT.next (hy3 _))).mono ?_
  rintro e z ⟨⟨b, hbest, rfl⟩, hz⟩
  have hz2 := keepB (hy3 _) hz
  have hfin := Best.wide ⟨2000, hd⟩ hday.y0 hday.y1 (x := n) (by omega) (by omega) hbest
  clear cN hbest
  go_wp2
  go_ret2
  exact ⟨⟨b, hfin, rfl⟩, hz2⟩
end Go.Proofs.YtpocbaaogkabeaaDoor.Ner
