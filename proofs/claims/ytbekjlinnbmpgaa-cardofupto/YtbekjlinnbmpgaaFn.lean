/- Fields of a message: its track, its number, its month: the program's and the document's. -/
import Derived.Test.YtbekjlinnbmpgaaFs
import Derived.Test.YtbekjlinnbmpgaaKv
namespace Go.Proofs.Ytbekjlinnbmpgaa.Fn
set_option linter.unusedVariables false
open Go.RowKit Lib0 Kp Kb Kd Kt Ks Kw Ku Kx Kv Fs
/-- the four texts of a track -/
def rtS (s : ByteArray) : ByteArray × ByteArray × ByteArray × ByteArray :=
  if 37 < s.size then (⟨#[]⟩, ⟨#[]⟩, ⟨#[]⟩, ⟨#[]⟩) else match tr s with
  | .ok (p, x, v) => (s.extract 0 p, um (s.extract (p + 1) x), um (s.extract x v), s.extract v s.size)
  | .error k => (⟨#[]⟩, ⟨#[]⟩, ⟨#[]⟩, ⟨#[]⟩)
theorem rtV_S (s : ByteArray) : ∃ e k : Int, rtV s = .tuple #[.agg #[.string (rtS s).1, .string (rtS s).2.1, .string (rtS s).2.2.1, .string (rtS s).2.2.2], .int .i64 e, .int .i64 k] := by
  unfold rtV rt rtS
  split
  · exact ⟨52, 37, rfl⟩
  · match tr s with
    | .ok (p, x, v) => exact ⟨0, 0, rfl⟩
    | .error k => exact ⟨52, k, rfl⟩
def tkS (z : List Fv) : ByteArray × ByteArray × ByteArray × ByteArray := rtS (lookF z 35).1
def numR (z : List Fv) : ByteArray := if (lookF z 2).2 then (lookF z 2).1 else (tkS z).1
def expR (z : List Fv) : ByteArray := if (lookF z 14).2 then (lookF z 14).1 else (tkS z).2.1
theorem lookF_size {w : World} {v : Value} {z : List Fv} (h : Lies w v z) (n : Int) : (lookF z n).1.size ≤ 4194304 := by
  obtain ⟨o, cap, e0, hc⟩ := h
  have hs : ∀ f ∈ z, f.val.size ≤ 4194304 := by
    intro f hf
    obtain ⟨i, hi, rfl⟩ := List.getElem_of_mem hf
    obtain ⟨a, _, _, h2⟩ := hc i hi
    exact h2
  clear hc e0
  induction z with
  | nil => exact Nat.zero_le _
  | cons f z ih =>
    unfold lookF
    split
    · exact hs f (by simp)
    · exact ih (fun g hg => hs g (by simp [hg]))
theorem fA (A B C D : ByteArray) (w : World) : (Instr.field 35 (.agg #[.string A, .string B, .string C, .string D]) 0).run Try.prog w = .ok (.string A) w := by kernel_rfl
theorem fB (A B C D : ByteArray) (w : World) : (Instr.field 35 (.agg #[.string A, .string B, .string C, .string D]) 1).run Try.prog w = .ok (.string B) w := by kernel_rfl
theorem shape {w : World} {v : Value} {z : List Fv} (h : Lies w v z) : ∃ o cap, v = .slice o z.length cap := by
  obtain ⟨o, cap, e, _⟩ := h
  exact ⟨o, cap, e⟩
set_option maxRecDepth 100000 in
set_option maxHeartbeats 800000 in
theorem track_any (m : ByteArray) (v : Value) (z : List Fv) (w : World) (hz : Lies w v z) (hl : z.length ≤ 1048576) :
    Calls Try.prog 18 #[.agg #[.string m, v]] w fun e w' => e = .returned (.agg #[.string (tkS z).1, .string (tkS z).2.1, .string (tkS z).2.2.1, .string (tkS z).2.2.2]) ∧ Below w.heap.size w w' := by
  have p1 := fun (y : World) (h : Lies y v z) => value_any m v z 35 y h hl
  have p2 := fun y => Kr.readr_any (lookF z 35).1 y
  obtain ⟨e, k, hr⟩ := rtV_S (lookF z 35).1
  rw [hr] at p2
  unfold tkS
  generalize (rtS (lookF z 35).1).1 = A at *
  generalize (rtS (lookF z 35).1).2.1 = B at *
  generalize (rtS (lookF z 35).1).2.2.1 = C at *
  generalize (rtS (lookF z 35).1).2.2.2 = D at *
  unfold lkV at p1
  generalize (lookF z 35).1 = X at *
  generalize (lookF z 35).2 = ok at *
  obtain ⟨o, cap, rfl⟩ := shape hz
  generalize z.length = N at *
  have m0 := h2_0 w (Obj.cells #[.string m, .slice o N cap] 24) (Obj.cells #[.string ⟨#[]⟩, .string ⟨#[]⟩, .string ⟨#[]⟩, .string ⟨#[]⟩] 35)
  have t0 := h2_1 w (Obj.cells #[.string m, .slice o N cap] 24) (Obj.cells #[.string ⟨#[]⟩, .string ⟨#[]⟩, .string ⟨#[]⟩, .string ⟨#[]⟩] 35)
  have b0 := below_two w (Obj.cells #[.string m, .slice o N cap] 24) (Obj.cells #[.string ⟨#[]⟩, .string ⟨#[]⟩, .string ⟨#[]⟩, .string ⟨#[]⟩] 35)
  obtain ⟨c0, c1, f0, f1⟩ := held2 (Below.refl _ _) m0
  go_enter Try.func18, Try.ntmps18
  go_wp2_with fail
  refine (p1 _ (lies_below hz b0)).mono ?_
  rintro ee y1 ⟨rfl, h1⟩
  have t1 := kept h1 t0
  have b1 := keepB b0 h1
  clear c0 c1 f0 f1 m0 t0 b0 h1
  go_wp2_with fail
  refine (p2 _).mono ?_
  rintro ee y2 ⟨rfl, h2⟩
  have t2 := kept1 (kept h2 t1) (Obj.cells #[.string A, .string B, .string C, .string D] 35)
  have n2 := h1_0 y2 (Obj.cells #[.string A, .string B, .string C, .string D] 35)
  have b2 := keepB (keepB b1 h2) (below_one y2 (Obj.cells #[.string A, .string B, .string C, .string D] 35))
  clear t1 b1 h2
  obtain ⟨⟨c0, c1, c2, c3⟩, ⟨f0, f1, f2, f3⟩⟩ := held4 t2
  obtain ⟨⟨d0, d1, d2, d3⟩, ⟨g0, g1, g2, g3⟩⟩ := held4 n2
  go_wp2
  have t3 := set4 t2 (.string A) (.string B) (.string C) (.string D)
  have b3 := below4 b2 (show w.heap.size ≤ w.heap.size + 1 by omega) (.string A) (.string B) (.string C) (.string D)
  exact bodyPost_ret (v := .agg #[.string A, .string B, .string C, .string D]) (results_cell_row (fn := Try.f18) (p := 2) rfl _ _ (w.heap.size + 1) 35 _ _ _ rfl t3 Try.underlying35 rfl (trk_size _ _ _ _)) rfl ⟨rfl, b3⟩
set_option maxRecDepth 100000 in
set_option maxHeartbeats 800000 in
theorem trackOf_any (m : ByteArray) (v : Value) (z : List Fv) (w : World) (hz : Lies w v z) (hl : z.length ≤ 1048576) :
    Calls Try.prog 23 #[.agg #[.string m, v]] w fun e w' => e = .returned (.agg #[.string (tkS z).1, .string (tkS z).2.1, .string (tkS z).2.2.1, .string (tkS z).2.2.2]) ∧ Below w.heap.size w w' := by
  have p1 := fun (y : World) (h : Lies y v z) => valueOf_any m v z 35 y h hl
  have p2 := fun y => read_any (lookF z 35).1 y
  obtain ⟨e, k, hr⟩ := rtV_S (lookF z 35).1
  rw [hr] at p2
  unfold tkS
  generalize (rtS (lookF z 35).1).1 = A at *
  generalize (rtS (lookF z 35).1).2.1 = B at *
  generalize (rtS (lookF z 35).1).2.2.1 = C at *
  generalize (rtS (lookF z 35).1).2.2.2 = D at *
  unfold lkV at p1
  generalize (lookF z 35).1 = X at *
  generalize (lookF z 35).2 = ok at *
  obtain ⟨o, cap, rfl⟩ := shape hz
  generalize z.length = N at *
  have m0 := h2_0 w (Obj.cells #[.string m, .slice o N cap] 24) (Obj.cells #[.string ⟨#[]⟩, .string ⟨#[]⟩, .string ⟨#[]⟩, .string ⟨#[]⟩] 35)
  have t0 := h2_1 w (Obj.cells #[.string m, .slice o N cap] 24) (Obj.cells #[.string ⟨#[]⟩, .string ⟨#[]⟩, .string ⟨#[]⟩, .string ⟨#[]⟩] 35)
  have b0 := below_two w (Obj.cells #[.string m, .slice o N cap] 24) (Obj.cells #[.string ⟨#[]⟩, .string ⟨#[]⟩, .string ⟨#[]⟩, .string ⟨#[]⟩] 35)
  obtain ⟨c0, c1, f0, f1⟩ := held2 (Below.refl _ _) m0
  go_enter Try.func23, Try.ntmps23
  go_wp2_with fail
  refine (p1 _ (lies_below hz b0)).mono ?_
  rintro ee y1 ⟨rfl, h1⟩
  have t1 := kept h1 t0
  have b1 := keepB b0 h1
  clear c0 c1 f0 f1 m0 t0 b0 h1
  go_wp2_with fail
  refine (p2 _).mono ?_
  rintro ee y2 ⟨rfl, h2⟩
  have t2 := kept1 (kept h2 t1) (Obj.cells #[.string A, .string B, .string C, .string D] 35)
  have n2 := h1_0 y2 (Obj.cells #[.string A, .string B, .string C, .string D] 35)
  have b2 := keepB (keepB b1 h2) (below_one y2 (Obj.cells #[.string A, .string B, .string C, .string D] 35))
  clear t1 b1 h2
  obtain ⟨⟨c0, c1, c2, c3⟩, ⟨f0, f1, f2, f3⟩⟩ := held4 t2
  obtain ⟨⟨d0, d1, d2, d3⟩, ⟨g0, g1, g2, g3⟩⟩ := held4 n2
  go_wp2
  have t3 := set4 t2 (.string A) (.string B) (.string C) (.string D)
  have b3 := below4 b2 (show w.heap.size ≤ w.heap.size + 1 by omega) (.string A) (.string B) (.string C) (.string D)
  exact bodyPost_ret (v := .agg #[.string A, .string B, .string C, .string D]) (results_cell_row (fn := Try.f23) (p := 2) rfl _ _ (w.heap.size + 1) 35 _ _ _ rfl t3 Try.underlying35 rfl (trk_size _ _ _ _)) rfl ⟨rfl, b3⟩
set_option maxRecDepth 100000 in
set_option maxHeartbeats 800000 in
theorem numr_any (m : ByteArray) (v : Value) (z : List Fv) (w : World) (hz : Lies w v z) (hl : z.length ≤ 1048576) :
    Calls Try.prog 5 #[.agg #[.string m, v]] w fun e w' => e = .returned (.string (numR z)) ∧ Below w.heap.size w w' := by
  have p1 := fun (y : World) (h : Lies y v z) => value_any m v z 2 y h hl
  have p2 := fun (y : World) (h : Lies y v z) => track_any m v z y h hl
  have hX := lookF_size hz 2
  have HR : Hid (numR z = if (lookF z 2).2 then (lookF z 2).1 else (tkS z).1) := rfl
  generalize numR z = R at *
  generalize (tkS z).1 = A at *
  generalize (tkS z).2.1 = B at *
  generalize (tkS z).2.2.1 = C at *
  generalize (tkS z).2.2.2 = D at *
  unfold lkV at p1
  generalize (lookF z 2).1 = X at *
  generalize (lookF z 2).2 = ok at *
  have pc := fun y => clone_any X y hX
  have fa := fA A B C D
  have fb := fB A B C D
  obtain ⟨o, cap, rfl⟩ := shape hz
  generalize z.length = N at *
  have m0 := h1_0 w (Obj.cells #[.string m, .slice o N cap] 24)
  have b0 := below_one w (Obj.cells #[.string m, .slice o N cap] 24)
  obtain ⟨c0, c1, f0, f1⟩ := held2 (Below.refl _ _) m0
  go_enter Try.func5, Try.ntmps5
  go_wp2_with fail
  refine (p1 _ (lies_below hz b0)).mono ?_
  rintro ee y1 ⟨rfl, h1⟩
  have m1 := kept h1 m0
  have b1 := keepB b0 h1
  clear c0 c1 f0 f1 m0 b0 h1
  obtain ⟨c0, c1, f0, f1⟩ := held2 (Below.refl _ _) m1
  cases ok
  · replace HR : Hid (R = A) := HR
    go_wp2_with fail
    refine (p2 _ (lies_below hz b1)).mono ?_
    rintro ee y2 ⟨rfl, h2⟩
    go_wp2
    go_ret
    exact ⟨by rw [HR.out]; rfl, keepB b1 h2⟩
  · replace HR : Hid (R = X) := HR
    go_wp2
    go_ret
    exact ⟨by rw [HR.out]; rfl, b1⟩
set_option maxRecDepth 100000 in
set_option maxHeartbeats 800000 in
theorem expr_any (m : ByteArray) (v : Value) (z : List Fv) (w : World) (hz : Lies w v z) (hl : z.length ≤ 1048576) :
    Calls Try.prog 6 #[.agg #[.string m, v]] w fun e w' => e = .returned (.string (expR z)) ∧ Below w.heap.size w w' := by
  have p1 := fun (y : World) (h : Lies y v z) => value_any m v z 14 y h hl
  have p2 := fun (y : World) (h : Lies y v z) => track_any m v z y h hl
  have hX := lookF_size hz 14
  have HR : Hid (expR z = if (lookF z 14).2 then (lookF z 14).1 else (tkS z).2.1) := rfl
  generalize expR z = R at *
  generalize (tkS z).1 = A at *
  generalize (tkS z).2.1 = B at *
  generalize (tkS z).2.2.1 = C at *
  generalize (tkS z).2.2.2 = D at *
  unfold lkV at p1
  generalize (lookF z 14).1 = X at *
  generalize (lookF z 14).2 = ok at *
  have pc := fun y => clone_any X y hX
  have fa := fA A B C D
  have fb := fB A B C D
  obtain ⟨o, cap, rfl⟩ := shape hz
  generalize z.length = N at *
  have m0 := h1_0 w (Obj.cells #[.string m, .slice o N cap] 24)
  have b0 := below_one w (Obj.cells #[.string m, .slice o N cap] 24)
  obtain ⟨c0, c1, f0, f1⟩ := held2 (Below.refl _ _) m0
  go_enter Try.func6, Try.ntmps6
  go_wp2_with fail
  refine (p1 _ (lies_below hz b0)).mono ?_
  rintro ee y1 ⟨rfl, h1⟩
  have m1 := kept h1 m0
  have b1 := keepB b0 h1
  clear c0 c1 f0 f1 m0 b0 h1
  obtain ⟨c0, c1, f0, f1⟩ := held2 (Below.refl _ _) m1
  cases ok
  · replace HR : Hid (R = B) := HR
    go_wp2_with fail
    refine (p2 _ (lies_below hz b1)).mono ?_
    rintro ee y2 ⟨rfl, h2⟩
    go_wp2
    go_ret
    exact ⟨by rw [HR.out]; rfl, keepB b1 h2⟩
  · replace HR : Hid (R = X) := HR
    go_wp2
    go_ret
    exact ⟨by rw [HR.out]; rfl, b1⟩
set_option maxRecDepth 100000 in
set_option maxHeartbeats 800000 in
theorem num_any (m : ByteArray) (v : Value) (z : List Fv) (w : World) (hz : Lies w v z) (hl : z.length ≤ 1048576) :
    Calls Try.prog 9 #[.agg #[.string m, v]] w fun e w' => e = .returned (.string (numR z)) ∧ Below w.heap.size w w' := by
  have p1 := fun (y : World) (h : Lies y v z) => valueOf_any m v z 2 y h hl
  have p2 := fun (y : World) (h : Lies y v z) => trackOf_any m v z y h hl
  have hX := lookF_size hz 2
  have HR : Hid (numR z = if (lookF z 2).2 then (lookF z 2).1 else (tkS z).1) := rfl
  generalize numR z = R at *
  generalize (tkS z).1 = A at *
  generalize (tkS z).2.1 = B at *
  generalize (tkS z).2.2.1 = C at *
  generalize (tkS z).2.2.2 = D at *
  unfold lkV at p1
  generalize (lookF z 2).1 = X at *
  generalize (lookF z 2).2 = ok at *
  have pc := fun y => clone_any X y hX
  have fa := fA A B C D
  have fb := fB A B C D
  obtain ⟨o, cap, rfl⟩ := shape hz
  generalize z.length = N at *
  have m0 := h1_0 w (Obj.cells #[.string m, .slice o N cap] 24)
  have b0 := below_one w (Obj.cells #[.string m, .slice o N cap] 24)
  obtain ⟨c0, c1, f0, f1⟩ := held2 (Below.refl _ _) m0
  go_enter Try.func9, Try.ntmps9
  go_wp2_with fail
  refine (p1 _ (lies_below hz b0)).mono ?_
  rintro ee y1 ⟨rfl, h1⟩
  have m1 := kept h1 m0
  have b1 := keepB b0 h1
  clear c0 c1 f0 f1 m0 b0 h1
  obtain ⟨c0, c1, f0, f1⟩ := held2 (Below.refl _ _) m1
  cases ok
  · replace HR : Hid (R = A) := HR
    go_wp2_with fail
    refine (p2 _ (lies_below hz b1)).mono ?_
    rintro ee y2 ⟨rfl, h2⟩
    go_wp2
    go_ret
    exact ⟨by rw [HR.out]; rfl, keepB b1 h2⟩
  · replace HR : Hid (R = X) := HR
    go_wp2_with fail
    refine (pc _).mono ?_
    rintro ee y2 ⟨rfl, h2⟩
    go_wp2
    go_ret
    exact ⟨by rw [HR.out]; rfl, keepB b1 h2⟩
set_option maxRecDepth 100000 in
set_option maxHeartbeats 800000 in
theorem exp_any (m : ByteArray) (v : Value) (z : List Fv) (w : World) (hz : Lies w v z) (hl : z.length ≤ 1048576) :
    Calls Try.prog 10 #[.agg #[.string m, v]] w fun e w' => e = .returned (.string (expR z)) ∧ Below w.heap.size w w' := by
  have p1 := fun (y : World) (h : Lies y v z) => valueOf_any m v z 14 y h hl
  have p2 := fun (y : World) (h : Lies y v z) => trackOf_any m v z y h hl
  have hX := lookF_size hz 14
  have HR : Hid (expR z = if (lookF z 14).2 then (lookF z 14).1 else (tkS z).2.1) := rfl
  generalize expR z = R at *
  generalize (tkS z).1 = A at *
  generalize (tkS z).2.1 = B at *
  generalize (tkS z).2.2.1 = C at *
  generalize (tkS z).2.2.2 = D at *
  unfold lkV at p1
  generalize (lookF z 14).1 = X at *
  generalize (lookF z 14).2 = ok at *
  have pc := fun y => clone_any X y hX
  have fa := fA A B C D
  have fb := fB A B C D
  obtain ⟨o, cap, rfl⟩ := shape hz
  generalize z.length = N at *
  have m0 := h1_0 w (Obj.cells #[.string m, .slice o N cap] 24)
  have b0 := below_one w (Obj.cells #[.string m, .slice o N cap] 24)
  obtain ⟨c0, c1, f0, f1⟩ := held2 (Below.refl _ _) m0
  go_enter Try.func10, Try.ntmps10
  go_wp2_with fail
  refine (p1 _ (lies_below hz b0)).mono ?_
  rintro ee y1 ⟨rfl, h1⟩
  have m1 := kept h1 m0
  have b1 := keepB b0 h1
  clear c0 c1 f0 f1 m0 b0 h1
  obtain ⟨c0, c1, f0, f1⟩ := held2 (Below.refl _ _) m1
  cases ok
  · replace HR : Hid (R = B) := HR
    go_wp2_with fail
    refine (p2 _ (lies_below hz b1)).mono ?_
    rintro ee y2 ⟨rfl, h2⟩
    go_wp2
    go_ret
    exact ⟨by rw [HR.out]; rfl, keepB b1 h2⟩
  · replace HR : Hid (R = X) := HR
    go_wp2_with fail
    refine (pc _).mono ?_
    rintro ee y2 ⟨rfl, h2⟩
    go_wp2
    go_ret
    exact ⟨by rw [HR.out]; rfl, keepB b1 h2⟩
end Go.Proofs.Ytbekjlinnbmpgaa.Fn
