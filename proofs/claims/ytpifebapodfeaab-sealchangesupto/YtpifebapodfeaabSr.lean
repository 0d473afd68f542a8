/- Slots: NewSlots, Put. -/
import Derived.Test.YtpifebapodfeaabSq
namespace Go.Proofs.Ytpifebapodfeaab.Sr
set_option linter.unusedVariables false
open Go.RowKit Pla Cb Sm Wd Nw Bk Eb Et Cc Ch Pm Fp Sp Pe Se Tg Sd Sq
theorem infoH : (Try.prog.info? 62).map (fun i => (i.zero, i.size, i.bytes)) = some (some (.agg #[.pointer Option.none, .pointer Option.none, .int .i64 0]), 3, 24) := by kernel_rfl
def emp : Nat → Option Held := fun _ => Option.none
theorem made3 (n : Nat) : (madeCells #[.pointer Option.none, .pointer Option.none, .int .i64 0] (n * 3)).size = 3 * n ∧ ∀ i, i < n → (madeCells #[.pointer Option.none, .pointer Option.none, .int .i64 0] (n * 3))[i * 3]? = some (.pointer Option.none) ∧ (madeCells #[.pointer Option.none, .pointer Option.none, .int .i64 0] (n * 3))[i * 3 + 1]? = some (.pointer Option.none) ∧ (madeCells #[.pointer Option.none, .pointer Option.none, .int .i64 0] (n * 3))[i * 3 + 2]? = some (.int .i64 0) := by
  refine ⟨by rw [size_madeCells]; omega, fun i hi => ?_⟩
  refine ⟨?_, ?_, ?_⟩
  · simp [madeCells, show i * 3 < n * 3 by omega]
  · simp [madeCells, show i * 3 + 1 < n * 3 by omega, show (i * 3 + 1) % 3 = 1 by omega]
  · simp [madeCells, show i * 3 + 2 < n * 3 by omega, show (i * 3 + 2) % 3 = 2 by omega]
theorem new_bad (a : Int) (h : a < 1 ∨ 32 < a) (w : World) : Calls Try.prog 7 #[.int .i64 a] w fun e w' => e = .returned (.tuple #[.pointer Option.none, .int .i64 1]) ∧ w' = w := by
  by_cases h1 : a < 1
  · go_enter Try.func7, Try.ntmps7
    go_wp2
    exact bodyPost_ret (v := .tuple #[.pointer Option.none, .int .i64 1]) (by simp [results, Try.results7, go_sem]) rfl ⟨rfl, rfl⟩
  · have h2 : a > 32 := by omega
    clear h
    go_enter Try.func7, Try.ntmps7
    go_wp2
    exact bodyPost_ret (v := .tuple #[.pointer Option.none, .int .i64 1]) (by simp [results, Try.results7, go_sem]) rfl ⟨rfl, rfl⟩
set_option maxRecDepth 100000 in
set_option maxHeartbeats 1600000 in
theorem new_good (n : Nat) (h1 : 1 ≤ n) (h2 : n ≤ 32) (w : World) : Calls Try.prog 7 #[.int .i64 (n : Int)] w fun e w' => ∃ b d, e = .returned (.tuple #[.pointer (some ⟨b, 0, Option.none⟩), .int .i64 0]) ∧ w.heap.size ≤ b ∧ w.heap.size ≤ d ∧ Slots w' b d n emp ∧ Below w.heap.size w w' := by
  obtain ⟨i0, hi, hz0, hz1, hz2⟩ := info_parts infoH
  have q1 : ¬ (n : Int) < 1 := by omega
  have q2 : ¬ (n : Int) > 32 := by omega
  have hmk := run_make (P := Try.prog) w 46 62 i0 _ Try.underlying46 hi hz0 .i64 .i64 (n : Int) (n : Int) (by omega) (by omega) (by rw [hz2]; omega) (by omega)
  rw [hz1, Int.toNat_natCast] at hmk
  have hc : (Value.agg #[.pointer Option.none, .pointer Option.none, .int .i64 0]).cells = #[.pointer Option.none, .pointer Option.none, .int .i64 0] := rfl
  rw [hc] at hmk
  obtain ⟨ms, mc⟩ := made3 n
  generalize madeCells #[.pointer Option.none, .pointer Option.none, .int .i64 0] (n * 3) = A at *
  have hd := h2_0 w (Obj.cells A 62) (Obj.cells #[.int .i32 0, .int .u32 0, .slice (some ⟨w.heap.size, 0, Option.none⟩) n n] 55)
  have hb := h2_1 w (Obj.cells A 62) (Obj.cells #[.int .i32 0, .int .u32 0, .slice (some ⟨w.heap.size, 0, Option.none⟩) n n] 55)
  have hbl := below_two w (Obj.cells A 62) (Obj.cells #[.int .i32 0, .int .u32 0, .slice (some ⟨w.heap.size, 0, Option.none⟩) n n] 55)
  go_enter Try.func7, Try.ntmps7
  go_wp2
  exact bodyPost_ret (v := .tuple #[.pointer (some ⟨w.heap.size + 1, 0, Option.none⟩), .int .i64 0]) (by simp [results, Try.results7, go_sem]) rfl ⟨_, rfl, Nat.le_succ _, _, Nat.le_refl _, ⟨hb, h1, h2, A, ms, hd, fun i hi => by obtain ⟨m1, m2, m3⟩ := mc i hi; exact ⟨_, _, _, m1, m2, m3, rfl, rfl, rfl⟩⟩, hbl⟩
/-- the exchange key -/
theorem ex_none (w : World) (x : ByteArray) (h : x.size = 0) : Calls Try.prog 22 #[.string x] w fun e w' => e = .returned (.tuple #[.pointer Option.none, .int .i64 0]) ∧ w' = w := by
  have q : ((x.size : Int) == 0) = true := by rw [h]; rfl
  clear h
  go_enter Try.func22, Try.ntmps22
  go_wp2
  exact bodyPost_ret (v := .tuple #[.pointer Option.none, .int .i64 0]) (by simp [results, Try.results22, go_sem]) rfl ⟨rfl, rfl⟩
theorem ex_bad (w : World) (x : ByteArray) (h0 : x.size ≠ 0) (h16 : x.size ≠ 16) : Calls Try.prog 22 #[.string x] w fun e w' => e = .returned (.tuple #[.pointer Option.none, .int .i64 30]) ∧ w' = w := by
  have q : ((x.size : Int) == 0) = false := by simp only [beq_eq_false_iff_ne]; omega
  have q2 : ((x.size : Int) == 16) = false := by simp only [beq_eq_false_iff_ne]; omega
  clear h0 h16
  go_enter Try.func22, Try.ntmps22
  go_wp2
  exact bodyPost_ret (v := .tuple #[.pointer Option.none, .int .i64 30]) (by simp [results, Try.results22, go_sem]) rfl ⟨rfl, rfl⟩
theorem ex_some (w : World) (x : ByteArray) (h : x.size = 16) : Calls Try.prog 22 #[.string x] w fun e w' => ∃ g, e = .returned (.tuple #[.pointer (some ⟨g, 0, Option.none⟩), .int .i64 0]) ∧ Key w' g 2 x.data.toList ∧ Below w.heap.size w w' := by
  have q : ((x.size : Int) == 0) = false := by simp only [beq_eq_false_iff_ne]; omega
  have q2 : ((x.size : Int) == 16) = true := by rw [h]; rfl
  have NE := Nw.new_good x 2 (by show kindN x.size = 2; rw [h]; rfl) (by decide) (by decide)
  clear h
  go_enter Try.func22, Try.ntmps22
  go_wp2_with (go_at_call 12; refine (NE _).mono ?_; rintro e y ⟨g, rfl, hg, hy, hby⟩)
  exact bodyPost_ret (v := .tuple #[.pointer (some ⟨g, 0, Option.none⟩), .int .i64 0]) (by simp [results, Try.results22, go_sem]) rfl ⟨g, rfl, hy, hby⟩
def upd (f : Nat → Option Held) (s : Nat) (h : Option Held) : Nat → Option Held := fun i => if i = s then h else f i
/-- three cells written, and unlocked -/
theorem put_shut {w y : World} {b d n s : Nat} {f : Nat → Option Held} {A : Array Value} (hm : Mu w b d n 0) (n1 : 1 ≤ n) (n2 : n ≤ 32) (hr : Row w d n f A) (hs : s < n)
    (hy : Below (w.setCell ⟨b, 0, Option.none⟩ (.int .i32 1)).heap.size (w.setCell ⟨b, 0, Option.none⟩ (.int .i32 1)) y) (h : Held) (p x r : Value) (hh : Has y (Option.some h) p x r) :
    Mu (((y.setCell ⟨d, s * 3, Option.none⟩ p).setCell ⟨d, s * 3 + 1, Option.none⟩ x).setCell ⟨d, s * 3 + 2, Option.none⟩ r) b d n 1 ∧
    Slots ((((y.setCell ⟨d, s * 3, Option.none⟩ p).setCell ⟨d, s * 3 + 1, Option.none⟩ x).setCell ⟨d, s * 3 + 2, Option.none⟩ r).setCell ⟨b, 0, Option.none⟩ (.int .i32 0)) b d n (upd f s (Option.some h)) ∧
    Fr b d w ((((y.setCell ⟨d, s * 3, Option.none⟩ p).setCell ⟨d, s * 3 + 1, Option.none⟩ x).setCell ⟨d, s * 3 + 2, Option.none⟩ r).setCell ⟨b, 0, Option.none⟩ (.int .i32 0)) := by
  have hne := hm.ne hr.2.1
  obtain ⟨M1, R1⟩ := locked hm hr
  have F1 := Fr.set1 b d w 0 (.int .i32 1)
  generalize w.setCell ⟨b, 0, Option.none⟩ (.int .i32 1) = W1 at *
  have M2 : Mu y b d n 1 := Cb.kept hy M1
  have R2 : Row y d n f A := (Fr.of (b := b) (d := d) hy).row M1 R1 (Cb.kept hy R1.2.1)
  have F2 := ((Fr.set2 b d y (s * 3) p).trans (Fr.set2 b d _ (s * 3 + 1) x)).trans (Fr.set2 b d _ (s * 3 + 2) r)
  have d3 := setCell_heap (setCell_heap (setCell_heap R2.2.1 (s * 3) p) (s * 3 + 1) x) (s * 3 + 2) r
  have M3 : Mu (((y.setCell ⟨d, s * 3, Option.none⟩ p).setCell ⟨d, s * 3 + 1, Option.none⟩ x).setCell ⟨d, s * 3 + 2, Option.none⟩ r) b d n 1 :=
    (Below.heap_setCell _ ⟨d, s * 3 + 2, Option.none⟩ r b hne).trans ((Below.heap_setCell _ ⟨d, s * 3 + 1, Option.none⟩ x b hne).trans ((Below.heap_setCell _ ⟨d, s * 3, Option.none⟩ p b hne).trans M2))
  generalize ((y.setCell ⟨d, s * 3, Option.none⟩ p).setCell ⟨d, s * 3 + 1, Option.none⟩ x).setCell ⟨d, s * 3 + 2, Option.none⟩ r = Y at *
  have F3 := F2.trans (Fr.set1 b d Y 0 (.int .i32 0))
  have F4 := F1.trans ((Fr.of (b := b) (d := d) hy).trans F3)
  have d4 : (Y.setCell ⟨b, 0, Option.none⟩ (.int .i32 0)).heap[d]? = _ := (Below.heap_setCell Y ⟨b, 0, Option.none⟩ _ d hne.symm).trans d3
  refine ⟨M3, ⟨M3.set 0, n1, n2, _, ?_, d4, fun i hi => ?_⟩, F4⟩
  · simp [R2.1]
  · have sz := R2.1
    by_cases e : i = s
    · subst e
      refine ⟨p, x, r, ?_, ?_, ?_, ?_⟩
      · rw [Array.getElem?_setIfInBounds, if_neg (by omega), Array.getElem?_setIfInBounds, if_neg (by omega), Array.getElem?_setIfInBounds, if_pos rfl, if_pos (by omega)]
      · rw [Array.getElem?_setIfInBounds, if_neg (by omega), Array.getElem?_setIfInBounds, if_pos rfl, if_pos (by simp; omega)]
      · rw [Array.getElem?_setIfInBounds, if_pos rfl, if_pos (by simp; omega)]
      · rw [upd, if_pos rfl]; exact F3.has M2 R2.2.1 hh
    · obtain ⟨p', x', r', h1, h2, h3, h4⟩ := R2.2.2 i hi
      refine ⟨p', x', r', ?_, ?_, ?_, ?_⟩
      · rw [Array.getElem?_setIfInBounds, if_neg (by omega), Array.getElem?_setIfInBounds, if_neg (by omega), Array.getElem?_setIfInBounds, if_neg (by omega), h1]
      · rw [Array.getElem?_setIfInBounds, if_neg (by omega), Array.getElem?_setIfInBounds, if_neg (by omega), Array.getElem?_setIfInBounds, if_neg (by omega), h2]
      · rw [Array.getElem?_setIfInBounds, if_neg (by omega), Array.getElem?_setIfInBounds, if_neg (by omega), Array.getElem?_setIfInBounds, if_neg (by omega), h3]
      · rw [upd, if_neg e]; exact F3.has M2 R2.2.1 h4
open Go.MuLone in
set_option maxRecDepth 100000 in
set_option maxHeartbeats 1600000 in
theorem Put_good (b d n s : Nat) (f : Nat → Option Held) (hs : s < n) (alg m : Nat) (ha : alg = 1 ∨ alg = 3) (hm' : m = 1 ∨ m = 2) (key ex : ByteArray) (hk : key.size = 4 + 4 * alg) (hx : ex.size = 0 ∨ ex.size = 16) (w : World) (hS : Slots w b d n f) :
    Calls Try.prog 8 #[.pointer (some ⟨b, 0, Option.none⟩), .int .i64 (s : Int), .int .i64 (alg : Int), .int .i64 (m : Int), .string key, .string ex] w fun e w' => e = .returned (.int .i64 0) ∧ Slots w' b d n (upd f s (Option.some ⟨alg, m, key, ex, 0⟩)) ∧ Fr b d w w' := by
  obtain ⟨hm, n1, n2, A, hr⟩ := hS
  have ok : Held.Ok ⟨alg, m, key, ex, 0⟩ := ⟨ha, hm', hk, hx, Nat.zero_le _⟩
  have SH := fun y hy p x r hh => put_shut (y := y) hm n1 n2 hr hs hy ⟨alg, m, key, ex, 0⟩ p x r hh
  obtain ⟨m0, m2, mf⟩ := hm.cells
  obtain ⟨M1, R1⟩ := locked hm hr
  have LO := lock_free Lk.muLib ⟨b, 0, Option.none⟩ w m0 mf
  generalize w.setCell ⟨b, 0, Option.none⟩ (.int .i32 1) = W1 at *
  obtain ⟨k0, k2, kf⟩ := M1.cells
  obtain ⟨p, x, r, a0, a1, a2, hh⟩ := R1.2.2 s hs
  have AT := fun y hy => at_in b d n s hs n2 y hy
  have NE := fun y => new_any alg m ha hm' key hk y
  have CE : ∀ y : World, Below W1.heap.size W1 y → y.cell? ⟨d, s * 3, Option.none⟩ = some p ∧ y.cell? ⟨d, s * 3 + 1, Option.none⟩ = some x ∧ y.cell? ⟨d, s * 3 + 2, Option.none⟩ = some r ∧ y.frozen? ⟨d, s * 3, Option.none⟩ = false ∧ y.frozen? ⟨d, s * 3 + 1, Option.none⟩ = false ∧ y.frozen? ⟨d, s * 3 + 2, Option.none⟩ = false := by
    intro y hy
    have hd := Cb.kept hy R1.2.1
    exact ⟨by rw [cell_of_row y _ _ _ _ _ hd, a0], by rw [cell_of_row y _ _ _ _ _ hd, a1], by rw [cell_of_row y _ _ _ _ _ hd, a2], Pd.R_frozen hd _, Pd.R_frozen hd _, Pd.R_frozen hd _⟩
  by_cases hx0 : ex.size = 0
  · have EX := fun y => ex_none y ex hx0
    have FIN : ∀ y g, Below W1.heap.size W1 y → Sealed y g alg m key.data.toList → _ := fun y g hy sg => SH y hy (.pointer (some ⟨g, 0, Option.none⟩)) (.pointer Option.none) (.int .i64 0) ⟨ok, rfl, ⟨g, rfl, sg⟩, .inl ⟨hx0, rfl⟩⟩
    generalize upd f s (Option.some ⟨alg, m, key, ex, 0⟩) = f' at *
    generalize s * 3 = o at *
    clear hm hr R1 a0 a1 a2 hh SH hx hx0 ok ha hm' hk hs
    go_enter_defers Try.func8, Try.ntmps8
    go_wp2_with (first
      | (go_at_call 18; refine LO.mono ?_; rintro e w' ⟨rfl, rfl⟩)
      | (go_at_call 20; refine (AT _ k2).mono ?_; rintro e w' ⟨rfl, rfl⟩)
      | (go_at_call 21; refine (NE _).mono ?_; rintro e y ⟨g, rfl, hg, sg, hy⟩; obtain ⟨e0, e1, e2, f0, f1, f2⟩ := CE _ hy)
      | (go_at_call 22; refine (EX _).mono ?_; rintro e y2 ⟨rfl, rfl⟩))
    obtain ⟨M3, FS, FF⟩ := FIN _ g hy sg
    obtain ⟨j0, j2, jf⟩ := Mu.cells M3
    refine leaves_cons (f := 19) (args := #[.pointer (some ⟨b, 0, Option.none⟩)]) (by simp) (by simp [go_sem]) ?_
    refine (unlock_deferred Lk.muLib ⟨b, 0, Option.none⟩ .returning _ j0 jf).mono ?_
    rintro e u' w'' ⟨rfl, rfl, rfl⟩
    exact ⟨_, results_tmp rfl _ _ _, rfl, FS, FF⟩
  · have hx16 : ex.size = 16 := by omega
    have EX := fun y => ex_some y ex hx16
    have FIN : ∀ y g gx, Below W1.heap.size W1 y → Sealed y g alg m key.data.toList → Key y gx 2 ex.data.toList → _ := fun y g gx hy sg kx => SH y hy (.pointer (some ⟨g, 0, Option.none⟩)) (.pointer (some ⟨gx, 0, Option.none⟩)) (.int .i64 0) ⟨ok, rfl, ⟨g, rfl, sg⟩, .inr ⟨hx16, gx, rfl, kx⟩⟩
    generalize upd f s (Option.some ⟨alg, m, key, ex, 0⟩) = f' at *
    generalize s * 3 = o at *
    clear hm hr R1 a0 a1 a2 hh SH hx hx0 hx16 ok ha hm' hk hs
    go_enter_defers Try.func8, Try.ntmps8
    go_wp2_with (first
      | (go_at_call 18; refine LO.mono ?_; rintro e w' ⟨rfl, rfl⟩)
      | (go_at_call 20; refine (AT _ k2).mono ?_; rintro e w' ⟨rfl, rfl⟩)
      | (go_at_call 21; refine (NE _).mono ?_; rintro e y ⟨g, rfl, hg, sg, hy⟩)
      | (go_at_call 22; refine (EX _).mono ?_; rintro e y2 ⟨gx, rfl, kx, hy2⟩; have hyy := keepB hy hy2; obtain ⟨e0, e1, e2, f0, f1, f2⟩ := CE _ hyy))
    obtain ⟨M3, FS, FF⟩ := FIN _ g gx hyy (sg.kept hy2) kx
    obtain ⟨j0, j2, jf⟩ := Mu.cells M3
    refine leaves_cons (f := 19) (args := #[.pointer (some ⟨b, 0, Option.none⟩)]) (by simp) (by simp [go_sem]) ?_
    refine (unlock_deferred Lk.muLib ⟨b, 0, Option.none⟩ .returning _ j0 jf).mono ?_
    rintro e u' w'' ⟨rfl, rfl, rfl⟩
    exact ⟨_, results_tmp rfl _ _ _, rfl, FS, FF⟩
end Go.Proofs.Ytpifebapodfeaab.Sr
