import Derived.Test.YtpifebapodfeaaaGreatQ09
import Derived.BigRegion
/- Slots: Tag, Round, Right, Put, NewSlots. -/
namespace Go.Proofs.YtpifebapodfeaaaGreat.Sq
set_option linter.unusedVariables false
open Go.RowKit Pla Cb Sm Wd Nw Bk Eb Et Cc Ch Pm Fp Sp Pe Se Tg Sd
/-- there is no such slot, or it is empty -/
def No (n : Nat) (f : Nat → Option Held) (a : Int) : Prop := a < 0 ∨ (n : Int) ≤ a ∨ ∃ s : Nat, a = (s : Int) ∧ s < n ∧ f s = Option.none
open Go.MuLone in
set_option maxRecDepth 100000 in
set_option maxHeartbeats 1600000 in
theorem Tag_no (b d n : Nat) (f : Nat → Option Held) (a : Int) (ha : No n f a) (text : ByteArray) (w : World) (hS : Slots w b d n f) :
    Calls Tryz.prog 8 #[.pointer (some ⟨b, 0, Option.none⟩), .int .i64 a, .string text] w fun e w' => e = .returned (.tuple #[.string ⟨#[]⟩, .int .i64 40]) ∧ Slots w' b d n f ∧ Fr b d w w' := by
  obtain ⟨hm, n1, n2, A, hr⟩ := hS
  have SH := fun y hy => shut (y := y) hm n1 n2 hr hy
  obtain ⟨m0, m2, mf⟩ := hm.cells
  obtain ⟨M1, R1⟩ := locked hm hr
  have LO := lock_free Lk.muLib ⟨b, 0, Option.none⟩ w m0 mf
  generalize w.setCell ⟨b, 0, Option.none⟩ (.int .i32 1) = W1 at *
  obtain ⟨k0, k2, kf⟩ := M1.cells
  by_cases hr2 : a < 0 ∨ (n : Int) ≤ a
  · have AT := fun y hy => at_out b d n a hr2 n2 y hy
    clear hm hr R1 ha hr2
    go_enter_defers Tryz.func8, Tryz.ntmps8
    go_wp2_with (first
      | (go_at_call 20; refine LO.mono ?_; rintro e w' ⟨rfl, rfl⟩)
      | (go_at_call 22; refine (AT _ k2).mono ?_; rintro e w' ⟨rfl, rfl⟩))
    refine leaves_cons (f := 21) (args := #[.pointer (some ⟨b, 0, Option.none⟩)]) (by simp) (by simp [go_sem]) ?_
    refine (unlock_deferred Lk.muLib ⟨b, 0, Option.none⟩ .returning _ k0 kf).mono ?_
    rintro e u' w'' ⟨rfl, rfl, rfl⟩
    exact ⟨_, results_tmp2 rfl _ _ _, rfl, SH _ (Below.refl _ _)⟩
  · obtain ⟨s, rfl, hs, hf⟩ : ∃ s : Nat, a = (s : Int) ∧ s < n ∧ f s = Option.none := by
      rcases ha with h | h | h
      · exact absurd (.inl h) hr2
      · exact absurd (.inr h) hr2
      · exact h
    obtain ⟨p, x, r, a0, a1, a2, hh⟩ := R1.2.2 s hs
    rw [hf] at hh
    obtain ⟨rfl, rfl, rfl⟩ := hh
    have c0 : W1.cell? ⟨d, s * 3, Option.none⟩ = some (.pointer Option.none) := by rw [cell_of_row W1 _ _ _ _ _ R1.2.1, a0]
    have AT := fun y hy => at_in b d n s hs n2 y hy
    generalize s * 3 = o at *
    clear hm hr R1 a0 a1 a2 hs hr2 ha
    go_enter_defers Tryz.func8, Tryz.ntmps8
    go_wp2_with (first
      | (go_at_call 20; refine LO.mono ?_; rintro e w' ⟨rfl, rfl⟩)
      | (go_at_call 22; refine (AT _ k2).mono ?_; rintro e w' ⟨rfl, rfl⟩))
    refine leaves_cons (f := 21) (args := #[.pointer (some ⟨b, 0, Option.none⟩)]) (by simp) (by simp [go_sem]) ?_
    refine (unlock_deferred Lk.muLib ⟨b, 0, Option.none⟩ .returning _ k0 kf).mono ?_
    rintro e u' w'' ⟨rfl, rfl, rfl⟩
    exact ⟨_, results_tmp2 rfl _ _ _, rfl, SH _ (Below.refl _ _)⟩
/-- what Round tells -/
def roundOf : Option Held → Nat
  | Option.none => 0
  | Option.some h => h.round
open Go.MuLone in
set_option maxRecDepth 100000 in
set_option maxHeartbeats 1600000 in
theorem Round_in (b d n s : Nat) (f : Nat → Option Held) (hs : s < n) (w : World) (hS : Slots w b d n f) :
    Calls Tryz.prog 10 #[.pointer (some ⟨b, 0, Option.none⟩), .int .i64 (s : Int)] w fun e w' => e = .returned (.int .i64 (roundOf (f s) : Int)) ∧ Slots w' b d n f ∧ Fr b d w w' := by
  obtain ⟨hm, n1, n2, A, hr⟩ := hS
  have SH := fun y hy => shut (y := y) hm n1 n2 hr hy
  obtain ⟨m0, m2, mf⟩ := hm.cells
  obtain ⟨M1, R1⟩ := locked hm hr
  have LO := lock_free Lk.muLib ⟨b, 0, Option.none⟩ w m0 mf
  generalize w.setCell ⟨b, 0, Option.none⟩ (.int .i32 1) = W1 at *
  obtain ⟨k0, k2, kf⟩ := M1.cells
  obtain ⟨p, x, r, a0, a1, a2, hh⟩ := R1.2.2 s hs
  have er : r = .int .i64 (roundOf (f s) : Int) := by
    cases hfs : f s with
    | none => rw [hfs] at hh; exact hh.2.2
    | some h => rw [hfs] at hh; exact hh.2.1
  subst er
  have c0 : W1.cell? ⟨d, s * 3 + 2, Option.none⟩ = some (.int .i64 (roundOf (f s) : Int)) := by rw [cell_of_row W1 _ _ _ _ _ R1.2.1, a2]
  have AT := fun y hy => at_in b d n s hs n2 y hy
  generalize roundOf (f s) = ro at *
  generalize s * 3 = o at *
  clear hm hr R1 a0 a1 a2 hs hh
  go_enter_defers Tryz.func10, Tryz.ntmps10
  go_wp2_with (first
    | (go_at_call 20; refine LO.mono ?_; rintro e w' ⟨rfl, rfl⟩)
    | (go_at_call 22; refine (AT _ k2).mono ?_; rintro e w' ⟨rfl, rfl⟩))
  refine leaves_cons (f := 21) (args := #[.pointer (some ⟨b, 0, Option.none⟩)]) (by simp) (by simp [go_sem]) ?_
  refine (unlock_deferred Lk.muLib ⟨b, 0, Option.none⟩ .returning _ k0 kf).mono ?_
  rintro e u' w'' ⟨rfl, rfl, rfl⟩
  exact ⟨_, results_tmp rfl _ _ _, rfl, SH _ (Below.refl _ _)⟩
open Go.MuLone in
set_option maxRecDepth 100000 in
set_option maxHeartbeats 1600000 in
theorem Round_out (b d n : Nat) (f : Nat → Option Held) (a : Int) (ha : a < 0 ∨ (n : Int) ≤ a) (w : World) (hS : Slots w b d n f) :
    Calls Tryz.prog 10 #[.pointer (some ⟨b, 0, Option.none⟩), .int .i64 a] w fun e w' => e = .returned (.int .i64 0) ∧ Slots w' b d n f ∧ Fr b d w w' := by
  obtain ⟨hm, n1, n2, A, hr⟩ := hS
  have SH := fun y hy => shut (y := y) hm n1 n2 hr hy
  obtain ⟨m0, m2, mf⟩ := hm.cells
  obtain ⟨M1, R1⟩ := locked hm hr
  have LO := lock_free Lk.muLib ⟨b, 0, Option.none⟩ w m0 mf
  generalize w.setCell ⟨b, 0, Option.none⟩ (.int .i32 1) = W1 at *
  obtain ⟨k0, k2, kf⟩ := M1.cells
  have AT := fun y hy => at_out b d n a ha n2 y hy
  clear hm hr R1 ha
  go_enter_defers Tryz.func10, Tryz.ntmps10
  go_wp2_with (first
    | (go_at_call 20; refine LO.mono ?_; rintro e w' ⟨rfl, rfl⟩)
    | (go_at_call 22; refine (AT _ k2).mono ?_; rintro e w' ⟨rfl, rfl⟩))
  refine leaves_cons (f := 21) (args := #[.pointer (some ⟨b, 0, Option.none⟩)]) (by simp) (by simp [go_sem]) ?_
  refine (unlock_deferred Lk.muLib ⟨b, 0, Option.none⟩ .returning _ k0 kf).mono ?_
  rintro e u' w'' ⟨rfl, rfl, rfl⟩
  exact ⟨_, results_tmp rfl _ _ _, rfl, SH _ (Below.refl _ _)⟩
set_option maxRecDepth 100000 in
set_option maxHeartbeats 1600000 in
theorem Right_in (b d n s : Nat) (f : Nat → Option Held) (h : Held) (hs : s < n) (hf : f s = Option.some h) (text tag : ByteArray) (ht : text.size ≤ 1000000000) (w : World) (hS : Slots w b d n f) :
    Calls Tryz.prog 17 #[.pointer (some ⟨b, 0, Option.none⟩), .int .i64 (s : Int), .string text, .string tag] w fun e w' => e = .returned (.tuple #[.bool ((tagB h.alg h.m h.key text).toList == tag.toList), .int .i64 0]) ∧ Slots w' b d n f ∧ Fr b d w w' := by
  have TA := Tag_in b d n s f h hs hf text ht w hS
  have SA := fun y => Sa.same_any (tagB h.alg h.m h.key text) tag (by rw [tagB_size]; omega) y
  generalize tagB h.alg h.m h.key text = T at *
  clear hS hs
  go_enter Tryz.func17, Tryz.ntmps17
  go_wp2_with (first
    | (go_at_call 8; refine TA.mono ?_; rintro e y ⟨rfl, hy, fy⟩)
    | (go_at_call 29; refine (SA _).mono ?_; rintro e z ⟨rfl, hz⟩))
  obtain ⟨hm, n1, n2, A, hr⟩ := hy
  have F := Fr.of (b := b) (d := d) hz
  exact bodyPost_ret (v := .tuple #[.bool (T.toList == tag.toList), .int .i64 0]) (by simp [results, Tryz.results17, go_sem]) rfl ⟨rfl, ⟨Cb.kept hz hm, n1, n2, A, F.row hm hr (Cb.kept hz hr.2.1)⟩, fy.trans F⟩
theorem Right_no (b d n : Nat) (f : Nat → Option Held) (a : Int) (ha : No n f a) (text tag : ByteArray) (w : World) (hS : Slots w b d n f) :
    Calls Tryz.prog 17 #[.pointer (some ⟨b, 0, Option.none⟩), .int .i64 a, .string text, .string tag] w fun e w' => e = .returned (.tuple #[.bool false, .int .i64 40]) ∧ Slots w' b d n f ∧ Fr b d w w' := by
  have TA := Tag_no b d n f a ha text w hS
  clear hS ha
  go_enter Tryz.func17, Tryz.ntmps17
  go_wp2_with (go_at_call 8; refine TA.mono ?_; rintro e y ⟨rfl, hy, fy⟩)
  exact bodyPost_ret (v := .tuple #[.bool false, .int .i64 40]) (by simp [results, Tryz.results17, go_sem]) rfl ⟨rfl, hy, fy⟩
end Go.Proofs.YtpifebapodfeaaaGreat.Sq
/- Slots: NewSlots, Put. -/
namespace Go.Proofs.YtpifebapodfeaaaGreat.Sr
set_option linter.unusedVariables false
open Go.RowKit Pla Cb Sm Wd Nw Bk Eb Et Cc Ch Pm Fp Sp Pe Se Tg Sd Sq
theorem infoH : (Tryz.prog.info? 64).map (fun i => (i.zero, i.size, i.bytes)) = some (some (.agg #[.pointer Option.none, .pointer Option.none, .int .i64 0]), 3, 24) := by kernel_rfl
def emp : Nat → Option Held := fun _ => Option.none
theorem made3 (n : Nat) : (madeCells #[.pointer Option.none, .pointer Option.none, .int .i64 0] (n * 3)).size = 3 * n ∧ ∀ i, i < n → (madeCells #[.pointer Option.none, .pointer Option.none, .int .i64 0] (n * 3))[i * 3]? = some (.pointer Option.none) ∧ (madeCells #[.pointer Option.none, .pointer Option.none, .int .i64 0] (n * 3))[i * 3 + 1]? = some (.pointer Option.none) ∧ (madeCells #[.pointer Option.none, .pointer Option.none, .int .i64 0] (n * 3))[i * 3 + 2]? = some (.int .i64 0) := by
  refine ⟨by rw [size_madeCells]; omega, fun i hi => ?_⟩
  refine ⟨?_, ?_, ?_⟩
  · simp [madeCells, show i * 3 < n * 3 by omega]
  · simp [madeCells, show i * 3 + 1 < n * 3 by omega, show (i * 3 + 1) % 3 = 1 by omega]
  · simp [madeCells, show i * 3 + 2 < n * 3 by omega, show (i * 3 + 2) % 3 = 2 by omega]
theorem new_bad (a : Int) (h : a < 1 ∨ 32 < a) (w : World) : Calls Tryz.prog 4 #[.int .i64 a] w fun e w' => e = .returned (.tuple #[.pointer Option.none, .int .i64 1]) ∧ w' = w := by
  by_cases h1 : a < 1
  · go_enter Tryz.func4, Tryz.ntmps4
    go_wp2
    exact bodyPost_ret (v := .tuple #[.pointer Option.none, .int .i64 1]) (by simp [results, Tryz.results4, go_sem]) rfl ⟨rfl, rfl⟩
  · have h2 : a > 32 := by omega
    clear h
    go_enter Tryz.func4, Tryz.ntmps4
    go_wp2
    exact bodyPost_ret (v := .tuple #[.pointer Option.none, .int .i64 1]) (by simp [results, Tryz.results4, go_sem]) rfl ⟨rfl, rfl⟩
set_option maxRecDepth 100000 in
set_option maxHeartbeats 1600000 in
theorem new_good (n : Nat) (h1 : 1 ≤ n) (h2 : n ≤ 32) (w : World) : Calls Tryz.prog 4 #[.int .i64 (n : Int)] w fun e w' => ∃ b d, e = .returned (.tuple #[.pointer (some ⟨b, 0, Option.none⟩), .int .i64 0]) ∧ w.heap.size ≤ b ∧ w.heap.size ≤ d ∧ Slots w' b d n emp ∧ Below w.heap.size w w' := by
  obtain ⟨i0, hi, hz0, hz1, hz2⟩ := info_parts infoH
  have q1 : ¬ (n : Int) < 1 := by omega
  have q2 : ¬ (n : Int) > 32 := by omega
  have hmk := run_make (P := Tryz.prog) w 44 64 i0 _ Tryz.underlying44 hi hz0 .i64 .i64 (n : Int) (n : Int) (by omega) (by omega) (by rw [hz2]; omega) (by omega)
  rw [hz1, Int.toNat_natCast] at hmk
  have hc : (Value.agg #[.pointer Option.none, .pointer Option.none, .int .i64 0]).cells = #[.pointer Option.none, .pointer Option.none, .int .i64 0] := rfl
  rw [hc] at hmk
  obtain ⟨ms, mc⟩ := made3 n
  generalize madeCells #[.pointer Option.none, .pointer Option.none, .int .i64 0] (n * 3) = A at *
  have hd := h2_0 w (Obj.cells A 64) (Obj.cells #[.int .i32 0, .int .u32 0, .slice (some ⟨w.heap.size, 0, Option.none⟩) n n] 53)
  have hb := h2_1 w (Obj.cells A 64) (Obj.cells #[.int .i32 0, .int .u32 0, .slice (some ⟨w.heap.size, 0, Option.none⟩) n n] 53)
  have hbl := below_two w (Obj.cells A 64) (Obj.cells #[.int .i32 0, .int .u32 0, .slice (some ⟨w.heap.size, 0, Option.none⟩) n n] 53)
  go_enter Tryz.func4, Tryz.ntmps4
  go_wp2
  exact bodyPost_ret (v := .tuple #[.pointer (some ⟨w.heap.size + 1, 0, Option.none⟩), .int .i64 0]) (by simp [results, Tryz.results4, go_sem]) rfl ⟨_, rfl, Nat.le_succ _, _, Nat.le_refl _, ⟨hb, h1, h2, A, ms, hd, fun i hi => by obtain ⟨m1, m2, m3⟩ := mc i hi; exact ⟨_, _, _, m1, m2, m3, rfl, rfl, rfl⟩⟩, hbl⟩
/-- the exchange key -/
theorem ex_none (w : World) (x : ByteArray) (h : x.size = 0) : Calls Tryz.prog 27 #[.string x] w fun e w' => e = .returned (.tuple #[.pointer Option.none, .int .i64 0]) ∧ w' = w := by
  have q : ((x.size : Int) == 0) = true := by rw [h]; rfl
  clear h
  go_enter Tryz.func27, Tryz.ntmps27
  go_wp2
  exact bodyPost_ret (v := .tuple #[.pointer Option.none, .int .i64 0]) (by simp [results, Tryz.results27, go_sem]) rfl ⟨rfl, rfl⟩
theorem ex_bad (w : World) (x : ByteArray) (h0 : x.size ≠ 0) (h16 : x.size ≠ 16) : Calls Tryz.prog 27 #[.string x] w fun e w' => e = .returned (.tuple #[.pointer Option.none, .int .i64 30]) ∧ w' = w := by
  have q : ((x.size : Int) == 0) = false := by simp only [beq_eq_false_iff_ne]; omega
  have q2 : ((x.size : Int) == 16) = false := by simp only [beq_eq_false_iff_ne]; omega
  clear h0 h16
  go_enter Tryz.func27, Tryz.ntmps27
  go_wp2
  exact bodyPost_ret (v := .tuple #[.pointer Option.none, .int .i64 30]) (by simp [results, Tryz.results27, go_sem]) rfl ⟨rfl, rfl⟩
theorem ex_some (w : World) (x : ByteArray) (h : x.size = 16) : Calls Tryz.prog 27 #[.string x] w fun e w' => ∃ g, e = .returned (.tuple #[.pointer (some ⟨g, 0, Option.none⟩), .int .i64 0]) ∧ Key w' g 2 x.data.toList ∧ Below w.heap.size w w' := by
  have q : ((x.size : Int) == 0) = false := by simp only [beq_eq_false_iff_ne]; omega
  have q2 : ((x.size : Int) == 16) = true := by rw [h]; rfl
  have NE := Nw.new_good x 2 (by show kindN x.size = 2; rw [h]; rfl) (by decide) (by decide)
  clear h
  go_enter Tryz.func27, Tryz.ntmps27
  go_wp2_with (go_at_call 46; refine (NE _).mono ?_; rintro e y ⟨g, rfl, hg, hy, hby⟩)
  exact bodyPost_ret (v := .tuple #[.pointer (some ⟨g, 0, Option.none⟩), .int .i64 0]) (by simp [results, Tryz.results27, go_sem]) rfl ⟨g, rfl, hy, hby⟩
def upd (f : Nat → Option Held) (s : Nat) (h : Option Held) : Nat → Option Held := fun i => if i = s then h else f i
/-- three cells written, and unlocked -/
theorem put_shut {w y : World} {b d n s : Nat} {f : Nat → Option Held} {A : Array Value} (hm : Mu w b d n 0) (n1 : 1 ≤ n) (n2 : n ≤ 32) (hr : Row w d n f A) (hs : s < n)
    (hy : Below (w.setCell ⟨b, 0, Option.none⟩ (.int .i32 1)).heap.size (w.setCell ⟨b, 0, Option.none⟩ (.int .i32 1)) y) (h : Held) (p x r : Value) (hh : Has y (Option.some h) p x r) :
    Mu (((y.setCell ⟨d, s * 3, Option.none⟩ p).setCell ⟨d, s * 3 + 1, Option.none⟩ x).setCell ⟨d, s * 3 + 2, Option.none⟩ r) b d n 1 ∧
    Slots ((((y.setCell ⟨d, s * 3, Option.none⟩ p).setCell ⟨d, s * 3 + 1, Option.none⟩ x).setCell ⟨d, s * 3 + 2, Option.none⟩ r).setCell ⟨b, 0, Option.none⟩ (.int .i32 0)) b d n (upd f s (Option.some h)) ∧
    Fr b d w ((((y.setCell ⟨d, s * 3, Option.none⟩ p).setCell ⟨d, s * 3 + 1, Option.none⟩ x).setCell ⟨d, s * 3 + 2, Option.none⟩ r).setCell ⟨b, 0, Option.none⟩ (.int .i32 0)) := by
  have hne := hm.ne hr.2.1
  obtain ⟨M1, R1⟩ := locked hm hr
  have F1 := Fr.set1 b d w 0 (.int .i32 1)
  generalize w.setCell ⟨b, 0, Option.none⟩ (.int .i32 1) = W1 at *
  have M2 : Mu y b d n 1 := Cb.kept hy M1
  have R2 : Row y d n f A := (Fr.of (b := b) (d := d) hy).row M1 R1 (Cb.kept hy R1.2.1)
  have F2 := ((Fr.set2 b d y (s * 3) p).trans (Fr.set2 b d _ (s * 3 + 1) x)).trans (Fr.set2 b d _ (s * 3 + 2) r)
  have d3 := setCell_heap (setCell_heap (setCell_heap R2.2.1 (s * 3) p) (s * 3 + 1) x) (s * 3 + 2) r
  have M3 : Mu (((y.setCell ⟨d, s * 3, Option.none⟩ p).setCell ⟨d, s * 3 + 1, Option.none⟩ x).setCell ⟨d, s * 3 + 2, Option.none⟩ r) b d n 1 :=
    (Below.heap_setCell _ ⟨d, s * 3 + 2, Option.none⟩ r b hne).trans ((Below.heap_setCell _ ⟨d, s * 3 + 1, Option.none⟩ x b hne).trans ((Below.heap_setCell _ ⟨d, s * 3, Option.none⟩ p b hne).trans M2))
  generalize ((y.setCell ⟨d, s * 3, Option.none⟩ p).setCell ⟨d, s * 3 + 1, Option.none⟩ x).setCell ⟨d, s * 3 + 2, Option.none⟩ r = Y at *
  have F3 := F2.trans (Fr.set1 b d Y 0 (.int .i32 0))
  have F4 := F1.trans ((Fr.of (b := b) (d := d) hy).trans F3)
  have d4 : (Y.setCell ⟨b, 0, Option.none⟩ (.int .i32 0)).heap[d]? = _ := (Below.heap_setCell Y ⟨b, 0, Option.none⟩ _ d hne.symm).trans d3
  refine ⟨M3, ⟨M3.set 0, n1, n2, _, ?_, d4, fun i hi => ?_⟩, F4⟩
  · simp [R2.1]
  · have sz := R2.1
    by_cases e : i = s
    · subst e
      refine ⟨p, x, r, ?_, ?_, ?_, ?_⟩
      · rw [Array.getElem?_setIfInBounds, if_neg (by omega), Array.getElem?_setIfInBounds, if_neg (by omega), Array.getElem?_setIfInBounds, if_pos rfl, if_pos (by omega)]
      · rw [Array.getElem?_setIfInBounds, if_neg (by omega), Array.getElem?_setIfInBounds, if_pos rfl, if_pos (by simp; omega)]
      · rw [Array.getElem?_setIfInBounds, if_pos rfl, if_pos (by simp; omega)]
      · rw [upd, if_pos rfl]; exact F3.has M2 R2.2.1 hh
    · obtain ⟨p', x', r', h1, h2, h3, h4⟩ := R2.2.2 i hi
      refine ⟨p', x', r', ?_, ?_, ?_, ?_⟩
      · rw [Array.getElem?_setIfInBounds, if_neg (by omega), Array.getElem?_setIfInBounds, if_neg (by omega), Array.getElem?_setIfInBounds, if_neg (by omega), h1]
      · rw [Array.getElem?_setIfInBounds, if_neg (by omega), Array.getElem?_setIfInBounds, if_neg (by omega), Array.getElem?_setIfInBounds, if_neg (by omega), h2]
      · rw [Array.getElem?_setIfInBounds, if_neg (by omega), Array.getElem?_setIfInBounds, if_neg (by omega), Array.getElem?_setIfInBounds, if_neg (by omega), h3]
      · rw [upd, if_neg e]; exact F3.has M2 R2.2.1 h4
open Go.MuLone in
set_option maxRecDepth 100000 in
set_option maxHeartbeats 1600000 in
theorem Put_good (b d n s : Nat) (f : Nat → Option Held) (hs : s < n) (alg m : Nat) (ha : alg = 1 ∨ alg = 3) (hm' : m = 1 ∨ m = 2) (key ex : ByteArray) (hk : key.size = 4 + 4 * alg) (hx : ex.size = 0 ∨ ex.size = 16) (w : World) (hS : Slots w b d n f) :
    Calls Tryz.prog 13 #[.pointer (some ⟨b, 0, Option.none⟩), .int .i64 (s : Int), .int .i64 (alg : Int), .int .i64 (m : Int), .string key, .string ex] w fun e w' => e = .returned (.int .i64 0) ∧ Slots w' b d n (upd f s (Option.some ⟨alg, m, key, ex, 0⟩)) ∧ Fr b d w w' := by
  obtain ⟨hm, n1, n2, A, hr⟩ := hS
  have ok : Held.Ok ⟨alg, m, key, ex, 0⟩ := ⟨ha, hm', hk, hx, Nat.zero_le _⟩
  have SH := fun y hy p x r hh => put_shut (y := y) hm n1 n2 hr hs hy ⟨alg, m, key, ex, 0⟩ p x r hh
  obtain ⟨m0, m2, mf⟩ := hm.cells
  obtain ⟨M1, R1⟩ := locked hm hr
  have LO := lock_free Lk.muLib ⟨b, 0, Option.none⟩ w m0 mf
  generalize w.setCell ⟨b, 0, Option.none⟩ (.int .i32 1) = W1 at *
  obtain ⟨k0, k2, kf⟩ := M1.cells
  obtain ⟨p, x, r, a0, a1, a2, hh⟩ := R1.2.2 s hs
  have AT := fun y hy => at_in b d n s hs n2 y hy
  have NE := fun y => new_any alg m ha hm' key hk y
  have CE : ∀ y : World, Below W1.heap.size W1 y → y.cell? ⟨d, s * 3, Option.none⟩ = some p ∧ y.cell? ⟨d, s * 3 + 1, Option.none⟩ = some x ∧ y.cell? ⟨d, s * 3 + 2, Option.none⟩ = some r ∧ y.frozen? ⟨d, s * 3, Option.none⟩ = false ∧ y.frozen? ⟨d, s * 3 + 1, Option.none⟩ = false ∧ y.frozen? ⟨d, s * 3 + 2, Option.none⟩ = false := by
    intro y hy
    have hd := Cb.kept hy R1.2.1
    exact ⟨by rw [cell_of_row y _ _ _ _ _ hd, a0], by rw [cell_of_row y _ _ _ _ _ hd, a1], by rw [cell_of_row y _ _ _ _ _ hd, a2], Pd.R_frozen hd _, Pd.R_frozen hd _, Pd.R_frozen hd _⟩
  by_cases hx0 : ex.size = 0
  · have EX := fun y => ex_none y ex hx0
    have FIN : ∀ y g, Below W1.heap.size W1 y → Sealed y g alg m key.data.toList → _ := fun y g hy sg => SH y hy (.pointer (some ⟨g, 0, Option.none⟩)) (.pointer Option.none) (.int .i64 0) ⟨ok, rfl, ⟨g, rfl, sg⟩, .inl ⟨hx0, rfl⟩⟩
    generalize upd f s (Option.some ⟨alg, m, key, ex, 0⟩) = f' at *
    generalize s * 3 = o at *
    clear hm hr R1 a0 a1 a2 hh SH hx hx0 ok ha hm' hk hs
    go_enter_defers Tryz.func13, Tryz.ntmps13
    go_wp2_with (first
      | (go_at_call 20; refine LO.mono ?_; rintro e w' ⟨rfl, rfl⟩)
      | (go_at_call 22; refine (AT _ k2).mono ?_; rintro e w' ⟨rfl, rfl⟩)
      | (go_at_call 26; refine (NE _).mono ?_; rintro e y ⟨g, rfl, hg, sg, hy⟩; obtain ⟨e0, e1, e2, f0, f1, f2⟩ := CE _ hy)
      | (go_at_call 27; refine (EX _).mono ?_; rintro e y2 ⟨rfl, rfl⟩))
    obtain ⟨M3, FS, FF⟩ := FIN _ g hy sg
    obtain ⟨j0, j2, jf⟩ := Mu.cells M3
    refine leaves_cons (f := 21) (args := #[.pointer (some ⟨b, 0, Option.none⟩)]) (by simp) (by simp [go_sem]) ?_
    refine (unlock_deferred Lk.muLib ⟨b, 0, Option.none⟩ .returning _ j0 jf).mono ?_
    rintro e u' w'' ⟨rfl, rfl, rfl⟩
    exact ⟨_, results_tmp rfl _ _ _, rfl, FS, FF⟩
  · have hx16 : ex.size = 16 := by omega
    have EX := fun y => ex_some y ex hx16
    have FIN : ∀ y g gx, Below W1.heap.size W1 y → Sealed y g alg m key.data.toList → Key y gx 2 ex.data.toList → _ := fun y g gx hy sg kx => SH y hy (.pointer (some ⟨g, 0, Option.none⟩)) (.pointer (some ⟨gx, 0, Option.none⟩)) (.int .i64 0) ⟨ok, rfl, ⟨g, rfl, sg⟩, .inr ⟨hx16, gx, rfl, kx⟩⟩
    generalize upd f s (Option.some ⟨alg, m, key, ex, 0⟩) = f' at *
    generalize s * 3 = o at *
    clear hm hr R1 a0 a1 a2 hh SH hx hx0 hx16 ok ha hm' hk hs
    go_enter_defers Tryz.func13, Tryz.ntmps13
    go_wp2_with (first
      | (go_at_call 20; refine LO.mono ?_; rintro e w' ⟨rfl, rfl⟩)
      | (go_at_call 22; refine (AT _ k2).mono ?_; rintro e w' ⟨rfl, rfl⟩)
      | (go_at_call 26; refine (NE _).mono ?_; rintro e y ⟨g, rfl, hg, sg, hy⟩)
      | (go_at_call 27; refine (EX _).mono ?_; rintro e y2 ⟨gx, rfl, kx, hy2⟩; have hyy := keepB hy hy2; obtain ⟨e0, e1, e2, f0, f1, f2⟩ := CE _ hyy))
    obtain ⟨M3, FS, FF⟩ := FIN _ g gx hyy (sg.kept hy2) kx
    obtain ⟨j0, j2, jf⟩ := Mu.cells M3
    refine leaves_cons (f := 21) (args := #[.pointer (some ⟨b, 0, Option.none⟩)]) (by simp) (by simp [go_sem]) ?_
    refine (unlock_deferred Lk.muLib ⟨b, 0, Option.none⟩ .returning _ j0 jf).mono ?_
    rintro e u' w'' ⟨rfl, rfl, rfl⟩
    exact ⟨_, results_tmp rfl _ _ _, rfl, FS, FF⟩
end Go.Proofs.YtpifebapodfeaaaGreat.Sr
/- The document's slots: what lies in memory; NewSlots, at. -/
namespace Go.Proofs.YtpifebapodfeaaaGreat.Dd
set_option linter.unusedVariables false
open Go.RowKit Pla Cb Sm Wd Nw Bk Eb Et Cc Ch Pm Fp Sp Pe Se Tg Sd Sq Sr
/-- what one slot is -/
def dC : Option Held → Array Value
  | Option.none => #[.bool false, .int .i64 0, .int .i64 0, .string ⟨#[]⟩, .string ⟨#[]⟩, .int .i64 0]
  | Option.some h => #[.bool true, .int .i64 (h.alg : Int), .int .i64 (h.m : Int), .string h.key, .string h.ex, .int .i64 (h.round : Int)]
def hasB : Option Held → Bool
  | Option.none => false
  | Option.some _ => true
def DRow (w : World) (d n : Nat) (f : Nat → Option Held) (A : Array Value) : Prop := A.size = 6 * n ∧ w.heap[d]? = some (.cells A 67) ∧ ∀ i, i < n → ∀ j, j < 6 → A[i * 6 + j]? = (dC (f i))[j]?
def DMu (w : World) (b d n : Nat) : Prop := w.heap[b]? = some (.cells #[.slice (some ⟨d, 0, Option.none⟩) n n] 39)
def DSlots (w : World) (b d n : Nat) (f : Nat → Option Held) : Prop := DMu w b d n ∧ 1 ≤ n ∧ n ≤ 32 ∧ ∃ A, DRow w d n f A
theorem dslots_keep {a w : World} {b d n : Nat} {f : Nat → Option Held} (hS : DSlots a b d n f) (hb : w.heap[b]? = a.heap[b]?) (hd : w.heap[d]? = a.heap[d]?) : DSlots w b d n f := by
  obtain ⟨hm, n1, n2, A, h1, h2, h3⟩ := hS
  exact ⟨hb.trans hm, n1, n2, A, h1, hd.trans h2, h3⟩
theorem dslots_below {a w : World} {b d n : Nat} {f : Nat → Option Held} (h : Below a.heap.size a w) (hS : DSlots a b d n f) : DSlots w b d n f := by
  obtain ⟨hm, n1, n2, A, h1, h2, h3⟩ := hS
  exact ⟨Cb.kept h hm, n1, n2, A, h1, Cb.kept h h2, h3⟩
theorem dC_size (o : Option Held) : (dC o).size = 6 := by cases o <;> rfl
theorem infoD : (Tryz.prog.info? 67).map (fun i => (i.zero, i.size, i.bytes)) = some (some (.agg (dC Option.none)), 6, 64) := by kernel_rfl
theorem made6 (n : Nat) : (madeCells (dC Option.none) (n * 6)).size = 6 * n ∧ ∀ i, i < n → ∀ j, j < 6 → (madeCells (dC Option.none) (n * 6))[i * 6 + j]? = (dC Option.none)[j]? := by
  refine ⟨by rw [size_madeCells]; omega, fun i hi j hj => ?_⟩
  have h : i * 6 + j < n * 6 := by omega
  simp only [madeCells, Array.getElem?_map, Array.getElem?_range, h, if_true, Option.map_some]
  have e : (i * 6 + j) % (dC Option.none).size = j := by rw [dC_size]; omega
  rw [e, Array.getElem!_eq_getD, Array.getD_eq_getD_getElem?]
  have : j < (dC Option.none).size := by rw [dC_size]; exact hj
  rw [Array.getElem?_eq_getElem this]; rfl
theorem newr_bad (a : Int) (h : a < 1 ∨ 32 < a) (w : World) : Calls Tryz.prog 5 #[.int .i64 a] w fun e w' => e = .returned (.tuple #[.pointer Option.none, .int .i64 1]) ∧ w' = w := by
  by_cases h1 : a < 1
  · go_enter Tryz.func5, Tryz.ntmps5
    go_wp2
    exact bodyPost_ret (v := .tuple #[.pointer Option.none, .int .i64 1]) (by simp [results, Tryz.results5, go_sem]) rfl ⟨rfl, rfl⟩
  · have h2 : a > 32 := by omega
    clear h
    go_enter Tryz.func5, Tryz.ntmps5
    go_wp2
    exact bodyPost_ret (v := .tuple #[.pointer Option.none, .int .i64 1]) (by simp [results, Tryz.results5, go_sem]) rfl ⟨rfl, rfl⟩
set_option maxRecDepth 100000 in
set_option maxHeartbeats 1600000 in
theorem newr_good (n : Nat) (h1 : 1 ≤ n) (h2 : n ≤ 32) (w : World) : Calls Tryz.prog 5 #[.int .i64 (n : Int)] w fun e w' => ∃ b d, e = .returned (.tuple #[.pointer (some ⟨b, 0, Option.none⟩), .int .i64 0]) ∧ w.heap.size ≤ b ∧ w.heap.size ≤ d ∧ DSlots w' b d n emp ∧ Below w.heap.size w w' := by
  obtain ⟨i0, hi, hz0, hz1, hz2⟩ := info_parts infoD
  have q1 : ¬ (n : Int) < 1 := by omega
  have q2 : ¬ (n : Int) > 32 := by omega
  have hmk := run_make (P := Tryz.prog) w 37 67 i0 _ Tryz.underlying37 hi hz0 .i64 .i64 (n : Int) (n : Int) (by omega) (by omega) (by rw [hz2]; omega) (by omega)
  rw [hz1, Int.toNat_natCast] at hmk
  have hc : (Value.agg (dC Option.none)).cells = dC Option.none := rfl
  rw [hc] at hmk
  obtain ⟨ms, mc⟩ := made6 n
  generalize madeCells (dC Option.none) (n * 6) = A at *
  have hd := h2_0 w (Obj.cells A 67) (Obj.cells #[.slice (some ⟨w.heap.size, 0, Option.none⟩) n n] 39)
  have hb := h2_1 w (Obj.cells A 67) (Obj.cells #[.slice (some ⟨w.heap.size, 0, Option.none⟩) n n] 39)
  have hbl := below_two w (Obj.cells A 67) (Obj.cells #[.slice (some ⟨w.heap.size, 0, Option.none⟩) n n] 39)
  clear hc
  go_enter Tryz.func5, Tryz.ntmps5
  go_wp2
  exact bodyPost_ret (v := .tuple #[.pointer (some ⟨w.heap.size + 1, 0, Option.none⟩), .int .i64 0]) (by simp [results, Tryz.results5, go_sem]) rfl ⟨_, rfl, Nat.le_succ _, _, Nat.le_refl _, ⟨hb, h1, h2, A, ms, hd, fun i hi j hj => mc i hi j hj⟩, hbl⟩
end Go.Proofs.YtpifebapodfeaaaGreat.Dd
/- The document's slots: at. -/
namespace Go.Proofs.YtpifebapodfeaaaGreat.De
set_option linter.unusedVariables false
open Go.RowKit Pla Cb Sm Wd Nw Bk Eb Et Cc Ch Pm Fp Sp Pe Se Tg Sd Sq Sr Dd
theorem six {w : World} {d n s : Nat} {f : Nat → Option Held} {A : Array Value} (hr : DRow w d n f A) (hs : s < n) (v0 v1 v2 v3 v4 v5 : Value) (e : dC (f s) = #[v0, v1, v2, v3, v4, v5]) :
    w.cell? ⟨d, s * 6, Option.none⟩ = some v0 ∧ w.cell? ⟨d, s * 6 + 1, Option.none⟩ = some v1 ∧ w.cell? ⟨d, s * 6 + 2, Option.none⟩ = some v2 ∧ w.cell? ⟨d, s * 6 + 3, Option.none⟩ = some v3 ∧ w.cell? ⟨d, s * 6 + 4, Option.none⟩ = some v4 ∧ w.cell? ⟨d, s * 6 + 5, Option.none⟩ = some v5 := by
  have h := hr.2.2 s hs
  rw [e] at h
  refine ⟨?_, ?_, ?_, ?_, ?_, ?_⟩
  · rw [cell_of_row w d (s * 6) _ _ _ hr.2.1]; exact h 0 (by decide)
  · rw [cell_of_row w d (s * 6 + 1) _ _ _ hr.2.1]; exact h 1 (by decide)
  · rw [cell_of_row w d (s * 6 + 2) _ _ _ hr.2.1]; exact h 2 (by decide)
  · rw [cell_of_row w d (s * 6 + 3) _ _ _ hr.2.1]; exact h 3 (by decide)
  · rw [cell_of_row w d (s * 6 + 4) _ _ _ hr.2.1]; exact h 4 (by decide)
  · rw [cell_of_row w d (s * 6 + 5) _ _ _ hr.2.1]; exact h 5 (by decide)
theorem DMu.cell {w : World} {b d n : Nat} (h : DMu w b d n) : w.cell? ⟨b, 0, Option.none⟩ = some (.slice (some ⟨d, 0, Option.none⟩) n n) := by
  simp [World.cell?, show w.heap[b]? = _ from h]
theorem has_first (o : Option Held) : ∃ v1 v2 v3 v4 v5, dC o = #[.bool (hasB o), v1, v2, v3, v4, v5] := by
  cases o with
  | none => exact ⟨_, _, _, _, _, rfl⟩
  | some h => exact ⟨_, _, _, _, _, rfl⟩
theorem atr_val (b d n s : Nat) (hs : s < n) (w : World) (B : Bool) (i1 i2 i5 : Int) (t3 t4 : ByteArray) (cb : w.cell? ⟨b, 0, Option.none⟩ = some (.slice (some ⟨d, 0, Option.none⟩) n n)) (n2 : n ≤ 32)
    (c0 : w.cell? ⟨d, s * 6, Option.none⟩ = some (.bool B)) (c1 : w.cell? ⟨d, s * 6 + 1, Option.none⟩ = some (.int .i64 i1)) (c2 : w.cell? ⟨d, s * 6 + 2, Option.none⟩ = some (.int .i64 i2)) (c3 : w.cell? ⟨d, s * 6 + 3, Option.none⟩ = some (.string t3)) (c4 : w.cell? ⟨d, s * 6 + 4, Option.none⟩ = some (.string t4)) (c5 : w.cell? ⟨d, s * 6 + 5, Option.none⟩ = some (.int .i64 i5)) :
    Calls Tryz.prog 24 #[.pointer (some ⟨b, 0, Option.none⟩), .int .i64 (s : Int)] w fun e w' => e = .returned (.tuple #[.agg #[.bool B, .int .i64 i1, .int .i64 i2, .string t3, .string t4, .int .i64 i5], .bool B]) ∧ Below w.heap.size w w' := by
  have q0 : ¬ (s : Int) < 0 := by omega
  have q1 : ¬ (s : Int) ≥ (n : Int) := by omega
  have q2 : (s : Int) < (n : Int) := by omega
  have q3 : (0 : Int) ≤ (s : Int) := by omega
  have lb : b < w.heap.size := Sd.lt_of_cell cb
  have ld : d < w.heap.size := Sd.lt_of_cell c0
  clear hs
  go_enter Tryz.func24, Tryz.ntmps24
  go_wp2
  go_region
  go_wp2
  exact bodyPost_ret (v := .tuple #[.agg #[.bool B, .int .i64 i1, .int .i64 i2, .string t3, .string t4, .int .i64 i5], .bool B]) (by simp [results, Tryz.results24, go_sem]) rfl ⟨rfl, (below_one w _).drew⟩
/-- what lies at a number: nothing, if there is no such slot -/
def getO (n : Nat) (f : Nat → Option Held) (a : Int) : Option Held := if 0 ≤ a ∧ a < (n : Int) then f a.toNat else Option.none
theorem getO_in (n s : Nat) (f : Nat → Option Held) (h : s < n) : getO n f (s : Int) = f s := by rw [getO, if_pos ⟨by omega, by omega⟩, Int.toNat_natCast]
theorem getO_out (n : Nat) (f : Nat → Option Held) (a : Int) (h : a < 0 ∨ (n : Int) ≤ a) : getO n f a = Option.none := by rw [getO, if_neg (by omega)]
theorem in_or (n : Nat) (a : Int) : (∃ s : Nat, a = (s : Int) ∧ s < n) ∨ (a < 0 ∨ (n : Int) ≤ a) := by
  by_cases h : a < 0 ∨ (n : Int) ≤ a
  · exact .inr h
  · exact .inl ⟨a.toNat, by omega, by omega⟩
theorem atr_in (b d n s : Nat) (f : Nat → Option Held) (hs : s < n) (w : World) (hS : DSlots w b d n f) :
    Calls Tryz.prog 24 #[.pointer (some ⟨b, 0, Option.none⟩), .int .i64 (s : Int)] w fun e w' => e = .returned (.tuple #[.agg (dC (f s)), .bool (hasB (f s))]) ∧ Below w.heap.size w w' := by
  obtain ⟨hm, n1, n2, A, hr⟩ := hS
  cases hf : f s with
  | none =>
    obtain ⟨c0, c1, c2, c3, c4, c5⟩ := six hr hs (.bool false) (.int .i64 0) (.int .i64 0) (.string ⟨#[]⟩) (.string ⟨#[]⟩) (.int .i64 0) (by rw [hf]; rfl)
    exact atr_val b d n s hs w false 0 0 0 _ _ (DMu.cell hm) n2 c0 c1 c2 c3 c4 c5
  | some h =>
    obtain ⟨c0, c1, c2, c3, c4, c5⟩ := six hr hs (.bool true) (.int .i64 (h.alg : Int)) (.int .i64 (h.m : Int)) (.string h.key) (.string h.ex) (.int .i64 (h.round : Int)) (by rw [hf]; rfl)
    exact atr_val b d n s hs w true _ _ _ _ _ (DMu.cell hm) n2 c0 c1 c2 c3 c4 c5
set_option maxRecDepth 100000 in
set_option maxHeartbeats 1600000 in
theorem atr_out (b d n : Nat) (f : Nat → Option Held) (a : Int) (ha : a < 0 ∨ (n : Int) ≤ a) (w : World) (hS : DSlots w b d n f) :
    Calls Tryz.prog 24 #[.pointer (some ⟨b, 0, Option.none⟩), .int .i64 a] w fun e w' => e = .returned (.tuple #[.agg (dC Option.none), .bool false]) ∧ Below w.heap.size w w' := by
  obtain ⟨hm, n1, n2, A, hr⟩ := hS
  have cb := DMu.cell hm
  have lb : b < w.heap.size := Sd.lt_of_cell cb
  clear hm hr
  by_cases h0 : a < 0
  · clear ha
    go_enter Tryz.func24, Tryz.ntmps24
    go_wp2
    exact bodyPost_ret (v := .tuple #[.agg (dC Option.none), .bool false]) (by simp [results, Tryz.results24, go_sem, dC]) rfl ⟨rfl, by first | exact below_one w _ | exact (below_one w _).drew⟩
  · have q1 : a ≥ (n : Int) := by omega
    have q2 : (n : Int) ≤ a := by omega
    clear ha
    go_enter Tryz.func24, Tryz.ntmps24
    go_wp2
    exact bodyPost_ret (v := .tuple #[.agg (dC Option.none), .bool false]) (by simp [results, Tryz.results24, go_sem, dC]) rfl ⟨rfl, by first | exact below_one w _ | exact (below_one w _).drew⟩
theorem atr_any (b d n : Nat) (f : Nat → Option Held) (a : Int) (w : World) (hS : DSlots w b d n f) :
    Calls Tryz.prog 24 #[.pointer (some ⟨b, 0, Option.none⟩), .int .i64 a] w fun e w' => e = .returned (.tuple #[.agg (dC (getO n f a)), .bool (hasB (getO n f a))]) ∧ Below w.heap.size w w' := by
  rcases in_or n a with ⟨s, rfl, hs⟩ | h
  · rw [getO_in n s f hs]; exact atr_in b d n s f hs w hS
  · rw [getO_out n f a h]; exact atr_out b d n f a h w hS
set_option maxRecDepth 100000 in
set_option maxHeartbeats 1600000 in
theorem Roundr (b d n : Nat) (f : Nat → Option Held) (a : Int) (w : World) (hS : DSlots w b d n f) :
    Calls Tryz.prog 11 #[.pointer (some ⟨b, 0, Option.none⟩), .int .i64 a] w fun e w' => e = .returned (.int .i64 (roundOf (getO n f a) : Int)) ∧ Below w.heap.size w w' := by
  have AT := fun y hy => atr_any b d n f a y hy
  generalize getO n f a = o at *
  cases o with
  | none =>
    simp only [dC, hasB] at AT
    go_enter Tryz.func11, Tryz.ntmps11
    go_wp2_with (go_at_call 24; refine (AT _ hS).mono ?_; rintro e y ⟨rfl, hy⟩)
    go_ret
    exact ⟨rfl, keepB hy (below_one y _)⟩
  | some h =>
    simp only [dC, hasB] at AT
    go_enter Tryz.func11, Tryz.ntmps11
    go_wp2_with (go_at_call 24; refine (AT _ hS).mono ?_; rintro e y ⟨rfl, hy⟩)
    go_ret
    exact ⟨rfl, keepB hy (below_one y _)⟩
end Go.Proofs.YtpifebapodfeaaaGreat.De
