/- Slots: Tag, Round, Right, Put, NewSlots. -/
import Derived.Test.YtpifebapodfeaabSd
namespace Go.Proofs.Ytpifebapodfeaab.Sq
set_option linter.unusedVariables false
open Go.RowKit Pla Cb Sm Wd Nw Bk Eb Et Cc Ch Pm Fp Sp Pe Se Tg Sd
/-- there is no such slot, or it is empty -/
def No (n : Nat) (f : Nat → Option Held) (a : Int) : Prop := a < 0 ∨ (n : Int) ≤ a ∨ ∃ s : Nat, a = (s : Int) ∧ s < n ∧ f s = Option.none
open Go.MuLone in
set_option maxRecDepth 100000 in
set_option maxHeartbeats 1600000 in
theorem Tag_no (b d n : Nat) (f : Nat → Option Held) (a : Int) (ha : No n f a) (text : ByteArray) (w : World) (hS : Slots w b d n f) :
    Calls Try.prog 9 #[.pointer (some ⟨b, 0, Option.none⟩), .int .i64 a, .string text] w fun e w' => e = .returned (.tuple #[.string ⟨#[]⟩, .int .i64 40]) ∧ Slots w' b d n f ∧ Fr b d w w' := by
  obtain ⟨hm, n1, n2, A, hr⟩ := hS
  have SH := fun y hy => shut (y := y) hm n1 n2 hr hy
  obtain ⟨m0, m2, mf⟩ := hm.cells
  obtain ⟨M1, R1⟩ := locked hm hr
  have LO := lock_free Lk.muLib ⟨b, 0, Option.none⟩ w m0 mf
  generalize w.setCell ⟨b, 0, Option.none⟩ (.int .i32 1) = W1 at *
  obtain ⟨k0, k2, kf⟩ := M1.cells
  by_cases hr2 : a < 0 ∨ (n : Int) ≤ a
  · have AT := fun y hy => at_out b d n a hr2 n2 y hy
    clear hm hr R1 ha hr2
    go_enter_defers Try.func9, Try.ntmps9
    go_wp2_with (first
      | (go_at_call 18; refine LO.mono ?_; rintro e w' ⟨rfl, rfl⟩)
      | (go_at_call 20; refine (AT _ k2).mono ?_; rintro e w' ⟨rfl, rfl⟩))
    refine leaves_cons (f := 19) (args := #[.pointer (some ⟨b, 0, Option.none⟩)]) (by simp) (by simp [go_sem]) ?_
    refine (unlock_deferred Lk.muLib ⟨b, 0, Option.none⟩ .returning _ k0 kf).mono ?_
    rintro e u' w'' ⟨rfl, rfl, rfl⟩
    exact ⟨_, results_tmp2 rfl _ _ _, rfl, SH _ (Below.refl _ _)⟩
  · obtain ⟨s, rfl, hs, hf⟩ : ∃ s : Nat, a = (s : Int) ∧ s < n ∧ f s = Option.none := by
      rcases ha with h | h | h
      · exact absurd (.inl h) hr2
      · exact absurd (.inr h) hr2
      · exact h
    obtain ⟨p, x, r, a0, a1, a2, hh⟩ := R1.2.2 s hs
    rw [hf] at hh
    obtain ⟨rfl, rfl, rfl⟩ := hh
    have c0 : W1.cell? ⟨d, s * 3, Option.none⟩ = some (.pointer Option.none) := by rw [cell_of_row W1 _ _ _ _ _ R1.2.1, a0]
    have AT := fun y hy => at_in b d n s hs n2 y hy
    generalize s * 3 = o at *
    clear hm hr R1 a0 a1 a2 hs hr2 ha
    go_enter_defers Try.func9, Try.ntmps9
    go_wp2_with (first
      | (go_at_call 18; refine LO.mono ?_; rintro e w' ⟨rfl, rfl⟩)
      | (go_at_call 20; refine (AT _ k2).mono ?_; rintro e w' ⟨rfl, rfl⟩))
    refine leaves_cons (f := 19) (args := #[.pointer (some ⟨b, 0, Option.none⟩)]) (by simp) (by simp [go_sem]) ?_
    refine (unlock_deferred Lk.muLib ⟨b, 0, Option.none⟩ .returning _ k0 kf).mono ?_
    rintro e u' w'' ⟨rfl, rfl, rfl⟩
    exact ⟨_, results_tmp2 rfl _ _ _, rfl, SH _ (Below.refl _ _)⟩
/-- what Round tells -/
def roundOf : Option Held → Nat
  | Option.none => 0
  | Option.some h => h.round
open Go.MuLone in
set_option maxRecDepth 100000 in
set_option maxHeartbeats 1600000 in
theorem Round_in (b d n s : Nat) (f : Nat → Option Held) (hs : s < n) (w : World) (hS : Slots w b d n f) :
    Calls Try.prog 17 #[.pointer (some ⟨b, 0, Option.none⟩), .int .i64 (s : Int)] w fun e w' => e = .returned (.int .i64 (roundOf (f s) : Int)) ∧ Slots w' b d n f ∧ Fr b d w w' := by
  obtain ⟨hm, n1, n2, A, hr⟩ := hS
  have SH := fun y hy => shut (y := y) hm n1 n2 hr hy
  obtain ⟨m0, m2, mf⟩ := hm.cells
  obtain ⟨M1, R1⟩ := locked hm hr
  have LO := lock_free Lk.muLib ⟨b, 0, Option.none⟩ w m0 mf
  generalize w.setCell ⟨b, 0, Option.none⟩ (.int .i32 1) = W1 at *
  obtain ⟨k0, k2, kf⟩ := M1.cells
  obtain ⟨p, x, r, a0, a1, a2, hh⟩ := R1.2.2 s hs
  have er : r = .int .i64 (roundOf (f s) : Int) := by
    cases hfs : f s with
    | none => rw [hfs] at hh; exact hh.2.2
    | some h => rw [hfs] at hh; exact hh.2.1
  subst er
  have c0 : W1.cell? ⟨d, s * 3 + 2, Option.none⟩ = some (.int .i64 (roundOf (f s) : Int)) := by rw [cell_of_row W1 _ _ _ _ _ R1.2.1, a2]
  have AT := fun y hy => at_in b d n s hs n2 y hy
  generalize roundOf (f s) = ro at *
  generalize s * 3 = o at *
  clear hm hr R1 a0 a1 a2 hs hh
  go_enter_defers Try.func17, Try.ntmps17
  go_wp2_with (first
    | (go_at_call 18; refine LO.mono ?_; rintro e w' ⟨rfl, rfl⟩)
    | (go_at_call 20; refine (AT _ k2).mono ?_; rintro e w' ⟨rfl, rfl⟩))
  refine leaves_cons (f := 19) (args := #[.pointer (some ⟨b, 0, Option.none⟩)]) (by simp) (by simp [go_sem]) ?_
  refine (unlock_deferred Lk.muLib ⟨b, 0, Option.none⟩ .returning _ k0 kf).mono ?_
  rintro e u' w'' ⟨rfl, rfl, rfl⟩
  exact ⟨_, results_tmp rfl _ _ _, rfl, SH _ (Below.refl _ _)⟩
open Go.MuLone in
set_option maxRecDepth 100000 in
set_option maxHeartbeats 1600000 in
theorem Round_out (b d n : Nat) (f : Nat → Option Held) (a : Int) (ha : a < 0 ∨ (n : Int) ≤ a) (w : World) (hS : Slots w b d n f) :
    Calls Try.prog 17 #[.pointer (some ⟨b, 0, Option.none⟩), .int .i64 a] w fun e w' => e = .returned (.int .i64 0) ∧ Slots w' b d n f ∧ Fr b d w w' := by
  obtain ⟨hm, n1, n2, A, hr⟩ := hS
  have SH := fun y hy => shut (y := y) hm n1 n2 hr hy
  obtain ⟨m0, m2, mf⟩ := hm.cells
  obtain ⟨M1, R1⟩ := locked hm hr
  have LO := lock_free Lk.muLib ⟨b, 0, Option.none⟩ w m0 mf
  generalize w.setCell ⟨b, 0, Option.none⟩ (.int .i32 1) = W1 at *
  obtain ⟨k0, k2, kf⟩ := M1.cells
  have AT := fun y hy => at_out b d n a ha n2 y hy
  clear hm hr R1 ha
  go_enter_defers Try.func17, Try.ntmps17
  go_wp2_with (first
    | (go_at_call 18; refine LO.mono ?_; rintro e w' ⟨rfl, rfl⟩)
    | (go_at_call 20; refine (AT _ k2).mono ?_; rintro e w' ⟨rfl, rfl⟩))
  refine leaves_cons (f := 19) (args := #[.pointer (some ⟨b, 0, Option.none⟩)]) (by simp) (by simp [go_sem]) ?_
  refine (unlock_deferred Lk.muLib ⟨b, 0, Option.none⟩ .returning _ k0 kf).mono ?_
  rintro e u' w'' ⟨rfl, rfl, rfl⟩
  exact ⟨_, results_tmp rfl _ _ _, rfl, SH _ (Below.refl _ _)⟩
set_option maxRecDepth 100000 in
set_option maxHeartbeats 1600000 in
theorem Right_in (b d n s : Nat) (f : Nat → Option Held) (h : Held) (hs : s < n) (hf : f s = Option.some h) (text tag : ByteArray) (ht : text.size ≤ 1000000000) (w : World) (hS : Slots w b d n f) :
    Calls Try.prog 11 #[.pointer (some ⟨b, 0, Option.none⟩), .int .i64 (s : Int), .string text, .string tag] w fun e w' => e = .returned (.tuple #[.bool ((tagB h.alg h.m h.key text).toList == tag.toList), .int .i64 0]) ∧ Slots w' b d n f ∧ Fr b d w w' := by
  have TA := Tag_in b d n s f h hs hf text ht w hS
  have SA := fun y => Sa.same_any (tagB h.alg h.m h.key text) tag (by rw [tagB_size]; omega) y
  generalize tagB h.alg h.m h.key text = T at *
  clear hS hs
  go_enter Try.func11, Try.ntmps11
  go_wp2_with (first
    | (go_at_call 9; refine TA.mono ?_; rintro e y ⟨rfl, hy, fy⟩)
    | (go_at_call 24; refine (SA _).mono ?_; rintro e z ⟨rfl, hz⟩))
  obtain ⟨hm, n1, n2, A, hr⟩ := hy
  have F := Fr.of (b := b) (d := d) hz
  exact bodyPost_ret (v := .tuple #[.bool (T.toList == tag.toList), .int .i64 0]) (by simp [results, Try.results11, go_sem]) rfl ⟨rfl, ⟨Cb.kept hz hm, n1, n2, A, F.row hm hr (Cb.kept hz hr.2.1)⟩, fy.trans F⟩
theorem Right_no (b d n : Nat) (f : Nat → Option Held) (a : Int) (ha : No n f a) (text tag : ByteArray) (w : World) (hS : Slots w b d n f) :
    Calls Try.prog 11 #[.pointer (some ⟨b, 0, Option.none⟩), .int .i64 a, .string text, .string tag] w fun e w' => e = .returned (.tuple #[.bool false, .int .i64 40]) ∧ Slots w' b d n f ∧ Fr b d w w' := by
  have TA := Tag_no b d n f a ha text w hS
  clear hS ha
  go_enter Try.func11, Try.ntmps11
  go_wp2_with (go_at_call 9; refine TA.mono ?_; rintro e y ⟨rfl, hy, fy⟩)
  exact bodyPost_ret (v := .tuple #[.bool false, .int .i64 40]) (by simp [results, Try.results11, go_sem]) rfl ⟨rfl, hy, fy⟩
end Go.Proofs.Ytpifebapodfeaab.Sq
