/- Slots: Change, refused. -/
import Derived.Test.YtpifebapodfeaabSx
namespace Go.Proofs.Ytpifebapodfeaab.Sy
set_option linter.unusedVariables false
open Go.RowKit Pla Cb Sm Wd Nw Bk Eb Et Cc Ch Pm Fp Sp Pe Se Tg Sd Sq Sr Wk Sx
open Ck (z64)
open Go.MuLone in
set_option maxRecDepth 100000 in
set_option maxHeartbeats 1600000 in
theorem Change_bad (b d n s : Nat) (f : Nat → Option Held) (h : Held) (hs : s < n) (hf : f s = Option.some h) (hx : h.ex.size = 16) (wr ck : ByteArray) (hw : wr.size = h.key.size) (E : Int) (hE : fitE (newKey h.ex wr) ck = E) (hE0 : (E != 0) = true) (w : World) (hS : Slots w b d n f) :
    Calls Try.prog 16 #[.pointer (some ⟨b, 0, Option.none⟩), .int .i64 (s : Int), .string wr, .string ck] w fun e w' => e = .returned (.int .i64 E) ∧ Slots w' b d n f ∧ Fr b d w w' := by
  obtain ⟨hm, n1, n2, A, hr⟩ := hS
  have SH := fun y hy => shut (y := y) hm n1 n2 hr hy
  obtain ⟨m0, m2, mf⟩ := hm.cells
  obtain ⟨M1, R1⟩ := locked hm hr
  have LO := lock_free Lk.muLib ⟨b, 0, Option.none⟩ w m0 mf
  generalize w.setCell ⟨b, 0, Option.none⟩ (.int .i32 1) = W1 at *
  obtain ⟨k0, k2, kf⟩ := M1.cells
  obtain ⟨p, x, r, a0, a1, a2, hh⟩ := R1.2.2 s hs
  rw [hf] at hh
  obtain ⟨ok, rfl, ⟨g, rfl, sg⟩, hx'⟩ := hh
  obtain ⟨gx, rfl, kx⟩ : ∃ gx, x = .pointer (some ⟨gx, 0, Option.none⟩) ∧ Key W1 gx 2 h.ex.data.toList := by
    rcases hx' with ⟨e, _⟩ | ⟨_, gx, e, k⟩
    · omega
    · exact ⟨gx, e, k⟩
  have AT := fun y hy => at_in b d n s hs n2 y hy
  obtain ⟨N, hN, hN2⟩ : ∃ N, wr.size = 8 * N ∧ (N = 1 ∨ N = 2) := by
    rcases ok.alg with e | e
    · exact ⟨1, by rw [hw, ok.key, e], .inl rfl⟩
    · exact ⟨2, by rw [hw, ok.key, e], .inr rfl⟩
  have DE := fun y hy => Dec_good wr gx 2 N h.ex.data.toList y hN (by omega) (⟨by rw [len_size, hx]; rfl, by decide⟩ : kindN h.ex.data.toList.length = 2 ∧ 1 ≤ 2) hy
  have nks := newKey_size h.ex wr N hN
  have FT := fun y => fit_any (newKey h.ex wr) ck N nks hN2 y
  rw [hE] at FT
  have SZ := fun y => size_any (h.alg : Int) y
  have hks : ksz (h.alg : Int) = (h.key.size : Int) := by rw [ok.key]; rcases ok.alg with e | e <;> rw [e] <;> rfl
  rw [hks] at SZ
  have CE : ∀ y : World, Below W1.heap.size W1 y → y.cell? ⟨d, s * 3, Option.none⟩ = some (.pointer (some ⟨g, 0, Option.none⟩)) ∧ y.cell? ⟨d, s * 3 + 1, Option.none⟩ = some (.pointer (some ⟨gx, 0, Option.none⟩)) ∧ y.cell? ⟨d, s * 3 + 2, Option.none⟩ = some (.int .i64 (h.round : Int)) ∧ y.frozen? ⟨d, s * 3, Option.none⟩ = false ∧ y.frozen? ⟨d, s * 3 + 2, Option.none⟩ = false ∧ y.cell? ⟨g, 0, Option.none⟩ = some (.int .i64 (h.alg : Int)) ∧ y.cell? ⟨g, 1, Option.none⟩ = some (.int .i64 (h.m : Int)) := by
    intro y hy
    have hd := Cb.kept hy R1.2.1
    obtain ⟨g1, p2, q1, _⟩ := sg
    obtain ⟨t0, t1, _⟩ := four (Cb.kept hy q1)
    exact ⟨by rw [cell_of_row y _ _ _ _ _ hd, a0], by rw [cell_of_row y _ _ _ _ _ hd, a1], by rw [cell_of_row y _ _ _ _ _ hd, a2], Pd.R_frozen hd _, Pd.R_frozen hd _, t0, t1⟩
  have qw : ((wr.size : Int) != (h.key.size : Int)) = false := by simp only [bne_eq_false_iff_eq]; omega
  change ∀ y, Key y gx 2 _ → Calls _ _ _ y fun e w' => e = .returned (.tuple #[.string (newKey h.ex wr), .int .i64 0]) ∧ _ at DE
  generalize (newKey h.ex wr) = nk at *
  generalize s * 3 = o at *
  obtain ⟨i0, i1, i2, if0, if2, i3, i4⟩ := CE W1 (Below.refl _ _)
  clear hm hr R1 a0 a1 a2 hx ok hs hw hE hf hx' hN hN2 nks hks
  go_enter_defers Try.func16, Try.ntmps16
  go_wp2_with (first
    | (go_at_call 18; refine LO.mono ?_; rintro e w' ⟨rfl, rfl⟩)
    | (go_at_call 20; refine (AT _ k2).mono ?_; rintro e w' ⟨rfl, rfl⟩)
    | (go_at_call 33; refine (SZ _).mono ?_; rintro e w' ⟨rfl, rfl⟩)
    | (go_at_call 34; refine (DE _ kx).mono ?_; rintro e y1 ⟨rfl, hy1⟩)
    | (go_at_call 35; refine (FT _).mono ?_; rintro e y2 ⟨rfl, hy2⟩; have hyy := keepB hy1 hy2))
  obtain ⟨l0, l2, lf⟩ := Mu.cells (Cb.kept hyy M1)
  refine leaves_cons (f := 19) (args := #[.pointer (some ⟨b, 0, Option.none⟩)]) (by simp) (by simp [go_sem]) ?_
  refine (unlock_deferred Lk.muLib ⟨b, 0, Option.none⟩ .returning _ l0 lf).mono ?_
  rintro e u' w'' ⟨rfl, rfl, rfl⟩
  exact ⟨_, results_tmp rfl _ _ _, rfl, SH _ hyy⟩
open Go.MuLone in
set_option maxRecDepth 100000 in
set_option maxHeartbeats 1600000 in
theorem Change_key (b d n s : Nat) (f : Nat → Option Held) (h : Held) (hs : s < n) (hf : f s = Option.some h) (hx : h.ex.size = 16) (wr ck : ByteArray) (hw : wr.size ≠ h.key.size) (w : World) (hS : Slots w b d n f) :
    Calls Try.prog 16 #[.pointer (some ⟨b, 0, Option.none⟩), .int .i64 (s : Int), .string wr, .string ck] w fun e w' => e = .returned (.int .i64 30) ∧ Slots w' b d n f ∧ Fr b d w w' := by
  obtain ⟨hm, n1, n2, A, hr⟩ := hS
  have SH := fun y hy => shut (y := y) hm n1 n2 hr hy
  obtain ⟨m0, m2, mf⟩ := hm.cells
  obtain ⟨M1, R1⟩ := locked hm hr
  have LO := lock_free Lk.muLib ⟨b, 0, Option.none⟩ w m0 mf
  generalize w.setCell ⟨b, 0, Option.none⟩ (.int .i32 1) = W1 at *
  obtain ⟨k0, k2, kf⟩ := M1.cells
  obtain ⟨p, x, r, a0, a1, a2, hh⟩ := R1.2.2 s hs
  rw [hf] at hh
  obtain ⟨ok, rfl, ⟨g, rfl, sg⟩, hx'⟩ := hh
  obtain ⟨gx, rfl, kx⟩ : ∃ gx, x = .pointer (some ⟨gx, 0, Option.none⟩) ∧ Key W1 gx 2 h.ex.data.toList := by
    rcases hx' with ⟨e, _⟩ | ⟨_, gx, e, k⟩
    · omega
    · exact ⟨gx, e, k⟩
  have AT := fun y hy => at_in b d n s hs n2 y hy
  have SZ := fun y => size_any (h.alg : Int) y
  have hks : ksz (h.alg : Int) = (h.key.size : Int) := by rw [ok.key]; rcases ok.alg with e | e <;> rw [e] <;> rfl
  rw [hks] at SZ
  have CE : ∀ y : World, Below W1.heap.size W1 y → y.cell? ⟨d, s * 3, Option.none⟩ = some (.pointer (some ⟨g, 0, Option.none⟩)) ∧ y.cell? ⟨d, s * 3 + 1, Option.none⟩ = some (.pointer (some ⟨gx, 0, Option.none⟩)) ∧ y.cell? ⟨d, s * 3 + 2, Option.none⟩ = some (.int .i64 (h.round : Int)) ∧ y.frozen? ⟨d, s * 3, Option.none⟩ = false ∧ y.frozen? ⟨d, s * 3 + 2, Option.none⟩ = false ∧ y.cell? ⟨g, 0, Option.none⟩ = some (.int .i64 (h.alg : Int)) ∧ y.cell? ⟨g, 1, Option.none⟩ = some (.int .i64 (h.m : Int)) := by
    intro y hy
    have hd := Cb.kept hy R1.2.1
    obtain ⟨g1, p2, q1, _⟩ := sg
    obtain ⟨t0, t1, _⟩ := four (Cb.kept hy q1)
    exact ⟨by rw [cell_of_row y _ _ _ _ _ hd, a0], by rw [cell_of_row y _ _ _ _ _ hd, a1], by rw [cell_of_row y _ _ _ _ _ hd, a2], Pd.R_frozen hd _, Pd.R_frozen hd _, t0, t1⟩
  have qw : ((wr.size : Int) != (h.key.size : Int)) = true := by simp only [bne_iff_ne]; omega
  generalize s * 3 = o at *
  obtain ⟨i0, i1, i2, if0, if2, i3, i4⟩ := CE W1 (Below.refl _ _)
  clear hm hr R1 a0 a1 a2 hx ok hs hw hf hx' hks
  go_enter_defers Try.func16, Try.ntmps16
  go_wp2_with (first
    | (go_at_call 18; refine LO.mono ?_; rintro e w' ⟨rfl, rfl⟩)
    | (go_at_call 20; refine (AT _ k2).mono ?_; rintro e w' ⟨rfl, rfl⟩)
    | (go_at_call 33; refine (SZ _).mono ?_; rintro e w' ⟨rfl, rfl⟩))
  refine leaves_cons (f := 19) (args := #[.pointer (some ⟨b, 0, Option.none⟩)]) (by simp) (by simp [go_sem]) ?_
  refine (unlock_deferred Lk.muLib ⟨b, 0, Option.none⟩ .returning _ k0 kf).mono ?_
  rintro e u' w'' ⟨rfl, rfl, rfl⟩
  exact ⟨_, results_tmp rfl _ _ _, rfl, SH _ (Below.refl _ _)⟩
open Go.MuLone in
set_option maxRecDepth 100000 in
set_option maxHeartbeats 1600000 in
theorem Change_nox (b d n s : Nat) (f : Nat → Option Held) (hs : s < n) (hf : ∀ h, f s = Option.some h → h.ex.size = 0) (wr ck : ByteArray) (w : World) (hS : Slots w b d n f) :
    Calls Try.prog 16 #[.pointer (some ⟨b, 0, Option.none⟩), .int .i64 (s : Int), .string wr, .string ck] w fun e w' => e = .returned (.int .i64 40) ∧ Slots w' b d n f ∧ Fr b d w w' := by
  obtain ⟨hm, n1, n2, A, hr⟩ := hS
  have SH := fun y hy => shut (y := y) hm n1 n2 hr hy
  obtain ⟨m0, m2, mf⟩ := hm.cells
  obtain ⟨M1, R1⟩ := locked hm hr
  have LO := lock_free Lk.muLib ⟨b, 0, Option.none⟩ w m0 mf
  generalize w.setCell ⟨b, 0, Option.none⟩ (.int .i32 1) = W1 at *
  obtain ⟨k0, k2, kf⟩ := M1.cells
  obtain ⟨p, x, r, a0, a1, a2, hh⟩ := R1.2.2 s hs
  have ex : x = .pointer Option.none := by
    cases hfs : f s with
    | none => rw [hfs] at hh; exact hh.2.1
    | some h =>
      rw [hfs] at hh
      rcases hh.2.2.2 with ⟨_, e⟩ | ⟨e, _⟩
      · exact e
      · have := hf h hfs; omega
  subst ex
  have c1 : W1.cell? ⟨d, s * 3 + 1, Option.none⟩ = some (.pointer Option.none) := by rw [cell_of_row W1 _ _ _ _ _ R1.2.1, a1]
  have AT := fun y hy => at_in b d n s hs n2 y hy
  generalize s * 3 = o at *
  clear hm hr R1 a0 a1 a2 hs hh hf
  go_enter_defers Try.func16, Try.ntmps16
  go_wp2_with (first
    | (go_at_call 18; refine LO.mono ?_; rintro e w' ⟨rfl, rfl⟩)
    | (go_at_call 20; refine (AT _ k2).mono ?_; rintro e w' ⟨rfl, rfl⟩))
  refine leaves_cons (f := 19) (args := #[.pointer (some ⟨b, 0, Option.none⟩)]) (by simp) (by simp [go_sem]) ?_
  refine (unlock_deferred Lk.muLib ⟨b, 0, Option.none⟩ .returning _ k0 kf).mono ?_
  rintro e u' w'' ⟨rfl, rfl, rfl⟩
  exact ⟨_, results_tmp rfl _ _ _, rfl, SH _ (Below.refl _ _)⟩
open Go.MuLone in
set_option maxRecDepth 100000 in
set_option maxHeartbeats 1600000 in
theorem Change_out (b d n : Nat) (f : Nat → Option Held) (a : Int) (ha : a < 0 ∨ (n : Int) ≤ a) (wr ck : ByteArray) (w : World) (hS : Slots w b d n f) :
    Calls Try.prog 16 #[.pointer (some ⟨b, 0, Option.none⟩), .int .i64 a, .string wr, .string ck] w fun e w' => e = .returned (.int .i64 40) ∧ Slots w' b d n f ∧ Fr b d w w' := by
  obtain ⟨hm, n1, n2, A, hr⟩ := hS
  have SH := fun y hy => shut (y := y) hm n1 n2 hr hy
  obtain ⟨m0, m2, mf⟩ := hm.cells
  obtain ⟨M1, R1⟩ := locked hm hr
  have LO := lock_free Lk.muLib ⟨b, 0, Option.none⟩ w m0 mf
  generalize w.setCell ⟨b, 0, Option.none⟩ (.int .i32 1) = W1 at *
  obtain ⟨k0, k2, kf⟩ := M1.cells
  have AT := fun y hy => at_out b d n a ha n2 y hy
  clear hm hr R1 ha
  go_enter_defers Try.func16, Try.ntmps16
  go_wp2_with (first
    | (go_at_call 18; refine LO.mono ?_; rintro e w' ⟨rfl, rfl⟩)
    | (go_at_call 20; refine (AT _ k2).mono ?_; rintro e w' ⟨rfl, rfl⟩))
  refine leaves_cons (f := 19) (args := #[.pointer (some ⟨b, 0, Option.none⟩)]) (by simp) (by simp [go_sem]) ?_
  refine (unlock_deferred Lk.muLib ⟨b, 0, Option.none⟩ .returning _ k0 kf).mono ?_
  rintro e u' w'' ⟨rfl, rfl, rfl⟩
  exact ⟨_, results_tmp rfl _ _ _, rfl, SH _ (Below.refl _ _)⟩
end Go.Proofs.Ytpifebapodfeaab.Sy
