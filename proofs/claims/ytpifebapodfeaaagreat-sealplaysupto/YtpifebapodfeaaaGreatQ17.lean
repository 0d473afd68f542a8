import Derived.Test.YtpifebapodfeaaaGreatQ10
import Derived.Test.YtpifebapodfeaaaGreatQ15
import Derived.Test.YtpifebapodfeaaaGreatQ16
import Derived.Deep.RegionHeld3
import Derived.Deep.RegionWith
/- Slots: Change. -/
namespace Go.Proofs.YtpifebapodfeaaaGreat.Sx
set_option linter.unusedVariables false
open Go.RowKit Pla Cb Sm Wd Nw Bk Eb Et Cc Ch Pm Fp Sp Pe Se Tg Sd Sq Sr Wk
open Ck (z64)
def newKey (x y : ByteArray) : ByteArray := ⟨(mapB (dec x.data.toList) y.data.toList).toArray⟩
def chk (k : ByteArray) : ByteArray := ⟨((byW (enc k.data.toList z64)).take 3).toArray⟩
def fitE (k c : ByteArray) : Int := if wkU k (kindN k.size) = true then 42 else if ((chk k).toList == c.toList) = true then 0 else 41
theorem newKey_size (x y : ByteArray) (N : Nat) (h : y.size = 8 * N) : (newKey x y).size = 8 * N := by
  show (mapB _ _).toArray.size = _
  rw [List.size_toArray, mapB_len _ _ N (by rw [len_size, h])]
set_option maxRecDepth 100000 in
set_option maxHeartbeats 1600000 in
theorem fit_any (k c : ByteArray) (K : Nat) (hk : k.size = 8 * K) (h1 : K = 1 ∨ K = 2) (w : World) :
    Calls Tryz.prog 48 #[.string k, .string c] w fun e w' => e = .returned (.int .i64 (fitE k c)) ∧ Below w.heap.size w w' := by
  have kK : kindN k.size = K := by rw [hk]; rcases h1 with rfl | rfl <;> rfl
  have WE := fun y => weak_any k y
  have CK := fun y => Ck.check_good k K kK (by omega) (by omega) y
  have SA := fun y => Sa.same_any (chk k) c (by show ((byW _).take 3).toArray.size ≤ _; rw [List.size_toArray, List.length_take]; omega) y
  have hf : fitE k c = if wkU k (kindN k.size) = true then 42 else if ((chk k).toList == c.toList) = true then 0 else 41 := rfl
  generalize fitE k c = E at *
  generalize wkU k (kindN k.size) = B at *
  change ∀ y, Calls _ _ _ y fun e w' => e = .returned (.tuple #[.string (chk k), .int .i64 0]) ∧ _ at CK
  generalize chk k = C at *
  generalize (C.toList == c.toList) = S at *
  clear kK hk h1
  cases B with
  | true =>
    simp only [if_true] at hf
    subst hf
    go_enter Tryz.func48, Tryz.ntmps48
    go_wp2_with (go_at_call 71; refine (WE _).mono ?_; rintro e x ⟨rfl, hx⟩)
    go_ret
    exact ⟨rfl, hx⟩
  | false =>
    cases S with
    | true =>
      simp only [if_true, Bool.false_eq_true, if_false] at hf
      subst hf
      go_enter Tryz.func48, Tryz.ntmps48
      go_wp2_with (first
        | (go_at_call 71; refine (WE _).mono ?_; rintro e x ⟨rfl, hx⟩)
        | (go_at_call 72; refine (CK _).mono ?_; rintro e y ⟨rfl, hy⟩)
        | (go_at_call 29; refine (SA _).mono ?_; rintro e z ⟨rfl, hz⟩))
      go_ret
      exact ⟨rfl, keepB (keepB hx hy) hz⟩
    | false =>
      simp only [Bool.false_eq_true, if_false] at hf
      subst hf
      go_enter Tryz.func48, Tryz.ntmps48
      go_wp2_with (first
        | (go_at_call 71; refine (WE _).mono ?_; rintro e x ⟨rfl, hx⟩)
        | (go_at_call 72; refine (CK _).mono ?_; rintro e y ⟨rfl, hy⟩)
        | (go_at_call 29; refine (SA _).mono ?_; rintro e z ⟨rfl, hz⟩))
      go_ret
      exact ⟨rfl, keepB (keepB hx hy) hz⟩
theorem min_if (r M : Nat) (h : r ≤ M) : (if (M : Int) - (r : Int) < 1 then (M : Int) else (r : Int) + 1) = ((min (r + 1) M : Nat) : Int) := by
  split <;> omega
theorem round_min (r : Nat) (h : r ≤ 999999999) : Cnt.countOf (r : Int) 1 999999999 = ((min (r + 1) 999999999 : Nat) : Int) := by
  have e1 : Cnt.mx (r : Int) = (r : Int) := if_neg (Int.not_lt.2 (Int.natCast_nonneg r))
  have e2 : Cnt.mx 1 = 1 := rfl
  have e3 : Cnt.mx 999999999 = 999999999 := rfl
  rw [Cnt.countOf, e1, e2, e3]
  exact min_if r 999999999 h
/-- behind a change: the sealer's and the round's cells -/
theorem change_shut {w y z : World} {b d n s : Nat} {f : Nat → Option Held} {A : Array Value} (hm : Mu w b d n 0) (n1 : 1 ≤ n) (n2 : n ≤ 32) (hr : Row w d n f A) (hs : s < n)
    (hy : Below (w.setCell ⟨b, 0, Option.none⟩ (.int .i32 1)).heap.size (w.setCell ⟨b, 0, Option.none⟩ (.int .i32 1)) y) (h : Held) (p x r x0 : Value) (hx0 : A[s * 3 + 1]? = some x) (hh : Has y (Option.some h) p x r) :
    Mu ((y.setCell ⟨d, s * 3, Option.none⟩ p).setCell ⟨d, s * 3 + 2, Option.none⟩ r) b d n 1 ∧
    Slots (((y.setCell ⟨d, s * 3, Option.none⟩ p).setCell ⟨d, s * 3 + 2, Option.none⟩ r).setCell ⟨b, 0, Option.none⟩ (.int .i32 0)) b d n (upd f s (Option.some h)) ∧
    Fr b d w (((y.setCell ⟨d, s * 3, Option.none⟩ p).setCell ⟨d, s * 3 + 2, Option.none⟩ r).setCell ⟨b, 0, Option.none⟩ (.int .i32 0)) := by
  have hne := hm.ne hr.2.1
  obtain ⟨M1, R1⟩ := locked hm hr
  have F1 := Fr.set1 b d w 0 (.int .i32 1)
  generalize w.setCell ⟨b, 0, Option.none⟩ (.int .i32 1) = W1 at *
  have M2 : Mu y b d n 1 := Cb.kept hy M1
  have R2 : Row y d n f A := (Fr.of (b := b) (d := d) hy).row M1 R1 (Cb.kept hy R1.2.1)
  have F2 := (Fr.set2 b d y (s * 3) p).trans (Fr.set2 b d _ (s * 3 + 2) r)
  have d3 := setCell_heap (setCell_heap R2.2.1 (s * 3) p) (s * 3 + 2) r
  have M3 : Mu ((y.setCell ⟨d, s * 3, Option.none⟩ p).setCell ⟨d, s * 3 + 2, Option.none⟩ r) b d n 1 :=
    (Below.heap_setCell _ ⟨d, s * 3 + 2, Option.none⟩ r b hne).trans ((Below.heap_setCell _ ⟨d, s * 3, Option.none⟩ p b hne).trans M2)
  generalize (y.setCell ⟨d, s * 3, Option.none⟩ p).setCell ⟨d, s * 3 + 2, Option.none⟩ r = Y at *
  have F3 := F2.trans (Fr.set1 b d Y 0 (.int .i32 0))
  have F4 := F1.trans ((Fr.of (b := b) (d := d) hy).trans F3)
  have d4 : (Y.setCell ⟨b, 0, Option.none⟩ (.int .i32 0)).heap[d]? = _ := (Below.heap_setCell Y ⟨b, 0, Option.none⟩ _ d hne.symm).trans d3
  refine ⟨M3, ⟨M3.set 0, n1, n2, _, ?_, d4, fun i hi => ?_⟩, F4⟩
  · simp [R2.1]
  · have sz := R2.1
    by_cases e : i = s
    · subst e
      refine ⟨p, x, r, ?_, ?_, ?_, ?_⟩
      · rw [Array.getElem?_setIfInBounds, if_neg (by omega), Array.getElem?_setIfInBounds, if_pos rfl, if_pos (by omega)]
      · rw [Array.getElem?_setIfInBounds, if_neg (by omega), Array.getElem?_setIfInBounds, if_neg (by omega), hx0]
      · rw [Array.getElem?_setIfInBounds, if_pos rfl, if_pos (by simp; omega)]
      · rw [upd, if_pos rfl]; exact F3.has M2 R2.2.1 hh
    · obtain ⟨p', x', r', h1, h2, h3, h4⟩ := R2.2.2 i hi
      refine ⟨p', x', r', ?_, ?_, ?_, ?_⟩
      · rw [Array.getElem?_setIfInBounds, if_neg (by omega), Array.getElem?_setIfInBounds, if_neg (by omega), h1]
      · rw [Array.getElem?_setIfInBounds, if_neg (by omega), Array.getElem?_setIfInBounds, if_neg (by omega), h2]
      · rw [Array.getElem?_setIfInBounds, if_neg (by omega), Array.getElem?_setIfInBounds, if_neg (by omega), h3]
      · rw [upd, if_neg e]; exact F3.has M2 R2.2.1 h4
open Go.MuLone in
set_option maxRecDepth 100000 in
set_option maxHeartbeats 1600000 in
theorem Change_good (b d n s : Nat) (f : Nat → Option Held) (h : Held) (hs : s < n) (hf : f s = Option.some h) (hx : h.ex.size = 16) (wr ck : ByteArray) (hw : wr.size = h.key.size) (hE : fitE (newKey h.ex wr) ck = 0) (w : World) (hS : Slots w b d n f) :
    Calls Tryz.prog 32 #[.pointer (some ⟨b, 0, Option.none⟩), .int .i64 (s : Int), .string wr, .string ck] w fun e w' => e = .returned (.int .i64 0) ∧ Slots w' b d n (upd f s (Option.some ⟨h.alg, h.m, newKey h.ex wr, h.ex, min (h.round + 1) 999999999⟩)) ∧ Fr b d w w' := by
  obtain ⟨hm, n1, n2, A, hr⟩ := hS
  have SH := fun y hy h' p x r h1 hh => change_shut (y := y) (z := y) hm n1 n2 hr hs hy h' p x r x h1 hh
  obtain ⟨m0, m2, mf⟩ := hm.cells
  obtain ⟨M1, R1⟩ := locked hm hr
  have LO := lock_free Lk.muLib ⟨b, 0, Option.none⟩ w m0 mf
  generalize w.setCell ⟨b, 0, Option.none⟩ (.int .i32 1) = W1 at *
  obtain ⟨k0, k2, kf⟩ := M1.cells
  obtain ⟨p, x, r, a0, a1, a2, hh⟩ := R1.2.2 s hs
  rw [hf] at hh
  obtain ⟨ok, rfl, ⟨g, rfl, sg⟩, hx'⟩ := hh
  obtain ⟨gx, rfl, kx⟩ : ∃ gx, x = .pointer (some ⟨gx, 0, Option.none⟩) ∧ Key W1 gx 2 h.ex.data.toList := by
    rcases hx' with ⟨e, _⟩ | ⟨_, gx, e, k⟩
    · omega
    · exact ⟨gx, e, k⟩
  have AT := fun y hy => at_in b d n s hs n2 y hy
  obtain ⟨N, hN, hN2⟩ : ∃ N, wr.size = 8 * N ∧ (N = 1 ∨ N = 2) := by
    rcases ok.alg with e | e
    · exact ⟨1, by rw [hw, ok.key, e], .inl rfl⟩
    · exact ⟨2, by rw [hw, ok.key, e], .inr rfl⟩
  have DE := fun y hy => Dec_good wr gx 2 N h.ex.data.toList y hN (by omega) (⟨by rw [len_size, hx]; rfl, by decide⟩ : kindN h.ex.data.toList.length = 2 ∧ 1 ≤ 2) hy
  have nks := newKey_size h.ex wr N hN
  have FT := fun y => fit_any (newKey h.ex wr) ck N nks hN2 y
  rw [hE] at FT
  have NE := fun y => new_any h.alg h.m ok.alg ok.m (newKey h.ex wr) (by rw [nks, ← hN, hw, ok.key]) y
  have SZ := fun y => size_any (h.alg : Int) y
  have hks : ksz (h.alg : Int) = (wr.size : Int) := by rw [hw, ok.key]; rcases ok.alg with e | e <;> rw [e] <;> rfl
  rw [hks] at SZ
  have CO := fun y => Cnt.count_any (h.round : Int) 1 999999999 y (by have := ok.round; omega) (by decide) (by decide)
  have hco := round_min h.round ok.round
  rw [hco] at CO
  have FIN : ∀ y g', Below W1.heap.size W1 y → Sealed y g' h.alg h.m (newKey h.ex wr).data.toList → Key y gx 2 h.ex.data.toList → _ := fun y g' hy sg' kx' => SH y hy ⟨h.alg, h.m, newKey h.ex wr, h.ex, min (h.round + 1) 999999999⟩ (.pointer (some ⟨g', 0, Option.none⟩)) _ (.int .i64 ((min (h.round + 1) 999999999 : Nat) : Int)) a1 ⟨⟨ok.alg, ok.m, by show (newKey h.ex wr).size = _; rw [nks, ← hN, hw, ok.key], .inr hx, Nat.min_le_right _ _⟩, rfl, ⟨g', rfl, sg'⟩, .inr ⟨hx, gx, rfl, kx'⟩⟩
  have CE : ∀ y : World, Below W1.heap.size W1 y → y.cell? ⟨d, s * 3, Option.none⟩ = some (.pointer (some ⟨g, 0, Option.none⟩)) ∧ y.cell? ⟨d, s * 3 + 1, Option.none⟩ = some (.pointer (some ⟨gx, 0, Option.none⟩)) ∧ y.cell? ⟨d, s * 3 + 2, Option.none⟩ = some (.int .i64 (h.round : Int)) ∧ y.frozen? ⟨d, s * 3, Option.none⟩ = false ∧ y.frozen? ⟨d, s * 3 + 2, Option.none⟩ = false ∧ y.cell? ⟨g, 0, Option.none⟩ = some (.int .i64 (h.alg : Int)) ∧ y.cell? ⟨g, 1, Option.none⟩ = some (.int .i64 (h.m : Int)) := by
    intro y hy
    have hd := Cb.kept hy R1.2.1
    obtain ⟨g1, p2, q1, _⟩ := sg
    obtain ⟨t0, t1, _⟩ := four (Cb.kept hy q1)
    exact ⟨by rw [cell_of_row y _ _ _ _ _ hd, a0], by rw [cell_of_row y _ _ _ _ _ hd, a1], by rw [cell_of_row y _ _ _ _ _ hd, a2], Pd.R_frozen hd _, Pd.R_frozen hd _, t0, t1⟩
  have qw : ((wr.size : Int) != (wr.size : Int)) = false := by simp
  change ∀ y, Key y gx 2 _ → Calls _ _ _ y fun e w' => e = .returned (.tuple #[.string (newKey h.ex wr), .int .i64 0]) ∧ _ at DE
  generalize upd f s (Option.some ⟨h.alg, h.m, newKey h.ex wr, h.ex, min (h.round + 1) 999999999⟩) = f' at *
  generalize (newKey h.ex wr) = nk at *
  generalize (min (h.round + 1) 999999999 : Nat) = nr at *
  generalize s * 3 = o at *
  obtain ⟨i0, i1, i2, if0, if2, i3, i4⟩ := CE W1 (Below.refl _ _)
  clear hm hr R1 a0 a1 a2 SH hx ok hs hw hE hf hx' hN hN2 nks hks hco
  go_enter_defers Tryz.func32, Tryz.ntmps32
  go_wp2_with (first
    | (go_at_call 20; refine LO.mono ?_; rintro e w' ⟨rfl, rfl⟩)
    | (go_at_call 22; refine (AT _ k2).mono ?_; rintro e w' ⟨rfl, rfl⟩)
    | (go_at_call 44; refine (SZ _).mono ?_; rintro e w' ⟨rfl, rfl⟩)
    | (go_at_call 38; refine (DE _ kx).mono ?_; rintro e y1 ⟨rfl, hy1⟩)
    | (go_at_call 48; refine (FT _).mono ?_; rintro e y2 ⟨rfl, hy2⟩; have hyy := keepB hy1 hy2; obtain ⟨j0, j1, j2, jf0, jf2, j3, j4⟩ := CE _ hyy))
  have gl : g < y2.heap.size := Sd.lt_of_cell j3
  have dl : d < y2.heap.size := Sd.lt_of_cell j0
  refine wp_region_noPanic ?_
  go_region_with (go_at_call 26; refine (NE _).mono ?_; rintro e y3 ⟨g', rfl, hg', sg', hy3⟩; have hy4 : Below y2.heap.size y2 y3 := keepB ((Below.refl _ y2).drew) hy3; obtain ⟨v0, v1, v2, vf0, vf2, v3, v4⟩ := CE _ (keepB hyy hy4))
  all_goals (
    refine NoPanic.normal ?_
    go_wp2_with (go_at_call 49; refine (CO _).mono ?_; rintro e y5 ⟨rfl, rfl⟩)
    obtain ⟨M3, FS, FF⟩ := FIN _ g' (keepB hyy hy4) sg' (key_kept (keepB hyy hy4) kx)
    obtain ⟨l0, l2, lf⟩ := Mu.cells M3
    refine leaves_cons (f := 21) (args := #[.pointer (some ⟨b, 0, Option.none⟩)]) (by simp) (by simp [go_sem]) ?_
    refine (unlock_deferred Lk.muLib ⟨b, 0, Option.none⟩ .returning _ l0 lf).mono ?_
    rintro e u' w'' ⟨rfl, rfl, rfl⟩
    exact ⟨_, results_tmp rfl _ _ _, rfl, FS, FF⟩)
end Go.Proofs.YtpifebapodfeaaaGreat.Sx
/- Slots: Change, refused. -/
namespace Go.Proofs.YtpifebapodfeaaaGreat.Sy
set_option linter.unusedVariables false
open Go.RowKit Pla Cb Sm Wd Nw Bk Eb Et Cc Ch Pm Fp Sp Pe Se Tg Sd Sq Sr Wk Sx
open Ck (z64)
open Go.MuLone in
set_option maxRecDepth 100000 in
set_option maxHeartbeats 1600000 in
theorem Change_bad (b d n s : Nat) (f : Nat → Option Held) (h : Held) (hs : s < n) (hf : f s = Option.some h) (hx : h.ex.size = 16) (wr ck : ByteArray) (hw : wr.size = h.key.size) (E : Int) (hE : fitE (newKey h.ex wr) ck = E) (hE0 : (E != 0) = true) (w : World) (hS : Slots w b d n f) :
    Calls Tryz.prog 32 #[.pointer (some ⟨b, 0, Option.none⟩), .int .i64 (s : Int), .string wr, .string ck] w fun e w' => e = .returned (.int .i64 E) ∧ Slots w' b d n f ∧ Fr b d w w' := by
  obtain ⟨hm, n1, n2, A, hr⟩ := hS
  have SH := fun y hy => shut (y := y) hm n1 n2 hr hy
  obtain ⟨m0, m2, mf⟩ := hm.cells
  obtain ⟨M1, R1⟩ := locked hm hr
  have LO := lock_free Lk.muLib ⟨b, 0, Option.none⟩ w m0 mf
  generalize w.setCell ⟨b, 0, Option.none⟩ (.int .i32 1) = W1 at *
  obtain ⟨k0, k2, kf⟩ := M1.cells
  obtain ⟨p, x, r, a0, a1, a2, hh⟩ := R1.2.2 s hs
  rw [hf] at hh
  obtain ⟨ok, rfl, ⟨g, rfl, sg⟩, hx'⟩ := hh
  obtain ⟨gx, rfl, kx⟩ : ∃ gx, x = .pointer (some ⟨gx, 0, Option.none⟩) ∧ Key W1 gx 2 h.ex.data.toList := by
    rcases hx' with ⟨e, _⟩ | ⟨_, gx, e, k⟩
    · omega
    · exact ⟨gx, e, k⟩
  have AT := fun y hy => at_in b d n s hs n2 y hy
  obtain ⟨N, hN, hN2⟩ : ∃ N, wr.size = 8 * N ∧ (N = 1 ∨ N = 2) := by
    rcases ok.alg with e | e
    · exact ⟨1, by rw [hw, ok.key, e], .inl rfl⟩
    · exact ⟨2, by rw [hw, ok.key, e], .inr rfl⟩
  have DE := fun y hy => Dec_good wr gx 2 N h.ex.data.toList y hN (by omega) (⟨by rw [len_size, hx]; rfl, by decide⟩ : kindN h.ex.data.toList.length = 2 ∧ 1 ≤ 2) hy
  have nks := newKey_size h.ex wr N hN
  have FT := fun y => fit_any (newKey h.ex wr) ck N nks hN2 y
  rw [hE] at FT
  have SZ := fun y => size_any (h.alg : Int) y
  have hks : ksz (h.alg : Int) = (h.key.size : Int) := by rw [ok.key]; rcases ok.alg with e | e <;> rw [e] <;> rfl
  rw [hks] at SZ
  have CE : ∀ y : World, Below W1.heap.size W1 y → y.cell? ⟨d, s * 3, Option.none⟩ = some (.pointer (some ⟨g, 0, Option.none⟩)) ∧ y.cell? ⟨d, s * 3 + 1, Option.none⟩ = some (.pointer (some ⟨gx, 0, Option.none⟩)) ∧ y.cell? ⟨d, s * 3 + 2, Option.none⟩ = some (.int .i64 (h.round : Int)) ∧ y.frozen? ⟨d, s * 3, Option.none⟩ = false ∧ y.frozen? ⟨d, s * 3 + 2, Option.none⟩ = false ∧ y.cell? ⟨g, 0, Option.none⟩ = some (.int .i64 (h.alg : Int)) ∧ y.cell? ⟨g, 1, Option.none⟩ = some (.int .i64 (h.m : Int)) := by
    intro y hy
    have hd := Cb.kept hy R1.2.1
    obtain ⟨g1, p2, q1, _⟩ := sg
    obtain ⟨t0, t1, _⟩ := four (Cb.kept hy q1)
    exact ⟨by rw [cell_of_row y _ _ _ _ _ hd, a0], by rw [cell_of_row y _ _ _ _ _ hd, a1], by rw [cell_of_row y _ _ _ _ _ hd, a2], Pd.R_frozen hd _, Pd.R_frozen hd _, t0, t1⟩
  have qw : ((wr.size : Int) != (h.key.size : Int)) = false := by simp only [bne_eq_false_iff_eq]; omega
  change ∀ y, Key y gx 2 _ → Calls _ _ _ y fun e w' => e = .returned (.tuple #[.string (newKey h.ex wr), .int .i64 0]) ∧ _ at DE
  generalize (newKey h.ex wr) = nk at *
  generalize s * 3 = o at *
  obtain ⟨i0, i1, i2, if0, if2, i3, i4⟩ := CE W1 (Below.refl _ _)
  clear hm hr R1 a0 a1 a2 hx ok hs hw hE hf hx' hN hN2 nks hks
  go_enter_defers Tryz.func32, Tryz.ntmps32
  go_wp2_with (first
    | (go_at_call 20; refine LO.mono ?_; rintro e w' ⟨rfl, rfl⟩)
    | (go_at_call 22; refine (AT _ k2).mono ?_; rintro e w' ⟨rfl, rfl⟩)
    | (go_at_call 44; refine (SZ _).mono ?_; rintro e w' ⟨rfl, rfl⟩)
    | (go_at_call 38; refine (DE _ kx).mono ?_; rintro e y1 ⟨rfl, hy1⟩)
    | (go_at_call 48; refine (FT _).mono ?_; rintro e y2 ⟨rfl, hy2⟩; have hyy := keepB hy1 hy2))
  obtain ⟨l0, l2, lf⟩ := Mu.cells (Cb.kept hyy M1)
  refine leaves_cons (f := 21) (args := #[.pointer (some ⟨b, 0, Option.none⟩)]) (by simp) (by simp [go_sem]) ?_
  refine (unlock_deferred Lk.muLib ⟨b, 0, Option.none⟩ .returning _ l0 lf).mono ?_
  rintro e u' w'' ⟨rfl, rfl, rfl⟩
  exact ⟨_, results_tmp rfl _ _ _, rfl, SH _ hyy⟩
open Go.MuLone in
set_option maxRecDepth 100000 in
set_option maxHeartbeats 1600000 in
theorem Change_key (b d n s : Nat) (f : Nat → Option Held) (h : Held) (hs : s < n) (hf : f s = Option.some h) (hx : h.ex.size = 16) (wr ck : ByteArray) (hw : wr.size ≠ h.key.size) (w : World) (hS : Slots w b d n f) :
    Calls Tryz.prog 32 #[.pointer (some ⟨b, 0, Option.none⟩), .int .i64 (s : Int), .string wr, .string ck] w fun e w' => e = .returned (.int .i64 30) ∧ Slots w' b d n f ∧ Fr b d w w' := by
  obtain ⟨hm, n1, n2, A, hr⟩ := hS
  have SH := fun y hy => shut (y := y) hm n1 n2 hr hy
  obtain ⟨m0, m2, mf⟩ := hm.cells
  obtain ⟨M1, R1⟩ := locked hm hr
  have LO := lock_free Lk.muLib ⟨b, 0, Option.none⟩ w m0 mf
  generalize w.setCell ⟨b, 0, Option.none⟩ (.int .i32 1) = W1 at *
  obtain ⟨k0, k2, kf⟩ := M1.cells
  obtain ⟨p, x, r, a0, a1, a2, hh⟩ := R1.2.2 s hs
  rw [hf] at hh
  obtain ⟨ok, rfl, ⟨g, rfl, sg⟩, hx'⟩ := hh
  obtain ⟨gx, rfl, kx⟩ : ∃ gx, x = .pointer (some ⟨gx, 0, Option.none⟩) ∧ Key W1 gx 2 h.ex.data.toList := by
    rcases hx' with ⟨e, _⟩ | ⟨_, gx, e, k⟩
    · omega
    · exact ⟨gx, e, k⟩
  have AT := fun y hy => at_in b d n s hs n2 y hy
  have SZ := fun y => size_any (h.alg : Int) y
  have hks : ksz (h.alg : Int) = (h.key.size : Int) := by rw [ok.key]; rcases ok.alg with e | e <;> rw [e] <;> rfl
  rw [hks] at SZ
  have CE : ∀ y : World, Below W1.heap.size W1 y → y.cell? ⟨d, s * 3, Option.none⟩ = some (.pointer (some ⟨g, 0, Option.none⟩)) ∧ y.cell? ⟨d, s * 3 + 1, Option.none⟩ = some (.pointer (some ⟨gx, 0, Option.none⟩)) ∧ y.cell? ⟨d, s * 3 + 2, Option.none⟩ = some (.int .i64 (h.round : Int)) ∧ y.frozen? ⟨d, s * 3, Option.none⟩ = false ∧ y.frozen? ⟨d, s * 3 + 2, Option.none⟩ = false ∧ y.cell? ⟨g, 0, Option.none⟩ = some (.int .i64 (h.alg : Int)) ∧ y.cell? ⟨g, 1, Option.none⟩ = some (.int .i64 (h.m : Int)) := by
    intro y hy
    have hd := Cb.kept hy R1.2.1
    obtain ⟨g1, p2, q1, _⟩ := sg
    obtain ⟨t0, t1, _⟩ := four (Cb.kept hy q1)
    exact ⟨by rw [cell_of_row y _ _ _ _ _ hd, a0], by rw [cell_of_row y _ _ _ _ _ hd, a1], by rw [cell_of_row y _ _ _ _ _ hd, a2], Pd.R_frozen hd _, Pd.R_frozen hd _, t0, t1⟩
  have qw : ((wr.size : Int) != (h.key.size : Int)) = true := by simp only [bne_iff_ne]; omega
  generalize s * 3 = o at *
  obtain ⟨i0, i1, i2, if0, if2, i3, i4⟩ := CE W1 (Below.refl _ _)
  clear hm hr R1 a0 a1 a2 hx ok hs hw hf hx' hks
  go_enter_defers Tryz.func32, Tryz.ntmps32
  go_wp2_with (first
    | (go_at_call 20; refine LO.mono ?_; rintro e w' ⟨rfl, rfl⟩)
    | (go_at_call 22; refine (AT _ k2).mono ?_; rintro e w' ⟨rfl, rfl⟩)
    | (go_at_call 44; refine (SZ _).mono ?_; rintro e w' ⟨rfl, rfl⟩))
  refine leaves_cons (f := 21) (args := #[.pointer (some ⟨b, 0, Option.none⟩)]) (by simp) (by simp [go_sem]) ?_
  refine (unlock_deferred Lk.muLib ⟨b, 0, Option.none⟩ .returning _ k0 kf).mono ?_
  rintro e u' w'' ⟨rfl, rfl, rfl⟩
  exact ⟨_, results_tmp rfl _ _ _, rfl, SH _ (Below.refl _ _)⟩
open Go.MuLone in
set_option maxRecDepth 100000 in
set_option maxHeartbeats 1600000 in
theorem Change_nox (b d n s : Nat) (f : Nat → Option Held) (hs : s < n) (hf : ∀ h, f s = Option.some h → h.ex.size = 0) (wr ck : ByteArray) (w : World) (hS : Slots w b d n f) :
    Calls Tryz.prog 32 #[.pointer (some ⟨b, 0, Option.none⟩), .int .i64 (s : Int), .string wr, .string ck] w fun e w' => e = .returned (.int .i64 40) ∧ Slots w' b d n f ∧ Fr b d w w' := by
  obtain ⟨hm, n1, n2, A, hr⟩ := hS
  have SH := fun y hy => shut (y := y) hm n1 n2 hr hy
  obtain ⟨m0, m2, mf⟩ := hm.cells
  obtain ⟨M1, R1⟩ := locked hm hr
  have LO := lock_free Lk.muLib ⟨b, 0, Option.none⟩ w m0 mf
  generalize w.setCell ⟨b, 0, Option.none⟩ (.int .i32 1) = W1 at *
  obtain ⟨k0, k2, kf⟩ := M1.cells
  obtain ⟨p, x, r, a0, a1, a2, hh⟩ := R1.2.2 s hs
  have ex : x = .pointer Option.none := by
    cases hfs : f s with
    | none => rw [hfs] at hh; exact hh.2.1
    | some h =>
      rw [hfs] at hh
      rcases hh.2.2.2 with ⟨_, e⟩ | ⟨e, _⟩
      · exact e
      · have := hf h hfs; omega
  subst ex
  have c1 : W1.cell? ⟨d, s * 3 + 1, Option.none⟩ = some (.pointer Option.none) := by rw [cell_of_row W1 _ _ _ _ _ R1.2.1, a1]
  have AT := fun y hy => at_in b d n s hs n2 y hy
  generalize s * 3 = o at *
  clear hm hr R1 a0 a1 a2 hs hh hf
  go_enter_defers Tryz.func32, Tryz.ntmps32
  go_wp2_with (first
    | (go_at_call 20; refine LO.mono ?_; rintro e w' ⟨rfl, rfl⟩)
    | (go_at_call 22; refine (AT _ k2).mono ?_; rintro e w' ⟨rfl, rfl⟩))
  refine leaves_cons (f := 21) (args := #[.pointer (some ⟨b, 0, Option.none⟩)]) (by simp) (by simp [go_sem]) ?_
  refine (unlock_deferred Lk.muLib ⟨b, 0, Option.none⟩ .returning _ k0 kf).mono ?_
  rintro e u' w'' ⟨rfl, rfl, rfl⟩
  exact ⟨_, results_tmp rfl _ _ _, rfl, SH _ (Below.refl _ _)⟩
open Go.MuLone in
set_option maxRecDepth 100000 in
set_option maxHeartbeats 1600000 in
theorem Change_out (b d n : Nat) (f : Nat → Option Held) (a : Int) (ha : a < 0 ∨ (n : Int) ≤ a) (wr ck : ByteArray) (w : World) (hS : Slots w b d n f) :
    Calls Tryz.prog 32 #[.pointer (some ⟨b, 0, Option.none⟩), .int .i64 a, .string wr, .string ck] w fun e w' => e = .returned (.int .i64 40) ∧ Slots w' b d n f ∧ Fr b d w w' := by
  obtain ⟨hm, n1, n2, A, hr⟩ := hS
  have SH := fun y hy => shut (y := y) hm n1 n2 hr hy
  obtain ⟨m0, m2, mf⟩ := hm.cells
  obtain ⟨M1, R1⟩ := locked hm hr
  have LO := lock_free Lk.muLib ⟨b, 0, Option.none⟩ w m0 mf
  generalize w.setCell ⟨b, 0, Option.none⟩ (.int .i32 1) = W1 at *
  obtain ⟨k0, k2, kf⟩ := M1.cells
  have AT := fun y hy => at_out b d n a ha n2 y hy
  clear hm hr R1 ha
  go_enter_defers Tryz.func32, Tryz.ntmps32
  go_wp2_with (first
    | (go_at_call 20; refine LO.mono ?_; rintro e w' ⟨rfl, rfl⟩)
    | (go_at_call 22; refine (AT _ k2).mono ?_; rintro e w' ⟨rfl, rfl⟩))
  refine leaves_cons (f := 21) (args := #[.pointer (some ⟨b, 0, Option.none⟩)]) (by simp) (by simp [go_sem]) ?_
  refine (unlock_deferred Lk.muLib ⟨b, 0, Option.none⟩ .returning _ k0 kf).mono ?_
  rintro e u' w'' ⟨rfl, rfl, rfl⟩
  exact ⟨_, results_tmp rfl _ _ _, rfl, SH _ (Below.refl _ _)⟩
end Go.Proofs.YtpifebapodfeaaaGreat.Sy
/- The document's slots: Tag, Right, Change. -/
namespace Go.Proofs.YtpifebapodfeaaaGreat.Dg
set_option linter.unusedVariables false
open Go.RowKit Pla Cb Sm Wd Nw Bk Eb Et Cc Ch Pm Fp Sp Pe Se Tg Sd Sq Sr Dd De Rg Df Wk Sx
open Ck (z64)
/-- what Tag tells -/
def tagO (o : Option Held) (t : ByteArray) : ByteArray := match o with
  | Option.none => ⟨#[]⟩
  | Option.some h => tagB h.alg h.m h.key t
def tagE (o : Option Held) : Int := match o with
  | Option.none => 40
  | Option.some _ => 0
set_option maxRecDepth 100000 in
set_option maxHeartbeats 1600000 in
theorem Tagr (b d n : Nat) (f : Nat → Option Held) (a : Int) (hok : ∀ h, getO n f a = Option.some h → h.Ok) (text : ByteArray) (ht : text.size ≤ 1100000) (w : World) (hS : DSlots w b d n f) :
    Calls Tryz.prog 9 #[.pointer (some ⟨b, 0, Option.none⟩), .int .i64 a, .string text] w fun e w' => e = .returned (.tuple #[.string (tagO (getO n f a) text), .int .i64 (tagE (getO n f a))]) ∧ Below w.heap.size w w' := by
  have AT := fun y hy => atr_any b d n f a y hy
  generalize getO n f a = o at *
  cases o with
  | none =>
    simp only [dC, hasB] at AT
    clear hok
    go_enter Tryz.func9, Tryz.ntmps9
    go_wp2_with (go_at_call 24; refine (AT _ hS).mono ?_; rintro e y ⟨rfl, hy⟩)
    exact bodyPost_ret (v := .tuple #[.string ⟨#[]⟩, .int .i64 40]) (by simp [results, Tryz.results9, go_sem]) rfl ⟨rfl, keepB hy (below_one y _)⟩
  | some h =>
    have ok := hok h rfl
    simp only [dC, hasB] at AT
    have TG := fun y => tagr_good h.alg h.m ok.alg ok.m h.key ok.key text ht y
    simp only [tagO, tagE]
    generalize tagB h.alg h.m h.key text = T at *
    clear hok ok
    go_enter Tryz.func9, Tryz.ntmps9
    go_wp2_with (first
      | (go_at_call 24; refine (AT _ hS).mono ?_; rintro e y ⟨rfl, hy⟩; have hy2 := below_one y (Obj.cells #[.bool true, .int .i64 (h.alg : Int), .int .i64 (h.m : Int), .string h.key, .string h.ex, .int .i64 (h.round : Int)] 67))
      | (go_at_call 25; refine (TG _).mono ?_; rintro e z ⟨rfl, hz⟩))
    exact bodyPost_ret (v := .tuple #[.string T, .int .i64 0]) (by simp [results, Tryz.results9, go_sem]) rfl ⟨rfl, keepB (keepB hy hy2) hz⟩
def rightO (o : Option Held) (t g : ByteArray) : Bool := match o with
  | Option.none => false
  | Option.some h => (tagB h.alg h.m h.key t).toList == g.toList
set_option maxRecDepth 100000 in
set_option maxHeartbeats 1600000 in
theorem Rightr (b d n : Nat) (f : Nat → Option Held) (a : Int) (hok : ∀ h, getO n f a = Option.some h → h.Ok) (text tag : ByteArray) (ht : text.size ≤ 1100000) (w : World) (hS : DSlots w b d n f) :
    Calls Tryz.prog 18 #[.pointer (some ⟨b, 0, Option.none⟩), .int .i64 a, .string text, .string tag] w fun e w' => e = .returned (.tuple #[.bool (rightO (getO n f a) text tag), .int .i64 (tagE (getO n f a))]) ∧ Below w.heap.size w w' := by
  have TA := Tagr b d n f a hok text ht w hS
  generalize getO n f a = o at *
  clear hok hS
  cases o with
  | none =>
    simp only [tagO, tagE, rightO] at TA ⊢
    go_enter Tryz.func18, Tryz.ntmps18
    go_wp2_with (go_at_call 9; refine TA.mono ?_; rintro e y ⟨rfl, hy⟩)
    exact bodyPost_ret (v := .tuple #[.bool false, .int .i64 40]) (by simp [results, Tryz.results18, go_sem]) rfl ⟨rfl, hy⟩
  | some h =>
    simp only [tagO, tagE, rightO] at TA ⊢
    generalize tagB h.alg h.m h.key text = T at *
    go_enter Tryz.func18, Tryz.ntmps18
    go_wp2_with (go_at_call 9; refine TA.mono ?_; rintro e y ⟨rfl, hy⟩)
    exact bodyPost_ret (v := .tuple #[.bool (T.toList == tag.toList), .int .i64 0]) (by simp [results, Tryz.results18, go_sem]) rfl ⟨rfl, hy⟩
end Go.Proofs.YtpifebapodfeaaaGreat.Dg
