/- The document's reader: tags. -/
import Derived.Test.YtgidjfhlooggkaaMr
import Derived.Test.YtgidjfhlooggkaaGo
import Derived.BigQuiet
namespace Go.Proofs.Ytgidjfhlooggkaa.Rr
set_option linter.unusedVariables false
set_option linter.unusedSimpArgs false
open Go.RowKit Kb Ga Gb Gc Gd Nt Gf Gg
def Rb (w : World) (g : Nat) (s : ByteArray) (at_ many e bad : Int) : Prop := w.heap[g]? = some (.cells #[.string s, .int .i64 at_, .int .i64 many, .int .i64 e, .int .i64 bad] 67)
theorem Rb.at {w : World} {g : Nat} {s : ByteArray} {a m e b : Int} (h : Rb w g s a m e b) :
    (w.cell? ⟨g, 0, none⟩ = some (.string s) ∧ w.cell? ⟨g, 1, none⟩ = some (.int .i64 a) ∧ w.cell? ⟨g, 2, none⟩ = some (.int .i64 m) ∧ w.cell? ⟨g, 3, none⟩ = some (.int .i64 e) ∧ w.cell? ⟨g, 4, none⟩ = some (.int .i64 b)) ∧ ∀ o, w.frozen? ⟨g, o, none⟩ = false := by
  have h' : w.heap[g]? = some (.cells #[.string s, .int .i64 a, .int .i64 m, .int .i64 e, .int .i64 b] 67) := h
  refine ⟨⟨?_, ?_, ?_, ?_, ?_⟩, fun o => ?_⟩ <;> simp [World.cell?, World.frozen?, h']
structure Rk (w : World) (g : Nat) (s : ByteArray) (a m e b : Int) (w' : World) : Prop where
  rb : Rb w' g s a m e b
  gr : w.grownBy w' (some g)
theorem Rk.then {w x y : World} {g : Nat} {s : ByteArray} {a m e b a' m' e' b' : Int} (h : Rk w g s a m e b x) (k : Rk x g s a' m' e' b' y) : Rk w g s a' m' e' b' y := ⟨k.1, gr_trans h.2 k.2⟩
theorem Rk.below {w x y : World} {g : Nat} {s : ByteArray} {a m e b : Int} (h : Rk w g s a m e b x) (k : Below x.heap.size x y) : Rk w g s a m e b y := ⟨kept k h.1, gr_trans h.2 (gr_below k _)⟩
theorem Rk.again {w x : World} {g : Nat} {s : ByteArray} {a m e b : Int} (h : Rk w g s a m e b x) : Rk x g s a m e b x := ⟨h.1, gr_refl _ _⟩
theorem Rk.set1 {w x : World} {g : Nat} {s : ByteArray} {a m e b : Int} (h : Rk w g s a m e b x) (z : Int) : Rk w g s z m e b (x.setCell ⟨g, 1, none⟩ (.int .i64 z)) := ⟨by unfold Rb; rw [setCell_heap h.1]; rfl, gr_trans h.2 (gr_set _ _ _ _)⟩
theorem Rk.set2 {w x : World} {g : Nat} {s : ByteArray} {a m e b : Int} (h : Rk w g s a m e b x) (z : Int) : Rk w g s a z e b (x.setCell ⟨g, 2, none⟩ (.int .i64 z)) := ⟨by unfold Rb; rw [setCell_heap h.1]; rfl, gr_trans h.2 (gr_set _ _ _ _)⟩
theorem Rk.set34 {w x : World} {g : Nat} {s : ByteArray} {a m e b : Int} (h : Rk w g s a m e b x) (y z : Int) : Rk w g s a m y z ((x.setCell ⟨g, 3, none⟩ (.int .i64 y)).setCell ⟨g, 4, none⟩ (.int .i64 z)) := by
  have h1 : (x.setCell ⟨g, 3, none⟩ (.int .i64 y)).heap[g]? = some (.cells #[.string s, .int .i64 a, .int .i64 m, .int .i64 y, .int .i64 b] 67) := by rw [setCell_heap h.1]; rfl
  exact ⟨by unfold Rb; rw [setCell_heap h1]; rfl, gr_trans h.2 (gr_trans (gr_set _ _ _ _) (gr_set _ _ _ _))⟩
theorem byt_get (s : ByteArray) (k : Nat) (h : k < s.size) : byt s k = ((s[k]'h).toNat : Int) := by
  have h2 : k < s.data.size := h
  unfold byt
  rw [Array.getD_eq_getD_getElem?, Array.getElem?_eq_getElem h2]
  rfl
set_option maxRecDepth 100000 in
theorem wrong_doc {w : World} {g : Nat} {s : ByteArray} {a m b : Int} (h : Rk w g s a m 0 b w) (y z : Int) :
    Calls Try.prog 68 #[.pointer (some ⟨g, 0, none⟩), .int .i64 y, .int .i64 z] w fun e w' => e = .returned (.tuple #[]) ∧ Rk w g s a m y z w' := by
  obtain ⟨⟨c0, c1, c2, c3, c4⟩, fz⟩ := h.1.at
  have f3 := fz 3
  have h1 : Rb (w.setCell ⟨g, 3, none⟩ (.int .i64 y)) g s a m y b := by unfold Rb; rw [setCell_heap h.1]; rfl
  obtain ⟨⟨d0, d1, d2, d3, d4⟩, fz1⟩ := h1.at
  have f4 := fz1 4
  have hK := h.set34 y z
  clear c0 c1 c2 c4 d0 d1 d2 d3 fz fz1 h1
  go_enter Try.func68, Try.ntmps68
  go_wp2
  go_end0
  exact ⟨rfl, hK⟩
/-- what reading a number tells -/
def PostN (w : World) (g : Nat) (s : ByteArray) (m : Int) : Rs → Ending → World → Prop
  | .ok t k, e, w' => e = .returned (.int .i64 t) ∧ Rk w g s (k : Int) m 0 0 w'
  | .bad y a, e, w' => e = .returned (.int .i64 0) ∧ ∃ k : Int, Rk w g s k m y a w'
set_option maxRecDepth 100000 in
set_option maxHeartbeats 3200000 in
theorem tag_doc {w : World} {g k e : Nat} {s : ByteArray} {m : Int} (h : Rk w g s (k : Int) m 0 0 w) (hk : k ≤ e) (he : e ≤ s.size) (hs : s.size ≤ 1048576) :
    Calls Try.prog 69 #[.pointer (some ⟨g, 0, none⟩), .int .i64 (e : Int)] w (PostN w g s m (tagR s k (e : Int))) := by
  obtain ⟨R, HR⟩ : ∃ R, Hid (tagR s k (e : Int) = R) := ⟨_, rfl⟩
  rw [HR.out]
  go_enter Try.func69, Try.ntmps69
  by_cases k0 : k < e
  case neg =>
    have HT : Hid (R = .bad 10 (e : Int)) := by show _ = _; rw [← HR.out]; unfold tagR; rw [if_neg (by omega)]
    have k0' : (e : Int) ≤ (k : Int) := by omega
    obtain ⟨⟨c0, c1, c2, c3, c4⟩, fz⟩ := h.1.at
    go_wp2_with fail
    refine (wrong_doc h.again 10 (e : Int)).mono ?_
    rintro _ y ⟨rfl, hy⟩
    clear c0 c1 c2 c3 c4 fz
    go_wp2
    go_ret
    rw [HT.out]
    exact ⟨rfl, _, hy⟩
  obtain ⟨⟨c0, c1, c2, c3, c4⟩, fz⟩ := h.1.at
  have ix : k < s.size := by omega
  have ix' : ((k : Nat) : Int) < (s.size : Int) := by omega
  obtain ⟨a, Ha⟩ : ∃ a : Int, Hid (a = byt s (k)) := ⟨_, rfl⟩
  have bx : ((s[k]'ix).toNat : Int) = a := by rw [Ha.out]; exact (byt_get s (k) ix).symm
  have ba : 0 ≤ a ∧ a ≤ 255 := by rw [Ha.out]; exact byt_bd s (k)
  have kx : ¬ (e : Int) ≤ ((k : Nat) : Int) := by omega
  go_wp2_with fail
  go_quiet (fail)
  replace h := h.below (below_drewN (Below.refl w.heap.size w) nq)
  clear c0 c1 c2 c3 c4 fz
  generalize w.drewN nq = y1 at *
  clear bx
  by_cases a0 : a = 0
  case pos =>
    have HT : Hid (R = .bad 90 (k : Int)) := by show _ = _; have ha := Ha.out; rw [← HR.out]; unfold tagR; rw [if_pos (by omega), if_pos (by omega)]
    have a0' : (a == 0) = true := by simpa using a0
    clear a0
    obtain ⟨⟨c0, c1, c2, c3, c4⟩, fz⟩ := h.1.at
    go_wp2_with fail
    refine (wrong_doc h.again 90 (k : Int)).mono ?_
    rintro _ y ⟨rfl, hy⟩
    clear c0 c1 c2 c3 c4 fz
    go_wp2
    go_ret
    rw [HT.out]
    exact ⟨rfl, _, h.then hy⟩
  have a0' : (a == 0) = false := by simpa using a0
  have h1 := h.set1 ((k : Int) + 1)
  obtain ⟨⟨c0, c1, c2, c3, c4⟩, fz⟩ := h.1.at
  have f1 := fz 1
  clear c0 c2 c3 c4 fz
  have ap : 0 ≤ a := by omega
  by_cases a1 : a % 32 = 31
  case neg =>
    have HT : Hid (R = .ok a (k + 1)) := by show _ = _; have ha := Ha.out; rw [← HR.out]; unfold tagR; rw [if_pos (by omega), if_neg (by omega), if_pos (by omega), ← ha]
    have a1' : (a % 32 != 31) = true := by simpa using a1
    clear a0 a1
    go_wp2
    go_ret
    rw [HT.out]
    exact ⟨rfl, by rw [show ((k + 1 : Nat) : Int) = (k : Int) + 1 by omega]; exact h1⟩
  have a1' : (a % 32 != 31) = false := by simpa using a1
  rw [show (k : Int) + 1 = ((k + 1 : Nat) : Int) by omega] at h1
  have ek : Hid ((k : Int) + 1 = ((k + 1 : Nat) : Int)) := by show _ = _; omega
  by_cases k1 : k + 1 < e
  case neg =>
    have HT : Hid (R = .bad 10 (e : Int)) := by show _ = _; have ha := Ha.out; rw [← HR.out]; unfold tagR; rw [if_pos (by omega), if_neg (by omega), if_neg (by omega), if_neg (by omega)]
    have k1' : (e : Int) ≤ (k : Int) + 1 := by omega
    obtain ⟨⟨d0, d1, d2, d3, d4⟩, dz⟩ := h1.1.at
    rw [← ek.out] at d1 h1
    clear a1 ek a0
    go_wp2_with fail
    refine (wrong_doc h1.again 10 (e : Int)).mono ?_
    rintro _ y ⟨rfl, hy⟩
    clear c1 f1 d0 d1 d2 d3 d4 dz
    go_wp2
    go_ret
    rw [HT.out]
    exact ⟨rfl, _, h1.then hy⟩
  have kn1 : ¬ (e : Int) ≤ (k : Int) + 1 := by omega
  have HA0 : Hid (¬ a = 0 ∧ a % 32 = 31) := ⟨a0, a1⟩
  obtain ⟨⟨d0, d1, d2, d3, d4⟩, dz⟩ := h1.1.at
  rw [← ek.out] at d1 h1 d0
  clear a0 a1 d0 d2 d3 d4 dz kx ix ix'
  go_wp2_with fail
  rw [ek.out] at h1 ⊢
  clear c1 f1 d1 h kn1 ek
  obtain ⟨K1, HK1⟩ : ∃ K1, Hid (k + 1 = K1) := ⟨_, rfl⟩
  rw [HK1.out] at h1 ⊢
  generalize y1.setCell ⟨g, 1, none⟩ (.int .i64 (K1 : Int)) = z1 at *
  obtain ⟨⟨c0, c1, c2, c3, c4⟩, fz⟩ := h1.1.at
  have ix : K1 < s.size := by have := HK1.out; omega
  have ix' : ((K1 : Nat) : Int) < (s.size : Int) := by omega
  obtain ⟨b, Hb⟩ : ∃ b : Int, Hid (b = byt s (K1)) := ⟨_, rfl⟩
  have bx : ((s[K1]'ix).toNat : Int) = b := by rw [Hb.out]; exact (byt_get s (K1) ix).symm
  have bb : 0 ≤ b ∧ b ≤ 255 := by rw [Hb.out]; exact byt_bd s (K1)
  have kx : ¬ (e : Int) ≤ ((K1 : Nat) : Int) := by have := HK1.out; omega
  go_quiet (fail)
  replace h1 := h1.below (below_drewN (Below.refl z1.heap.size z1) nq)
  clear c0 c1 c2 c3 c4 fz
  generalize z1.drewN nq = y2 at *
  clear bx
  replace Hb : Hid (b = byt s (k + 1)) := by show _ = _; rw [HK1.out]; exact Hb.out
  by_cases b0 : b = 128
  case pos =>
    have HT : Hid (R = .bad 90 (K1 : Int)) := by show _ = _; have ha := Ha.out; have hb := Hb.out; have hh := HA0.out; rw [← HR.out, ← HK1.out]; unfold tagR; rw [if_pos (by omega), if_neg (by omega), if_neg (by omega), if_pos (by omega), if_pos (by omega)]
    have b0' : (b == 128) = true := by simpa using b0
    clear b0
    obtain ⟨⟨c0, c1, c2, c3, c4⟩, fz⟩ := h1.1.at
    go_wp2_with fail
    refine (wrong_doc h1.again 90 (K1 : Int)).mono ?_
    rintro _ y ⟨rfl, hy⟩
    clear c0 c1 c2 c3 c4 fz
    go_wp2
    go_ret
    rw [HT.out]
    exact ⟨rfl, _, h1.then hy⟩
  have b0' : (b == 128) = false := by simpa using b0
  have h2 := h1.set1 ((K1 : Int) + 1)
  obtain ⟨⟨c0, c1, c2, c3, c4⟩, fz⟩ := h1.1.at
  have f1 := fz 1
  clear c0 c2 c3 c4 fz
  by_cases b1 : b < 128
  case pos =>
    have HT : Hid (R = .ok (256 * a + b) (k + 2)) := by show _ = _; have ha := Ha.out; have hb := Hb.out; have hh := HA0.out; rw [← HR.out]; unfold tagR; rw [if_pos (by omega), if_neg (by omega), if_neg (by omega), if_pos (by omega), if_neg (by omega), if_pos (by omega), ← ha, ← hb, show a * 256 + b = 256 * a + b by omega]
    clear b0
    go_wp2
    go_ret
    rw [HT.out]
    exact ⟨rfl, by rw [show ((k + 2 : Nat) : Int) = (K1 : Int) + 1 by have := HK1.out; omega]; exact h2⟩
  by_cases k2 : K1 + 1 < e
  case neg =>
    have HT : Hid (R = .bad 10 (e : Int)) := by show _ = _; have := HK1.out; have ha := Ha.out; have hb := Hb.out; have hh := HA0.out; rw [← HR.out]; unfold tagR; rw [if_pos (by omega), if_neg (by omega), if_neg (by omega), if_pos (by omega), if_neg (by omega), if_neg (by omega), if_neg (by omega)]
    have k2' : (e : Int) ≤ (K1 : Int) + 1 := by omega
    obtain ⟨⟨d0, d1, d2, d3, d4⟩, dz⟩ := h2.1.at
    clear b0
    go_wp2_with fail
    refine (wrong_doc h2.again 10 (e : Int)).mono ?_
    rintro _ y ⟨rfl, hy⟩
    clear c1 f1 d0 d1 d2 d3 d4 dz
    go_wp2
    go_ret
    rw [HT.out]
    exact ⟨rfl, _, h2.then hy⟩
  have kn2 : ¬ (e : Int) ≤ (K1 : Int) + 1 := by omega
  obtain ⟨⟨d0, d1, d2, d3, d4⟩, dz⟩ := h2.1.at
  have HB0 : Hid (¬ b = 128 ∧ ¬ b < 128) := ⟨b0, b1⟩
  have HK3 : Hid (k + 2 < e) := by show _ < _; have := HK1.out; omega
  clear b0 d0 d2 d3 d4 dz kx ix ix'
  go_wp2_with fail
  clear c1 f1 d1 h1 kn2 k2
  obtain ⟨K2, HK2, HC2⟩ : ∃ K2 : Nat, Hid (k + 2 = K2) ∧ (K1 : Int) + 1 = (K2 : Int) := ⟨k + 2, rfl, by have := HK1.out; omega⟩
  rw [HC2] at h2 ⊢
  clear HC2
  generalize y2.setCell ⟨g, 1, none⟩ (.int .i64 (K2 : Int)) = z2 at *
  obtain ⟨⟨c0, c1, c2, c3, c4⟩, fz⟩ := h2.1.at
  have ix : K2 < s.size := by have := HK2.out; have := HK3.out; omega
  have ix' : ((K2 : Nat) : Int) < (s.size : Int) := by omega
  obtain ⟨c, Hc⟩ : ∃ c : Int, Hid (c = byt s (K2)) := ⟨_, rfl⟩
  have bx : ((s[K2]'ix).toNat : Int) = c := by rw [Hc.out]; exact (byt_get s (K2) ix).symm
  have bc : 0 ≤ c ∧ c ≤ 255 := by rw [Hc.out]; exact byt_bd s (K2)
  have kx : ¬ (e : Int) ≤ ((K2 : Nat) : Int) := by have := HK2.out; have := HK3.out; omega
  go_quiet (fail)
  replace h2 := h2.below (below_drewN (Below.refl z2.heap.size z2) nq)
  clear c0 c1 c2 c3 c4 fz
  generalize z2.drewN nq = y3 at *
  clear bx
  replace Hc : Hid (c = byt s (k + 2)) := by show _ = _; rw [HK2.out]; exact Hc.out
  by_cases c0 : 127 < c
  case pos =>
    have HT : Hid (R = .bad 90 (K2 : Int)) := by show _ = _; have := HK3.out; have ha := Ha.out; have hb := Hb.out; have hc := Hc.out; have hh := HA0.out; have h9 := HB0.out; rw [← HR.out, ← HK2.out]; unfold tagR; rw [if_pos (by omega), if_neg (by omega), if_neg (by omega), if_pos (by omega), if_neg (by omega), if_neg (by omega), if_pos (by omega), if_neg (by omega)]
    obtain ⟨⟨d0, c1, c2, c3, c4⟩, fz⟩ := h2.1.at
    go_wp2_with fail
    refine (wrong_doc h2.again 90 (K2 : Int)).mono ?_
    rintro _ y ⟨rfl, hy⟩
    clear d0 c1 c2 c3 c4 fz
    go_wp2
    go_ret
    rw [HT.out]
    exact ⟨rfl, _, h2.then hy⟩
  have HT : Hid (R = .ok (65536 * a + 256 * b + c) (k + 3)) := by show _ = _; have := HK3.out; have ha := Ha.out; have hb := Hb.out; have hc := Hc.out; have hh := HA0.out; have h9 := HB0.out; rw [← HR.out]; unfold tagR; rw [if_pos (by omega), if_neg (by omega), if_neg (by omega), if_pos (by omega), if_neg (by omega), if_neg (by omega), if_pos (by omega), if_pos (by omega), ← ha, ← hb, ← hc, show a * 65536 + b * 256 + c = 65536 * a + 256 * b + c by omega]
  have h3 := h2.set1 ((K2 : Int) + 1)
  obtain ⟨⟨d0, c1, c2, c3, c4⟩, fz⟩ := h2.1.at
  have f1 := fz 1
  clear d0 c2 c3 c4 fz
  go_wp2
  go_ret
  rw [HT.out]
  exact ⟨rfl, by rw [show ((k + 3 : Nat) : Int) = (K2 : Int) + 1 by have := HK2.out; omega]; exact h3⟩
end Go.Proofs.Ytgidjfhlooggkaa.Rr
