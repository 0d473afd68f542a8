/- The law's maker of nodes: numbers, tags. -/
import Derived.Test.YtgidjfhlooggkaaGj
namespace Go.Proofs.Ytgidjfhlooggkaa.Mk
set_option linter.unusedVariables false
set_option linter.unusedSimpArgs false
open Go.RowKit Kb Ga Gb Gc Gd Nt
def pk (c n : Int) : Int := if c < 0 then -((c + 1).tmod n) else c % n
theorem pk_bd (c n : Int) (hn : 0 < n) : 0 ≤ pk c n ∧ pk c n < n := by
  unfold pk
  split
  · rw [← Int.neg_tmod]
    exact ⟨Int.tmod_nonneg _ (by omega), Int.tmod_lt_of_pos _ hn⟩
  · exact ⟨Int.emod_nonneg _ (by omega), Int.emod_lt_of_pos _ hn⟩
set_option maxRecDepth 100000 in
theorem pick_any (c n : Int) (w : World) (hc : -9223372036854775808 ≤ c) (hc2 : c ≤ 9223372036854775807) (hn : 0 < n) (hn2 : n ≤ 9223372036854775807) :
    Calls Try.prog 90 #[.int .i64 c, .int .i64 n] w fun e w' => e = .returned (.int .i64 (pk c n)) ∧ w' = w := by
  have b := pk_bd c n hn
  have n0 : ¬ n = 0 := by omega
  by_cases h : c < 0
  · have e : pk c n = -((c + 1).tmod n) := by unfold pk; rw [if_pos h]
    rw [e] at b ⊢
    go_enter Try.func90, Try.ntmps90
    go_wp2
    go_ret
    exact ⟨rfl, rfl⟩
  · have e : pk c n = c % n := by unfold pk; rw [if_neg h]
    rw [e] at b ⊢
    go_enter Try.func90, Try.ntmps90
    go_wp2
    go_ret
    exact ⟨rfl, rfl⟩
/-- the maker's block -/
def Mb (w : World) (g : Nat) (rv : Value) (a m : Int) : Prop := w.heap[g]? = some (.cells #[rv, .int .i64 a, .int .i64 m] 101)
theorem Mb.at {w : World} {g : Nat} {rv : Value} {a m : Int} (h : Mb w g rv a m) :
    (w.cell? ⟨g, 0, none⟩ = some rv ∧ w.cell? ⟨g, 1, none⟩ = some (.int .i64 a) ∧ w.cell? ⟨g, 2, none⟩ = some (.int .i64 m)) ∧ ∀ o, w.frozen? ⟨g, o, none⟩ = false := by
  have h' : w.heap[g]? = some (.cells #[rv, .int .i64 a, .int .i64 m] 101) := h
  refine ⟨⟨?_, ?_, ?_⟩, fun o => ?_⟩ <;> simp [World.cell?, World.frozen?, h']
theorem Mb.set1 {w : World} {g : Nat} {rv : Value} {a m : Int} (h : Mb w g rv a m) (x : Int) : Mb (w.setCell ⟨g, 1, none⟩ (.int .i64 x)) g rv x m := by
  unfold Mb; rw [setCell_heap h]; rfl
theorem Mb.set2 {w : World} {g : Nat} {rv : Value} {a m : Int} (h : Mb w g rv a m) (x : Int) : Mb (w.setCell ⟨g, 2, none⟩ (.int .i64 x)) g rv a x := by
  unfold Mb; rw [setCell_heap h]; rfl
/-- raw numbers, elsewhere -/
structure Raw (w : World) (g : Nat) (o : Option Addr) (n : Nat) : Prop where
  len : n ≤ 9223372036854775807
  at_ : ∀ i, i < n → ∃ a z, o = some a ∧ (a.add i).block ≠ g ∧ w.cell? (a.add i) = some (.int .i64 z) ∧ -9223372036854775808 ≤ z ∧ z ≤ 9223372036854775807
theorem Raw.grown {w x : World} {g n : Nat} {o : Option Addr} (h : Raw w g o n) (k : w.grownBy x (some g)) : Raw x g o n := by
  refine ⟨h.len, fun i hi => ?_⟩
  obtain ⟨a, z, e, hb, hc, hz⟩ := h.at_ i hi
  refine ⟨a, z, e, hb, ?_, hz⟩
  rw [← hc]
  have := k.block (a.add i).block (World.block_lt_of_cell? w _ hc) (by intro e; injection e with e; exact hb e)
  unfold World.cell?
  rw [this]
/-- the maker, and what lies elsewhere -/
structure Lm (w : World) (g : Nat) (o : Option Addr) (n cap : Nat) (a m : Int) (w' : World) : Prop where
  mb : Mb w' g (.slice o n cap) a m
  raw : Raw w' g o n
  gr : w.grownBy w' (some g)
theorem Lm.then {w x y : World} {g n cap : Nat} {o : Option Addr} {a m a' m' : Int} (h : Lm w g o n cap a m x) (k : Lm x g o n cap a' m' y) : Lm w g o n cap a' m' y := ⟨k.1, k.2, gr_trans h.3 k.3⟩
theorem Lm.below {w x y : World} {g n cap : Nat} {o : Option Addr} {a m : Int} (h : Lm w g o n cap a m x) (k : Below x.heap.size x y) : Lm w g o n cap a m y := ⟨kept k h.1, h.2.grown (gr_below k _), gr_trans h.3 (gr_below k _)⟩
theorem Lm.set1 {w x : World} {g n cap : Nat} {o : Option Addr} {a m : Int} (h : Lm w g o n cap a m x) (z : Int) : Lm w g o n cap z m (x.setCell ⟨g, 1, none⟩ (.int .i64 z)) := ⟨h.1.set1 z, h.2.grown (gr_set _ _ _ _), gr_trans h.3 (gr_set _ _ _ _)⟩
theorem Lm.set2 {w x : World} {g n cap : Nat} {o : Option Addr} {a m : Int} (h : Lm w g o n cap a m x) (z : Int) : Lm w g o n cap a z (x.setCell ⟨g, 2, none⟩ (.int .i64 z)) := ⟨h.1.set2 z, h.2.grown (gr_set _ _ _ _), gr_trans h.3 (gr_set _ _ _ _)⟩
theorem Lm.of {w : World} {g n cap : Nat} {o : Option Addr} {a m : Int} (h : Mb w g (.slice o n cap) a m) (r : Raw w g o n) : Lm w g o n cap a m w := ⟨h, r, gr_refl _ _⟩
theorem Lm.again {w x : World} {g n cap : Nat} {o : Option Addr} {a m : Int} (h : Lm w g o n cap a m x) : Lm x g o n cap a m x := ⟨h.1, h.2, gr_refl _ _⟩
set_option maxRecDepth 100000 in
set_option maxHeartbeats 1600000 in
theorem next_any {w : World} {g n cap : Nat} {o : Option Addr} {a : Nat} {m : Int} (h : Lm w g o n cap (a : Int) m w) (c : Int) (hc : 0 < c) (hc2 : c ≤ 1048576) (ha : a ≤ 1048576) :
    Calls Try.prog 64 #[.pointer (some ⟨g, 0, none⟩), .int .i64 c] w fun e w' => ∃ r : Int, e = .returned (.int .i64 r) ∧ 0 ≤ r ∧ r < c ∧ Lm w g o n cap ((a + 1 : Nat) : Int) m w' := by
  obtain ⟨⟨c0, c1, c2⟩, fz⟩ := h.1.at
  by_cases hlt : a < n
  · obtain ⟨p, z, rfl, hb, hz, z0, z1⟩ := h.2.at_ a hlt
    have hlt' : (a : Int) < (n : Int) := by omega
    have hn47 := h.2.len
    have PB := pk_bd z c hc
    obtain ⟨r, hr⟩ : ∃ r : Int, pk z c = r := ⟨_, rfl⟩
    have pa := fun y => pick_any z c y z0 z1 hc (by omega)
    rw [hr] at PB
    simp only [hr] at pa
    clear hr c2 fz
    go_enter Try.func64, Try.ntmps64
    go_wp2_with fail
    go_quiet (fail)
    have b1 := below_drewN (Below.refl w.heap.size w) nq
    have h1 := h.below b1
    have hz1 := (b1.cell (World.block_lt_of_cell? w _ hz)).trans hz
    generalize w.drewN nq = x at *
    clear c0 c1 hz hb b1
    obtain ⟨⟨c0, c1, c2⟩, fz⟩ := h1.1.at
    go_wp2_with fail
    go_quiet ((go_at_call 90; exact Calls.quiet_of_same (pa _)))
    have h2 := h1.below (below_drewN (Below.refl x.heap.size x) nq)
    generalize x.drewN nq = y at *
    clear c0 c1 c2 fz hz1
    obtain ⟨⟨c0, c1, c2⟩, fz⟩ := h2.1.at
    have f1 := fz 1
    have h3 := h2.set1 ((a : Int) + 1)
    clear fz
    go_wp2_with fail
    go_ret
    exact ⟨r, rfl, PB.1, PB.2, h3⟩
  · have hlt' : ¬ (a : Int) < (n : Int) := by omega
    have hn47 := h.2.len
    clear c2 fz
    go_enter Try.func64, Try.ntmps64
    go_wp2_with fail
    go_quiet (fail)
    have h1 := h.below (below_drewN (Below.refl w.heap.size w) nq)
    generalize w.drewN nq = x at *
    clear c0 c1
    obtain ⟨⟨c0, c1, c2⟩, fz⟩ := h1.1.at
    have f1 := fz 1
    have h3 := h1.set1 ((a : Int) + 1)
    clear fz
    go_wp2_with fail
    go_ret
    exact ⟨0, rfl, Int.le_refl _, hc, h3⟩
/-- a tag that may be, marked or not -/
def TG (t : Int) (mk : Bool) : Prop := 1 ≤ t ∧ t < 16777216 ∧ 0 < tgS t ∧ mkd t = mk
theorem mk_b8 (x : Int) (l : List UInt8) (h0 : 0 ≤ x) (h1 : x < 256) : mkB (b8 x :: l) = decide (x / 32 % 2 = 1) := by
  have := b8_val x
  simp only [mkB]
  rw [show ((b8 x).toNat / 32 % 2 == 1) = decide ((b8 x).toNat / 32 % 2 = 1) from rfl]
  exact decide_eq_decide.2 (by omega)
theorem tg_one {t : Int} (h0 : 1 ≤ t) (h1 : t < 256) (h2 : ¬ t % 32 = 31) : TG t (decide (t / 32 % 2 = 1)) := by
  have e : tgS t = 1 := by unfold tgS; rw [if_neg (by omega), if_pos ⟨h1, h2⟩]
  refine ⟨h0, by omega, by omega, ?_⟩
  unfold mkd tgB
  rw [if_pos e, mk_b8 _ _ (by omega) h1]
theorem tg_two {t : Int} (h0 : 7936 ≤ t) (h1 : t < 65536) (h2 : t / 256 % 32 = 31) (h3 : t % 256 < 128) : TG t (decide (t / 256 / 32 % 2 = 1)) := by
  have e : tgS t = 2 := by unfold tgS; rw [if_neg (by omega), if_neg (by omega), if_pos ⟨h1, h2, h3⟩]
  refine ⟨by omega, by omega, by omega, ?_⟩
  unfold mkd tgB
  rw [if_neg (by omega), if_pos e, mk_b8 _ _ (by omega) (by omega)]
theorem tg_three {t : Int} (h0 : 2031616 ≤ t) (h1 : t < 16777216) (h2 : t / 65536 % 32 = 31) (h3 : 128 < t / 256 % 256) (h4 : t % 256 < 128) : TG t (decide (t / 65536 / 32 % 2 = 1)) := by
  have e : tgS t = 3 := by unfold tgS; rw [if_neg (by omega), if_neg (by omega), if_neg (by omega), if_pos ⟨h1, h2, h3, h4⟩]
  refine ⟨by omega, by omega, by omega, ?_⟩
  unfold mkd tgB
  rw [if_neg (by omega), if_neg (by omega), if_pos e, mk_b8 _ _ (by omega) (by omega)]
theorem TG.is {t : Int} {a b : Bool} (h : TG t a) (e : a = b) : TG t b := e ▸ h
set_option maxRecDepth 100000 in
set_option maxHeartbeats 1600000 in
theorem tag_any {w : World} {g n cap : Nat} {o : Option Addr} {a : Nat} {m : Int} (h : Lm w g o n cap (a : Int) m w) (mk : Bool) (ha : a ≤ 1000000) :
    Calls Try.prog 88 #[.pointer (some ⟨g, 0, none⟩), .bool mk] w fun e w' => ∃ (t : Int) (a' : Nat), e = .returned (.int .i64 t) ∧ TG t mk ∧ a ≤ a' ∧ a' ≤ a + 5 ∧ Lm w g o n cap (a' : Int) m w' := by
  go_enter Try.func88, Try.ntmps88
  go_wp2_with fail
  refine (next_any h 3 (by omega) (by omega) (by omega)).mono ?_
  rintro _ x ⟨r, rfl, r0, r1, hx⟩
  go_wp2_with fail
  refine (next_any hx.again 4 (by omega) (by omega) (by omega)).mono ?_
  rintro _ x2 ⟨q, rfl, q0, q1, hx2⟩
  replace hx2 := hx.then hx2
  have cn := fun c h1 h2 => next_any hx2.again c h1 h2 (by omega)
  clear hx
  obtain rfl | rfl | rfl : r = 0 ∨ r = 1 ∨ r = 2 := by omega
  · have c1 := cn 31 (by omega) (by omega)
    clear cn
    cases mk
    · go_wp2_with fail
      refine c1.mono ?_
      rintro _ x3 ⟨k, rfl, k0, k1, hx3⟩
      by_cases hz : 64 * q + k = 0
      · go_wp2
        go_ret
        exact ⟨1, _, rfl, (tg_one (by omega) (by omega) (by omega)).is (by decide), by omega, by omega, hx2.then hx3⟩
      · go_wp2
        go_ret
        exact ⟨64 * q + k, _, rfl, (tg_one (by omega) (by omega) (by omega)).is (decide_eq_false (by omega)), by omega, by omega, hx2.then hx3⟩
    · go_wp2_with fail
      refine c1.mono ?_
      rintro _ x3 ⟨k, rfl, k0, k1, hx3⟩
      have hz : ¬ 64 * q + 32 + k = 0 := by omega
      go_wp2
      go_ret
      exact ⟨64 * q + 32 + k, _, rfl, (tg_one (by omega) (by omega) (by omega)).is (decide_eq_true (by omega)), by omega, by omega, hx2.then hx3⟩
  · have c1 := cn 128 (by omega) (by omega)
    clear cn
    cases mk
    · go_wp2_with fail
      refine c1.mono ?_
      rintro _ x3 ⟨k, rfl, k0, k1, hx3⟩
      go_wp2
      go_ret
      exact ⟨256 * (64 * q + 31) + k, _, rfl, (tg_two (by omega) (by omega) (by omega) (by omega)).is (decide_eq_false (by omega)), by omega, by omega, hx2.then hx3⟩
    · go_wp2_with fail
      refine c1.mono ?_
      rintro _ x3 ⟨k, rfl, k0, k1, hx3⟩
      go_wp2
      go_ret
      exact ⟨256 * (64 * q + 32 + 31) + k, _, rfl, (tg_two (by omega) (by omega) (by omega) (by omega)).is (decide_eq_true (by omega)), by omega, by omega, hx2.then hx3⟩
  · have c1 := cn 127 (by omega) (by omega)
    clear cn
    cases mk
    · go_wp2_with fail
      refine c1.mono ?_
      rintro _ x3 ⟨k, rfl, k0, k1, hx3⟩
      go_wp2_with fail
      refine (next_any hx3.again 128 (by omega) (by omega) (by omega)).mono ?_
      rintro _ x4 ⟨j, rfl, j0, j1, hx4⟩
      go_wp2
      go_ret
      exact ⟨65536 * (64 * q + 31) + 256 * (129 + k) + j, _, rfl, (tg_three (by omega) (by omega) (by omega) (by omega) (by omega)).is (decide_eq_false (by omega)), by omega, by omega, hx2.then (hx3.then hx4)⟩
    · go_wp2_with fail
      refine c1.mono ?_
      rintro _ x3 ⟨k, rfl, k0, k1, hx3⟩
      go_wp2_with fail
      refine (next_any hx3.again 128 (by omega) (by omega) (by omega)).mono ?_
      rintro _ x4 ⟨j, rfl, j0, j1, hx4⟩
      go_wp2
      go_ret
      exact ⟨65536 * (64 * q + 32 + 31) + 256 * (129 + k) + j, _, rfl, (tg_three (by omega) (by omega) (by omega) (by omega) (by omega)).is (decide_eq_true (by omega)), by omega, by omega, hx2.then (hx3.then hx4)⟩
end Go.Proofs.Ytgidjfhlooggkaa.Mk
