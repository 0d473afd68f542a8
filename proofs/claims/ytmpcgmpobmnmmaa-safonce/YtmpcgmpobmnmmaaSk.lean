/- The chapter's first example. -/
import Derived.Test.YtmpcgmpobmnmmaaSj
namespace Go.Proofs.Ytmpcgmpobmnmmaa.Sk
set_option linter.unusedVariables false
set_option linter.unusedSimpArgs false
open Go.RowKit Go.Maps Lib0 Kb Xp Za Zc Zd Ze Sa Sb Sc Sd Se Sf Sg Sh Si Sj
attribute [local go_sem] Oper.semAt_some
theorem fo_oneA (n : Nat) (h : n ≤ 9) : (oneA n).m1.size ≤ 1000000 ∧ (oneA n).m2.size ≤ 1000000 ∧ Fo (oneA n).L1 ∧ Fo (oneA n).L2 ∧ I64 (oneA n).no :=
  ⟨by show (⟨#[48, 49, 50, 48]⟩ : ByteArray).size ≤ 1000000; decide, by show (⟨#[48, 49, 50, 49]⟩ : ByteArray).size ≤ 1000000; decide, fo_one _ (by rw [dg_size]; omega), fo_one _ (by rw [dg_size]; omega), ⟨by show -9223372036854775808 ≤ (n : Int); omega, by show (n : Int) ≤ 9223372036854775807; omega⟩⟩
def X1 : St := ⟨2, 3, 2, [oneA 7], 0, false, 0, [], 0⟩
def X2 (sent : Int) (way : Bool) (ticks : Int) : St := ⟨2, 3, 2, [oneA 7, oneA 8], sent, way, ticks, [], 0⟩
theorem ok1 : Ok X1 := by
  constructor <;> simp [X1]
  exact fo_oneA 7 (by omega)
theorem ok2 (s : Int) (b : Bool) (t : Int) (h0 : 0 ≤ s) (h1 : s ≤ 2) (h2 : 0 ≤ t) (h3 : t ≤ 3) : Ok (X2 s b t) := by
  constructor <;> simp [X2] <;> first | omega | exact ⟨fo_oneA 7 (by omega), fo_oneA 8 (by omega)⟩
theorem nx_a : nx (X2 0 false 0) = (X2 1 true 0, some ((oneA 7).m1, (oneA 7).L1)) := rfl
theorem nx_b : nx (X2 1 true 0) = (X2 1 true 0, none) := rfl
theorem nx_c : nx (X2 1 true 3) = (X2 2 true 0, some ((oneA 7).m2, (oneA 7).L2)) := rfl
theorem tick_a (t : Int) (h : t < 3) : tickS (X2 1 true t) = X2 1 true (t + 1) := by
  have e : (if t < 3 then t + 1 else t) = t + 1 := if_pos h
  show (⟨2, 3, 2, [oneA 7, oneA 8], 1, true, (if t < 3 then t + 1 else t), [], 0⟩ : St) = _
  rw [e]; rfl
/-- a message in its box, with a row of its own -/
structure Bx (y : World) (b g : Nat) (m : ByteArray) (M : List Fl) (v : Value) : Prop where
  box : y.heap[b]? = some (.cells #[.string m, v] tG (0, 0))
  row : y.ownsRow g tF 3 v M.length (fc M)
theorem Bx.keep {x y : World} {b g : Nat} {m : ByteArray} {M : List Fl} {v : Value} (h : Bx x b g m M v) (k : Kq x y) : Bx y b g m M v := ⟨(k.block _ _ _ _ h.box (by decide) (by decide) (by decide)).trans h.box, k.row h.row⟩
theorem Bx.one {y : World} {b g : Nat} {m s : ByteArray} {v : Value} (h : Bx y b g m [(11, s)] v) : ∃ r c, v = .slice (some ⟨r, 0, none⟩) 1 c ∧ y.cell? ⟨b, 0, none⟩ = some (.string m) ∧ y.cell? ⟨b, 1, none⟩ = some (.slice (some ⟨r, 0, none⟩) 1 c) ∧ y.cell? ⟨r, 1, none⟩ = some (.string s) := by
  obtain ⟨h1, h2⟩ := h
  rcases h2.2 with ⟨-, h0⟩ | ⟨r, cap, cur, rfl, -, hg, -, -, -, htk⟩
  · simp at h0
  · refine ⟨r, cap, rfl, by simp [World.cell?, h1], by simp [World.cell?, h1], ?_⟩
    have := h2.cells (g := r) rfl 1 (.string s) rfl
    exact this
/-- what is made is stored in a box -/
theorem Bx.new {x y : World} {g : Nat} {m : ByteArray} {M : List Fl} {v : Value} (hy : x.alloc (.cells #[.string m, v] tG) = y) (hr : x.ownsRow g tF 3 v M.length (fc M)) : Bx y x.heap.size g m M v := by
  subst hy
  exact ⟨h1_0 _ _, own_keep hr fun b hb => (below_one x _).block b (hr.lt b hb).2⟩
structure Lw (w y : World) (g : Nat) (S : St) : Prop where
  sq : Sq y g g S
  bel : Below g w y
theorem Lw.bas {w y : World} {g : Nat} {S : St} (h : Lw w y g S) : g ≤ y.heap.size := by obtain ⟨_, _, _, q⟩ := h.sq; exact q.bas
theorem Lw.next {w y x : World} {g : Nat} {S : St} (h : Lw w y g S) (k : Below y.heap.size y x) : Lw w x g S := ⟨h.sq.below k, h.bel.trans (k.mono h.bas)⟩
theorem Lw.step {w y x : World} {g : Nat} {S S' : St} (h : Lw w y g S) (k : PQ y g g S' x) : Lw w x g S' := ⟨k.1, h.bel.trans k.2.2⟩
set_option maxRecDepth 100000 in
set_option maxHeartbeats 3200000 in
theorem examples_any (w : World) : Calls Try.prog 6 #[] w fun e w' => e = .returned (.bool true) ∧ Below w.heap.size w w' := by
  have HN : Hid (∀ x, Calls Try.prog 8 #[.int .i64 2, .int .i64 3, .int .i64 2] x fun e w' => e = .returned (.tuple #[.pointer (some ⟨x.heap.size, 0, none⟩), .int .i64 0]) ∧ Sq w' x.heap.size x.heap.size (newS 2 3 2) ∧ Below x.heap.size x w') := fun x => new_any 2 3 2 x (by omega) (by omega) (by omega) (by omega) (by omega) (by omega)
  go_enter Try.func6, Try.ntmps6
  go_wp2_with fail
  refine (HN.out _).mono ?_
  rintro e y ⟨rfl, S0, B0⟩
  obtain ⟨g, hg⟩ : ∃ g, w.heap.size = g := ⟨_, rfl⟩
  rw [hg] at S0 B0 ⊢
  have T0 : Hid (Lw w y g (newS 2 3 2)) := ⟨S0, B0⟩
  have HG : Hid (w.heap.size = g) := hg
  clear S0 B0 HN hg
  go_wp2_with fail
  refine (one_any 7 (by omega) _).mono ?_
  rintro e y1 ⟨v1, v2, rfl, hm, hb⟩
  have T1 : Hid (Lw w y1 g (newS 2 3 2)) := T0.out.next hb
  have M1 : Hid (Rm y1 (oneA 7) v1 v2) := hm
  clear hm hb T0
  go_wp2_with fail
  refine (put_ok T1.out.sq (ok_new (by omega) (by omega) (by omega) (by omega) (by omega) (by omega)) (by decide) (oneA 7) _ _ M1.out rfl).mono ?_
  rintro e y2 ⟨rfl, hp⟩
  have T2 : Hid (Lw w y2 g X1) := T1.out.step hp
  clear hp T1 M1
  go_wp2_with fail
  refine (one_any 8 (by omega) _).mono ?_
  rintro e y3 ⟨v3, v4, rfl, hm, hb⟩
  have T3 : Hid (Lw w y3 g X1) := T2.out.next hb
  have M3 : Hid (Rm y3 (oneA 8) v3 v4) := hm
  clear hm hb T2
  go_wp2_with fail
  refine (put_ok T3.out.sq ok1 (by decide) (oneA 8) _ _ M3.out rfl).mono ?_
  rintro e y4 ⟨rfl, hp⟩
  have T4 : Hid (Lw w y4 g (X2 0 false 0)) := T3.out.step hp
  clear hp T3 M3
  go_wp2_with fail
  refine (one_any 9 (by omega) _).mono ?_
  rintro e y5 ⟨v5, v6, rfl, hm, hb⟩
  have T5 : Hid (Lw w y5 g (X2 0 false 0)) := T4.out.next hb
  have M5 : Hid (Rm y5 (oneA 9) v5 v6) := hm
  clear hm hb T4
  go_wp2_with fail
  refine (put_full T5.out.sq (by decide) (oneA 9) _ _ M5.out.one.slice M5.out.two.slice).mono ?_
  rintro e y6 ⟨rfl, hp⟩
  have T6 : Hid (Lw w y6 g (X2 0 false 0)) := T5.out.step hp
  clear hp T5 M5
  go_wp2_with fail
  refine (next_no T6.out.sq).mono ?_
  rintro e y7 ⟨rfl, hp⟩
  have T7 : Hid (Lw w y7 g (X2 0 false 0)) := T6.out.step hp
  clear hp T6
  obtain ⟨z7, hz7⟩ : ∃ z7, Hid (y7.alloc (.cells #[.string ⟨#[]⟩, .slice none 0 0] tG) = z7) := ⟨_, rfl⟩
  have U7 : Hid (Lw w z7 g (X2 0 false 0)) := T7.out.next (hz7.out ▸ below_one _ _)
  go_wp2_with fail
  rw [hz7.out]
  have hn := next_yes U7.out.sq (ok2 0 false 0 (by omega) (by omega) (by omega) (by omega)) (by decide)
  rw [nx_a] at hn
  refine hn.mono ?_
  clear hn
  rintro e y8 ⟨v8, rfl, hr8, -, hp⟩
  have T8 : Hid (Lw w y8 g (X2 1 true 0)) := U7.out.step hp
  obtain ⟨o8, c8, e8, -⟩ := own_form hr8
  have HR8 : Hid (y8.ownsRow g tF 3 v8 1 (fc [(11, dg 7)])) := own_low hr8 U7.out.bas
  clear hp hr8 U7 T7 hz7
  subst e8
  obtain ⟨m8, hm8⟩ : ∃ m8, (oneA 7).m1 = m8 := ⟨_, rfl⟩
  have HM8 : Hid ((oneA 7).m1 = m8) := hm8
  rw [show (oneA 7).L1.length = 1 from rfl] at HR8 ⊢
  rw [hm8]
  clear hm8
  obtain ⟨z8, hz8⟩ : ∃ z8, Hid (y8.alloc (.cells #[.string m8, .slice o8 1 c8] tG) = z8) := ⟨_, rfl⟩
  have U8 : Hid (Lw w z8 g (X2 1 true 0)) := T8.out.next (hz8.out ▸ below_one _ _)
  have N8 : Hid (Bx z8 y8.heap.size g m8 [(11, dg 7)] (.slice o8 1 c8)) := Bx.new hz8.out HR8.out
  go_wp2_with fail
  rw [hz8.out]
  have hn := next_yes U8.out.sq (ok2 1 true 0 (by omega) (by omega) (by omega) (by omega)) (by decide)
  rw [nx_b] at hn
  refine hn.mono ?_
  clear hn
  rintro e y9 ⟨rfl, hp⟩
  have T9 : Hid (Lw w y9 g (X2 1 true 0)) := U8.out.step hp
  have N9 : Hid (Bx y9 y8.heap.size g m8 [(11, dg 7)] (.slice o8 1 c8)) := N8.out.keep hp.2.1
  clear hp U8 T8 hz8 HR8 N8
  obtain ⟨z9, hz9⟩ : ∃ z9, Hid (y9.alloc (.cells #[.string ⟨#[]⟩, .slice none 0 0] tG) = z9) := ⟨_, rfl⟩
  have U9 : Hid (Lw w z9 g (X2 1 true 0)) := T9.out.next (hz9.out ▸ below_one _ _)
  have O9 : Hid (Bx z9 y8.heap.size g m8 [(11, dg 7)] (.slice o8 1 c8)) := N9.out.keep (Kq.of (hz9.out ▸ below_one _ _))
  go_wp2_with fail
  rw [hz9.out]
  refine (tick_any U9.out.sq (ok2 1 true 0 (by omega) (by omega) (by omega) (by omega))).mono ?_
  rintro e ya ⟨rfl, hp⟩
  rw [tick_a 0 (by omega)] at hp
  have Ta : Hid (Lw w ya g (X2 1 true (0 + 1))) := U9.out.step hp
  have Na : Hid (Bx ya y8.heap.size g m8 [(11, dg 7)] (.slice o8 1 c8)) := O9.out.keep hp.2.1
  clear hp U9 T9 hz9 N9 O9
  go_wp2_with fail
  refine (tick_any Ta.out.sq (ok2 1 true _ (by omega) (by omega) (by omega) (by omega))).mono ?_
  rintro e yb ⟨rfl, hp⟩
  rw [tick_a _ (by omega)] at hp
  have Tb : Hid (Lw w yb g (X2 1 true (0 + 1 + 1))) := Ta.out.step hp
  have Nb : Hid (Bx yb y8.heap.size g m8 [(11, dg 7)] (.slice o8 1 c8)) := Na.out.keep hp.2.1
  clear hp Ta Na
  go_wp2_with fail
  refine (tick_any Tb.out.sq (ok2 1 true _ (by omega) (by omega) (by omega) (by omega))).mono ?_
  rintro e yc ⟨rfl, hp⟩
  rw [tick_a _ (by omega)] at hp
  have Tc : Hid (Lw w yc g (X2 1 true 3)) := Tb.out.step hp
  have Nc : Hid (Bx yc y8.heap.size g m8 [(11, dg 7)] (.slice o8 1 c8)) := Nb.out.keep hp.2.1
  clear hp Tb Nb
  go_wp2_with fail
  have hn := next_yes Tc.out.sq (ok2 1 true 3 (by omega) (by omega) (by omega) (by omega)) (by decide)
  rw [nx_c] at hn
  refine hn.mono ?_
  clear hn
  rintro e yd ⟨vd, rfl, hrd, -, hp⟩
  have Td : Hid (Lw w yd g (X2 2 true 0)) := Tc.out.step hp
  have Nd : Hid (Bx yd y8.heap.size g m8 [(11, dg 7)] (.slice o8 1 c8)) := Nc.out.keep hp.2.1
  obtain ⟨od, cd, ed, -⟩ := own_form hrd
  clear hp hrd Tc Nc
  subst ed
  obtain ⟨m9, hm9⟩ : ∃ m9, (oneA 7).m2 = m9 := ⟨_, rfl⟩
  have HM9 : Hid ((oneA 7).m2 = m9) := hm9
  rw [show (oneA 7).L2.length = 1 from rfl, hm9]
  clear hm9
  obtain ⟨zd, hzd⟩ : ∃ zd, Hid (yd.alloc (.cells #[.string m9, .slice od 1 cd] tG) = zd) := ⟨_, rfl⟩
  have Ud : Hid (Lw w zd g (X2 2 true 0)) := Td.out.next (hzd.out ▸ below_one _ _)
  have Od : Hid (Bx zd y8.heap.size g m8 [(11, dg 7)] (.slice o8 1 c8)) := Nd.out.keep (Kq.of (hzd.out ▸ below_one _ _))
  obtain ⟨r, c, ev, k0, k1, k2⟩ := Od.out.one
  injection ev with ev1 ev2 ev3
  subst ev1 ev3
  have k3 : zd.cell? ⟨yd.heap.size, 0, none⟩ = some (.string m9) := by have := h1_0 yd (.cells #[.string m9, .slice od 1 cd] tG); rw [hzd.out] at this; simp [World.cell?, this]
  rw [← hzd.out] at k0 k1 k2 k3
  rw [show m8 = ⟨#[48, 49, 50, 48]⟩ from HM8.out.symm] at *
  rw [show m9 = ⟨#[48, 49, 50, 49]⟩ from HM9.out.symm] at *
  rw [show dg 7 = ⟨#[55]⟩ from rfl] at k2
  have HLEN : Hid (Calls Try.prog 11 #[.pointer (some ⟨g, 0, none⟩)] zd fun e w' => e = .returned (.int .i64 2) ∧ w' = zd) := len_any Ud.out.sq
  have HDEAD : Hid (Calls Try.prog 13 #[.pointer (some ⟨g, 0, none⟩)] zd fun e w' => e = .returned (.int .i64 0) ∧ w' = zd) := dead_any Ud.out.sq
  rw [← hzd.out] at HLEN HDEAD
  clear Nd Od HM8 HM9 Td
  go_wp2_with (first | (go_at_call 11; refine HLEN.out.mono ?_; rintro e x ⟨rfl, rfl⟩) | (go_at_call 13; refine HDEAD.out.mono ?_; rintro e x ⟨rfl, rfl⟩))
  rw [hzd.out]
  go_ret
  exact ⟨rfl, by rw [HG.out]; exact Ud.out.bel⟩
end Go.Proofs.Ytmpcgmpobmnmmaa.Sk
