/- The reader: a tag. -/
import Derived.Test.YtgidjfhlooggkaaGe
import Derived.Laws.BitsLemmas
namespace Go.Proofs.Ytgidjfhlooggkaa.Gf
set_option linter.unusedVariables false
set_option linter.unusedSimpArgs false
open Go.RowKit Kb Ga Gb Gc Gd Ge
/-- what a step tells: a number and the place behind it; or why bytes are given up, and where -/
inductive Rs where
  | ok (v : Int) (k : Nat) : Rs
  | bad (why at_ : Int) : Rs
def Post (w : World) (g : Nat) (s : ByteArray) (e d b : Int) : Rs → Ending → World → Prop
  | .ok v k, x, w' => x = .returned (.int .i64 v) ∧ Lft w g s (k : Int) e d b w'
  | .bad y a, x, w' => x = .panicked (up y a) ∧ w.grownBy w' (some g)
def byt (s : ByteArray) (k : Nat) : Int := ((s.data.getD k 0).toNat : Int)
theorem byt_bd (s : ByteArray) (k : Nat) : 0 ≤ byt s k ∧ byt s k ≤ 255 := by
  have := (s.data.getD k 0).toNat_lt
  unfold byt; omega
theorem next_byt {w : World} {g k : Nat} {s : ByteArray} {e d b : Int} (h : Rd w g s (k : Int) e d b) (hn : (k : Int) < e) (h3 : e ≤ 1048576) (hs : e ≤ (s.size : Int)) :
    Calls Try.prog 103 #[.pointer (some ⟨g, 0, none⟩)] w fun x w' => x = .returned (.int .u8 (byt s k)) ∧ Lft w g s ((k + 1 : Nat) : Int) e d b w' := by
  have hk : k < s.data.size := by have : s.data.size = s.size := rfl; omega
  have := next_ok h hn (by omega) h3 hs
  rw [show byt s k = ((s.data[k]'hk).toNat : Int) by unfold byt; rw [Array.getD_eq_getD_getElem?, Array.getElem?_eq_getElem hk]; rfl]
  rw [show ((k + 1 : Nat) : Int) = (k : Int) + 1 by omega]
  exact this
theorem next_end {w : World} {g k : Nat} {s : ByteArray} {e d b : Int} (h : Rd w g s (k : Int) e d b) (hn : ¬ (k : Int) < e) (hk : k ≤ 1048576) (h2 : 0 ≤ e) (h3 : e ≤ 1048576) :
    Calls Try.prog 103 #[.pointer (some ⟨g, 0, none⟩)] w fun x w' => x = .panicked (up 10 e) ∧ w.grownBy w' (some g) :=
  next_bad h hn (by omega) (by omega) h2 h3
theorem wraps_i64 (n : Int) (h₀ : 0 ≤ n) (h₁ : n < 2 ^ 62) : IntKind.i64.wrap n = n := by rw [IntKind.wrap_i64]; omega
theorem or8 (A B : Int) (a0 : 0 ≤ A) (a1 : A ≤ 255) (b0 : 0 ≤ B) (b1 : B ≤ 255) : bits .or .i64 (A * 256) B = A * 256 + B :=
  bits_join .i64 62 (by decide) wraps_i64 8 (A * 256) B (by omega) (by omega) (by omega) b0 (by omega) (by omega)
theorem or16 (A B : Int) (a0 : 0 ≤ A) (a1 : A ≤ 255) (b0 : 0 ≤ B) (b1 : B ≤ 255) : bits .or .i64 (A * 65536) (B * 256) = A * 65536 + B * 256 :=
  bits_join .i64 62 (by decide) wraps_i64 16 (A * 65536) (B * 256) (by omega) (by omega) (by omega) (by omega) (by omega) (by omega)
theorem or24 (A B C : Int) (a0 : 0 ≤ A) (a1 : A ≤ 255) (b0 : 0 ≤ B) (b1 : B ≤ 255) (c0 : 0 ≤ C) (c1 : C ≤ 255) : bits .or .i64 (A * 65536 + B * 256) C = A * 65536 + B * 256 + C :=
  bits_join .i64 62 (by decide) wraps_i64 8 (A * 65536 + B * 256) C (by omega) (by omega) (by omega) c0 (by omega) (by omega)
def tagR (s : ByteArray) (k : Nat) (e : Int) : Rs :=
  if (k : Int) < e then
    if byt s k = 0 then .bad 90 k else if ¬ byt s k % 32 = 31 then .ok (byt s k) (k + 1)
    else if ((k + 1 : Nat) : Int) < e then
      if byt s (k + 1) = 128 then .bad 90 ((k + 1 : Nat) : Int) else if byt s (k + 1) < 128 then .ok (byt s k * 256 + byt s (k + 1)) (k + 2)
      else if ((k + 2 : Nat) : Int) < e then
        if byt s (k + 2) < 128 then .ok (byt s k * 65536 + byt s (k + 1) * 256 + byt s (k + 2)) (k + 3) else .bad 90 ((k + 2 : Nat) : Int)
      else .bad 10 e
    else .bad 10 e
  else .bad 10 e
set_option maxRecDepth 100000 in
set_option maxHeartbeats 3200000 in
theorem tag_any {w : World} {g k : Nat} {s : ByteArray} {e d b : Int} (h : Rd w g s (k : Int) e d b) (hk : (k : Int) ≤ e) (h3 : e ≤ 1048576) (hs : e ≤ (s.size : Int)) :
    Calls Try.prog 92 #[.pointer (some ⟨g, 0, none⟩)] w (Post w g s e d b (tagR s k e)) := by
  by_cases k0 : (k : Int) < e
  case neg =>
    rw [show tagR s k e = .bad 10 e by unfold tagR; rw [if_neg k0]]
    go_enter Try.func92, Try.ntmps92
    go_wp2_with fail
    refine (next_end h (by omega) (by omega) (by omega) h3).mono ?_
    rintro _ x ⟨rfl, hg⟩
    exact ⟨rfl, rfl, hg⟩
  have cn := next_byt h k0 h3 hs
  have A0 := (byt_bd s k).1
  have A1 := (byt_bd s k).2
  have B0 := (byt_bd s (k + 1)).1
  have B1 := (byt_bd s (k + 1)).2
  have C0 := (byt_bd s (k + 2)).1
  have C1 := (byt_bd s (k + 2)).2
  by_cases z0 : byt s k = 0
  · rw [show tagR s k e = .bad 90 k by unfold tagR; rw [if_pos k0, if_pos z0]]
    rw [z0] at cn
    go_enter Try.func92, Try.ntmps92
    go_wp2_with fail
    refine cn.mono ?_
    rintro _ x ⟨rfl, hl⟩
    obtain ⟨⟨c0, c1, c2, c3, c4⟩, fz⟩ := hl.1.at
    clear fz c0 c2 c3 c4 cn
    go_wp2_with fail
    refine (must_bad _ _ _).mono ?_
    rintro _ y ⟨rfl, hy⟩
    rw [hy]; clear hy y
    exact ⟨rfl, rfl, hl.2⟩
  obtain ⟨A, hA⟩ : ∃ A, byt s k = A := ⟨_, rfl⟩
  obtain ⟨B, hB⟩ : ∃ A, byt s (k + 1) = A := ⟨_, rfl⟩
  obtain ⟨C, hC⟩ : ∃ A, byt s (k + 2) = A := ⟨_, rfl⟩
  have tR : tagR s k e = if ¬ A % 32 = 31 then .ok A (k + 1) else if ((k + 1 : Nat) : Int) < e then if B = 128 then .bad 90 ((k + 1 : Nat) : Int) else if B < 128 then .ok (A * 256 + B) (k + 2) else if ((k + 2 : Nat) : Int) < e then if C < 128 then .ok (A * 65536 + B * 256 + C) (k + 3) else .bad 90 ((k + 2 : Nat) : Int) else .bad 10 e else .bad 10 e := by unfold tagR; rw [if_pos k0, if_neg z0, hA, hB, hC]
  rw [hA] at cn A0 A1 z0
  rw [hB] at B0 B1
  rw [hC] at C0 C1
  have nz : (A != 0) = true := by simp; exact z0
  by_cases g0 : A % 32 = 31
  case neg =>
    rw [tR, if_pos g0]
    have e0 : gOn A = false := by simp only [gOn, beq_eq_false_iff_ne, ne_eq]; exact g0
    clear tR hA z0 g0
    go_enter Try.func92, Try.ntmps92
    go_wp2_with fail
    refine cn.mono ?_
    rintro _ x ⟨rfl, hl⟩
    obtain ⟨⟨c0, c1, c2, c3, c4⟩, fz⟩ := hl.1.at
    clear fz c0 c2 c3 c4 cn
    go_wp2_with fail
    refine (must_ok _ _ _).mono ?_
    rintro _ y ⟨rfl, hy⟩
    rw [hy]; clear hy y
    clear c1
    go_wp2_with fail
    refine (goesOn_any _ _).mono ?_
    rintro _ y ⟨rfl, hy⟩
    rw [hy, e0]; clear hy y
    go_wp2_with fail
    go_ret
    exact ⟨rfl, hl⟩
  have e0 : gOn A = true := by simp only [gOn, beq_iff_eq]; exact g0
  rw [tR, if_neg (by omega)]
  clear tR hA z0 g0
  by_cases k1 : ((k + 1 : Nat) : Int) < e
  case neg =>
    rw [if_neg k1]
    go_enter Try.func92, Try.ntmps92
    go_wp2_with fail
    refine cn.mono ?_
    rintro _ x ⟨rfl, hl⟩
    obtain ⟨⟨c0, c1, c2, c3, c4⟩, fz⟩ := hl.1.at
    clear fz c0 c2 c3 c4 cn
    go_wp2_with fail
    refine (must_ok _ _ _).mono ?_
    rintro _ y ⟨rfl, hy⟩
    rw [hy]; clear hy y
    clear c1
    go_wp2_with fail
    refine (goesOn_any _ _).mono ?_
    rintro _ y ⟨rfl, hy⟩
    rw [hy, e0]; clear hy y
    go_wp2_with fail
    refine (next_end hl.1 (by omega) (by omega) (by omega) h3).mono ?_
    rintro _ y ⟨rfl, hg⟩
    exact ⟨rfl, rfl, gr_trans hl.2 hg⟩
  rw [if_pos k1]
  by_cases b0 : B = 128
  · rw [if_pos b0]
    subst b0
    go_enter Try.func92, Try.ntmps92
    go_wp2_with fail
    refine cn.mono ?_
    rintro _ x ⟨rfl, hl⟩
    obtain ⟨⟨c0, c1, c2, c3, c4⟩, fz⟩ := hl.1.at
    clear fz c0 c2 c3 c4 cn
    go_wp2_with fail
    refine (must_ok _ _ _).mono ?_
    rintro _ y ⟨rfl, hy⟩
    rw [hy]; clear hy y
    clear c1
    go_wp2_with fail
    refine (goesOn_any _ _).mono ?_
    rintro _ y ⟨rfl, hy⟩
    rw [hy, e0]; clear hy y
    go_wp2_with fail
    refine (next_byt hl.1 k1 h3 hs).mono ?_
    rintro _ x2 ⟨rfl, hl2⟩
    have hl3 := hl.then hl2
    obtain ⟨⟨c0, c1, c2, c3, c4⟩, fz⟩ := hl3.1.at
    clear fz c0 c2 c3 c4
    rw [hB]
    go_wp2_with fail
    refine (must_bad _ _ _).mono ?_
    rintro _ y ⟨rfl, hy⟩
    rw [hy]; clear hy y
    exact ⟨rfl, rfl, hl3.2⟩
  rw [if_neg b0]
  have nb : (B != 128) = true := by simp; exact b0
  by_cases b1 : B < 128
  · rw [if_pos b1]
    have o1 := or8 A B A0 A1 B0 B1
    go_enter Try.func92, Try.ntmps92
    go_wp2_with fail
    refine cn.mono ?_
    rintro _ x ⟨rfl, hl⟩
    obtain ⟨⟨c0, c1, c2, c3, c4⟩, fz⟩ := hl.1.at
    clear fz c0 c2 c3 c4 cn
    go_wp2_with fail
    refine (must_ok _ _ _).mono ?_
    rintro _ y ⟨rfl, hy⟩
    rw [hy]; clear hy y
    clear c1
    go_wp2_with fail
    refine (goesOn_any _ _).mono ?_
    rintro _ y ⟨rfl, hy⟩
    rw [hy, e0]; clear hy y
    go_wp2_with fail
    refine (next_byt hl.1 k1 h3 hs).mono ?_
    rintro _ x2 ⟨rfl, hl2⟩
    have hl3 := hl.then hl2
    obtain ⟨⟨c0, c1, c2, c3, c4⟩, fz⟩ := hl3.1.at
    clear fz c0 c2 c3 c4
    rw [hB]
    go_wp2_with fail
    refine (must_ok _ _ _).mono ?_
    rintro _ y ⟨rfl, hy⟩
    rw [hy]; clear hy y
    go_wp2_with fail
    go_ret
    exact ⟨rfl, hl3⟩
  rw [if_neg b1]
  by_cases k2 : ((k + 2 : Nat) : Int) < e
  case neg =>
    rw [if_neg k2]
    go_enter Try.func92, Try.ntmps92
    go_wp2_with fail
    refine cn.mono ?_
    rintro _ x ⟨rfl, hl⟩
    obtain ⟨⟨c0, c1, c2, c3, c4⟩, fz⟩ := hl.1.at
    clear fz c0 c2 c3 c4 cn
    go_wp2_with fail
    refine (must_ok _ _ _).mono ?_
    rintro _ y ⟨rfl, hy⟩
    rw [hy]; clear hy y
    clear c1
    go_wp2_with fail
    refine (goesOn_any _ _).mono ?_
    rintro _ y ⟨rfl, hy⟩
    rw [hy, e0]; clear hy y
    go_wp2_with fail
    refine (next_byt hl.1 k1 h3 hs).mono ?_
    rintro _ x2 ⟨rfl, hl2⟩
    have hl3 := hl.then hl2
    obtain ⟨⟨c0, c1, c2, c3, c4⟩, fz⟩ := hl3.1.at
    clear fz c0 c2 c3 c4
    rw [hB]
    go_wp2_with fail
    refine (must_ok _ _ _).mono ?_
    rintro _ y ⟨rfl, hy⟩
    rw [hy]; clear hy y
    go_wp2_with fail
    refine (next_end hl3.1 (by omega) (by omega) (by omega) h3).mono ?_
    rintro _ y ⟨rfl, hg⟩
    exact ⟨rfl, rfl, gr_trans hl3.2 hg⟩
  rw [if_pos k2]
  by_cases c9 : C < 128
  · rw [if_pos c9]
    have o1 := or16 A B A0 A1 B0 B1
    have o2 := or24 A B C A0 A1 B0 B1 C0 C1
    go_enter Try.func92, Try.ntmps92
    go_wp2_with fail
    refine cn.mono ?_
    rintro _ x ⟨rfl, hl⟩
    obtain ⟨⟨c0, c1, c2, c3, c4⟩, fz⟩ := hl.1.at
    clear fz c0 c2 c3 c4 cn
    go_wp2_with fail
    refine (must_ok _ _ _).mono ?_
    rintro _ y ⟨rfl, hy⟩
    rw [hy]; clear hy y
    clear c1
    go_wp2_with fail
    refine (goesOn_any _ _).mono ?_
    rintro _ y ⟨rfl, hy⟩
    rw [hy, e0]; clear hy y
    go_wp2_with fail
    refine (next_byt hl.1 k1 h3 hs).mono ?_
    rintro _ x2 ⟨rfl, hl2⟩
    have hl3 := hl.then hl2
    obtain ⟨⟨c0, c1, c2, c3, c4⟩, fz⟩ := hl3.1.at
    clear fz c0 c2 c3 c4
    rw [hB]
    go_wp2_with fail
    refine (must_ok _ _ _).mono ?_
    rintro _ y ⟨rfl, hy⟩
    rw [hy]; clear hy y
    go_wp2_with fail
    refine (next_byt hl3.1 k2 h3 hs).mono ?_
    rintro _ x3 ⟨rfl, hl4⟩
    have hl5 := hl3.then hl4
    obtain ⟨⟨c0, c1, c2, c3, c4⟩, fz⟩ := hl5.1.at
    clear fz c0 c2 c3 c4
    rw [hC]
    go_wp2_with fail
    refine (must_ok _ _ _).mono ?_
    rintro _ y ⟨rfl, hy⟩
    rw [hy]; clear hy y
    go_wp2_with fail
    go_ret
    exact ⟨rfl, hl5⟩
  · rw [if_neg c9]
    have c8 : decide (C < 128) = false := decide_eq_false c9
    go_enter Try.func92, Try.ntmps92
    go_wp2_with fail
    refine cn.mono ?_
    rintro _ x ⟨rfl, hl⟩
    obtain ⟨⟨c0, c1, c2, c3, c4⟩, fz⟩ := hl.1.at
    clear fz c0 c2 c3 c4 cn
    go_wp2_with fail
    refine (must_ok _ _ _).mono ?_
    rintro _ y ⟨rfl, hy⟩
    rw [hy]; clear hy y
    clear c1
    go_wp2_with fail
    refine (goesOn_any _ _).mono ?_
    rintro _ y ⟨rfl, hy⟩
    rw [hy, e0]; clear hy y
    go_wp2_with fail
    refine (next_byt hl.1 k1 h3 hs).mono ?_
    rintro _ x2 ⟨rfl, hl2⟩
    have hl3 := hl.then hl2
    obtain ⟨⟨c0, c1, c2, c3, c4⟩, fz⟩ := hl3.1.at
    clear fz c0 c2 c3 c4
    rw [hB]
    go_wp2_with fail
    refine (must_ok _ _ _).mono ?_
    rintro _ y ⟨rfl, hy⟩
    rw [hy]; clear hy y
    go_wp2_with fail
    refine (next_byt hl3.1 k2 h3 hs).mono ?_
    rintro _ x3 ⟨rfl, hl4⟩
    have hl5 := hl3.then hl4
    obtain ⟨⟨c0, c1, c2, c3, c4⟩, fz⟩ := hl5.1.at
    clear fz c0 c2 c3 c4
    rw [hC]
    go_wp2_with fail
    rw [show ((k : Int) + 1 + 1) = ((k + 2 : Nat) : Int) by omega]
    refine (must_bad _ _ _).mono ?_
    rintro _ y ⟨rfl, hy⟩
    rw [hy]; clear hy y
    exact ⟨rfl, rfl, hl5.2⟩
end Go.Proofs.Ytgidjfhlooggkaa.Gf
