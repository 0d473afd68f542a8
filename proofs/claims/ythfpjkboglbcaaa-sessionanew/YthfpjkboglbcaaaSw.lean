/- SessionAnew: its walk. -/
import Derived.Test.YthfpjkboglbcaaaSe
import Derived.Test.YthfpjkboglbcaaaSh
namespace Go.Proofs.Ythfpjkboglbcaaa.Sw
set_option linter.unusedVariables false
set_option linter.unusedSimpArgs false
open Go.RowKit Lib0 Kb Sp Sa Sc Se
theorem bnd {x : Int} (h : (Lit.int .i64 x).wf = true) : -9223372036854775808 ≤ x ∧ x ≤ 9223372036854775807 := by
  simp [Lit.wf, IntKind.min, IntKind.max, IntKind.signed, IntKind.bits] at h; omega
/-- alike in all that counts -/
structure Alk (S T : Ss) : Prop where
  r : S.role = T.role
  e : S.echo = T.echo
  a : S.ans = T.ans
  s : S.st = T.st
  w : S.st = 2 ∨ S.st = 4 → S.wait = T.wait
  q : S.st = 3 → S.quiet = T.quiet
  t : S.st = 4 → S.tries = T.tries
theorem alk_heard {S T : Ss} (h : Alk S T) : Alk (heard S) (heard T) := by
  obtain ⟨r, e, a, st, wa, qu, tr⟩ := S
  obtain ⟨r', e', a', st', wa', qu', tr'⟩ := T
  obtain ⟨h1, h2, h3, h4, h5, h6, h7⟩ := h
  dsimp only at *
  subst h1 h2 h3 h4
  by_cases s3 : st = 3
  · simp only [heard, s3, if_true]; subst s3; exact ⟨rfl, rfl, rfl, rfl, h5, fun _ => rfl, h7⟩
  · simp only [heard, s3, if_false]; exact ⟨rfl, rfl, rfl, rfl, h5, h6, h7⟩
theorem alk_up {S T : Ss} (h1 : S.role = T.role) (h2 : S.echo = T.echo) (h3 : S.ans = T.ans) : Alk (up1 S) (up1 T) ∧ up2 S = up2 T := by
  obtain ⟨r, e, a, st, wa, qu, tr⟩ := S
  obtain ⟨r', e', a', st', wa', qu', tr'⟩ := T
  dsimp only at *
  subst h1 h2 h3
  by_cases hr : r = 1
  · simp only [up1, up2, hr, if_true]; exact ⟨⟨rfl, rfl, rfl, rfl, fun h => by simp at h, fun h => by simp at h, fun h => by simp at h⟩, trivial⟩
  · simp only [up1, up2, hr, if_false]; exact ⟨⟨rfl, rfl, rfl, rfl, fun _ => rfl, fun h => by simp at h, fun h => by simp at h⟩, trivial⟩
theorem alk_st {S T : Ss} (h : Alk S T) (v : Int) (hv : v = 0 ∨ v = 1) : Alk { S with st := v } { T with st := v } :=
  ⟨h.r, h.e, h.a, rfl, fun h2 => by simp at h2; omega, fun h2 => by simp at h2; omega, fun h2 => by simp at h2; omega⟩
theorem alk_on {S T : Ss} (h : Alk S T) : Alk (heard { S with st := 3 }) (heard { T with st := 3 }) := by
  simp only [heard, if_true]
  exact ⟨h.r, h.e, h.a, rfl, fun h2 => by simp at h2, fun _ => rfl, fun h2 => by simp at h2⟩
theorem alk_asked {S T : Ss} (h : Alk S T) (c : ByteArray) : Alk (asked1 S c) (asked1 T c) ∧ asked2 S c = asked2 T c := by
  have h' := h
  obtain ⟨r, e, a, st, wa, qu, tr⟩ := S
  obtain ⟨r', e', a', st', wa', qu', tr'⟩ := T
  obtain ⟨h1, h2, h3, h4, h5, h6, h7⟩ := h
  dsimp only at *
  subst h1 h2 h3 h4
  refine ⟨?_, rfl⟩
  by_cases h0 : st = 0
  · simp only [asked1, if_pos h0]; exact h'
  · by_cases c1 : c = t001 ∧ r = 1
    · simp only [asked1, grant1, if_neg h0, if_pos c1]; exact alk_on h'
    · by_cases c2 : c = t002
      · simp only [asked1, grant1, if_neg h0, if_neg c1, if_pos c2]; exact alk_heard (alk_st h' 1 (.inr rfl))
      · simp only [asked1, grant1, if_neg h0, if_neg c1, if_neg c2]; exact alk_heard h'
theorem alk_ansd {S T : Ss} (h : Alk S T) (c b : ByteArray) : Alk (ansd S c b) (ansd T c b) := by
  unfold ansd ansd0
  rw [← h.s]
  split
  · exact alk_on h
  · exact alk_heard h
theorem alk_tick {S T : Ss} (h : Alk S T) : Alk (tick1 S) (tick1 T) ∧ tick2 S = tick2 T := by
  obtain ⟨r, e, a, st, wa, qu, tr⟩ := S
  obtain ⟨r', e', a', st', wa', qu', tr'⟩ := T
  obtain ⟨h1, h2, h3, h4, h5, h6, h7⟩ := h
  dsimp only at *
  subst h1 h2 h3 h4
  by_cases s2 : st = 2
  · subst s2
    obtain rfl := h5 (.inl rfl)
    by_cases hw : wa + 1 < a
    · simp only [tick1, tick2, hw, if_true]; exact ⟨⟨rfl, rfl, rfl, rfl, fun _ => rfl, fun h => by simp at h, fun h => by simp at h⟩, trivial⟩
    · simp only [tick1, tick2, hw, if_true, if_false]; exact ⟨⟨rfl, rfl, rfl, rfl, fun _ => rfl, fun h => by simp at h, fun h => by simp at h⟩, trivial⟩
  by_cases s3 : st = 3
  · subst s3
    obtain rfl := h6 rfl
    by_cases hr : r = 1 ∨ e = 0
    · simp only [tick1, tick2, hr, s2, if_true, if_false]; exact ⟨⟨rfl, rfl, rfl, rfl, h5, h6, h7⟩, trivial⟩
    · by_cases hq : qu + 1 < e
      · simp only [tick1, tick2, hr, hq, s2, if_true, if_false]; exact ⟨⟨rfl, rfl, rfl, rfl, h5, fun _ => rfl, h7⟩, trivial⟩
      · simp only [tick1, tick2, hr, hq, s2, if_true, if_false]; exact ⟨⟨rfl, rfl, rfl, rfl, fun _ => rfl, fun _ => rfl, fun _ => rfl⟩, trivial⟩
  by_cases s4 : st = 4
  · subst s4
    obtain rfl := h5 (.inr rfl)
    obtain rfl := h7 rfl
    by_cases hw : wa + 1 < a
    · simp only [tick1, tick2, hw, s2, s3, if_true, if_false]; exact ⟨⟨rfl, rfl, rfl, rfl, fun _ => rfl, fun h => by simp at h, fun _ => rfl⟩, trivial⟩
    · by_cases ht : tr = 3
      · simp only [tick1, tick2, hw, ht, s2, s3, if_true, if_false]; exact ⟨⟨rfl, rfl, rfl, rfl, fun _ => rfl, fun h => by simp at h, fun _ => rfl⟩, trivial⟩
      · simp only [tick1, tick2, hw, ht, s2, s3, if_true, if_false]; exact ⟨⟨rfl, rfl, rfl, rfl, fun _ => rfl, fun h => by simp at h, fun _ => rfl⟩, trivial⟩
  · simp only [tick1, tick2, s2, s3, s4, if_false]; exact ⟨⟨rfl, rfl, rfl, rfl, h5, h6, h7⟩, trivial⟩
theorem alk_told {S T : Ss} (h : Alk S T) (k : Int) (c b : ByteArray) : Alk (told1 S k c b) (told1 T k c b) ∧ told2 S k c b = told2 T k c b := by
  unfold told1 told2
  by_cases h0 : k = 0
  · subst h0; exact ⟨alk_heard h, rfl⟩
  by_cases h1 : k = 1
  · subst h1; exact alk_asked h c
  by_cases h2 : k = 2
  · subst h2; exact ⟨alk_ansd h c b, rfl⟩
  by_cases h3 : k = 3
  · subst h3; exact alk_tick h
  by_cases h4 : k = 4
  · subst h4; exact alk_up h.r h.e h.a
  · simp only [h0, h1, h2, h3, h4, if_false]
    exact ⟨alk_st h 0 (.inl rfl), trivial⟩
theorem same_told (S : Ss) (k : Int) (c b : ByteArray) : (told1 S k c b).role = S.role ∧ (told1 S k c b).echo = S.echo ∧ (told1 S k c b).ans = S.ans := by
  unfold told1
  repeat' split
  · exact ⟨(same_heard S).1, (same_heard S).2.1, (same_heard S).2.2.1⟩
  · exact same_asked S c
  · exact same_ansd S c b
  · exact same_tick S
  · exact same_up S
  · exact ⟨rfl, rfl, rfl⟩
set_option maxHeartbeats 12800000 in
set_option maxRecDepth 100000 in
theorem walk (a0 a1 a2 : Int) (v3 : Value) (z3 : List Sh.Opv) (v4 : Value) (z4 : List Sh.Opv) (w : World) (w0 : (Lit.int .i64 a0).wf = true) (w1 : (Lit.int .i64 a1).wf = true) (w2 : (Lit.int .i64 a2).wf = true) (w3 : Sh.Lies w v3 z3 140737488351232) (w4 : Sh.Lies w v4 z4 140737488351232) (k3 : z3.length ≤ 140737488351232) (k4 : z4.length ≤ 140737488351232) :
    Calls Try.prog 8 #[.int .i64 a0, .int .i64 a1, .int .i64 a2, v3, v4] w fun e w' => e = .returned (.bool true) ∧ Below w.heap.size w w' := by
  have b0 := bnd w0
  have b1 := bnd w1
  have b2 := bnd w2
  have pk0 := fun x => Pick.pick_any a0 2 x b0.1 b0.2 (by decide) (by decide)
  have pk1 := fun x => Pick.pick_any a1 30 x b1.1 b1.2 (by decide) (by decide)
  have pk2 := fun x => Pick.pick_any a2 20 x b2.1 b2.2 (by decide) (by decide)
  have l0 := Pick.pick_lo a0 2 (by decide)
  have h0 := Pick.pick_hi a0 2 (by decide)
  have l1 := Pick.pick_lo a1 30 (by decide)
  have h1 := Pick.pick_hi a1 30 (by decide)
  have l2 := Pick.pick_lo a2 20 (by decide)
  have h2 := Pick.pick_hi a2 20 (by decide)
  generalize Pick.pickOf a0 2 = r0 at *
  generalize Pick.pickOf a1 30 = n at *
  generalize Pick.pickOf a2 20 = m0 at *
  have hI : isS (1 + r0) n (1 + m0) = true := by simp [isS]; omega
  have NW := fun x => new_good hI x
  have HO : Hid (OK (fresh (1 + r0) n (1 + m0))) := ok_fresh hI
  have HS3 : Hid (Sh.Lies w v3 z3 140737488351232) := w3
  have HS4 : Hid (Sh.Lies w v4 z4 140737488351232) := w4
  have hz3 : (z3.length : Int) ≤ 140737488351232 := by omega
  have hz4 : (z4.length : Int) ≤ 140737488351232 := by omega
  obtain ⟨so, scap, hv3, _⟩ := w3
  subst hv3
  obtain ⟨to, tcap, hv4, _⟩ := w4
  subst hv4
  clear b0 b1 b2 w0 w1 w2 hI
  go_enter Try.func8, Try.ntmps8
  go_wp2_with fail
  refine (pk0 _).mono ?_
  rintro e x0 ⟨rfl, hx0⟩
  rw [hx0]
  clear hx0 x0
  go_wp2_with fail
  refine (pk1 _).mono ?_
  rintro e x0 ⟨rfl, hx0⟩
  rw [hx0]
  clear hx0 x0
  go_wp2_with fail
  refine (pk2 _).mono ?_
  rintro e x0 ⟨rfl, hx0⟩
  rw [hx0]
  clear hx0 x0
  go_wp2_with fail
  refine (NW _).mono ?_
  rintro e y ⟨rfl, My, By⟩
  have HY : Hid (Sm 63 y w.heap.size (fresh (1 + r0) n (1 + m0))) := My
  have HB : Hid (Below w.heap.size w y) := By
  clear My By pk0 pk1 pk2
  obtain ⟨G, hG⟩ : ∃ G, w.heap.size = G := ⟨_, rfl⟩
  have gG : w.heap.size ≤ G := by omega
  rw [hG] at HY
  rw [hG]
  clear hG
  go_wp2_with fail
  refine (NW _).mono ?_
  rintro e y' ⟨rfl, My, By⟩
  have HY1 : Hid (Sm 63 y' G (fresh (1 + r0) n (1 + m0))) := HY.out.below By HY.out.lt
  have HY2 : Hid (Sm 63 y' y.heap.size (fresh (1 + r0) n (1 + m0))) := My
  have HB1 : Hid (Below w.heap.size w y') := Kb.keepB HB.out By
  have gH : G ≠ y.heap.size := by have := HY.out.lt; omega
  have gH2 : w.heap.size ≤ y.heap.size := HB.out.size
  obtain ⟨H, hH⟩ : ∃ H, y.heap.size = H := ⟨_, rfl⟩
  rw [hH] at HY2 gH gH2
  rw [hH]
  clear My By NW HY HB hH
  go_wp2_with fail
  go_loopw [18] (fun iv wr => ∃ (i : Nat) (S : Ss), iv = .int .i64 (i : Int) ∧ i ≤ z3.length ∧ S.role = 1 + r0 ∧ S.echo = n ∧ S.ans = 1 + m0 ∧ OK S ∧ Sm 63 wr G S ∧ Sm 63 wr H (fresh (1 + r0) n (1 + m0)) ∧ Below w.heap.size w wr) (fun iv _ => z3.length + 1 - (intOf iv).toNat)
  case atStart => exact ⟨0, fresh (1 + r0) n (1 + m0), rfl, Nat.zero_le _, rfl, rfl, rfl, HO.out, HY1.out, HY2.out, HB1.out⟩
  case round =>
    obtain ⟨i, S, rfl, hi, s1, s2, s3, oS, Mi, Mj, Bi⟩ := hrel
    clear HY1 HY2 HB1
    have HM : Hid (Sm 63 wr G S) := Mi
    have HN : Hid (Sm 63 wr H (fresh (1 + r0) n (1 + m0))) := Mj
    have HB : Hid (Below w.heap.size w wr) := Bi
    have HOK : Hid (OK S) := oS
    have HR : Hid (S.role = 1 + r0 ∧ S.echo = n ∧ S.ans = 1 + m0) := ⟨s1, s2, s3⟩
    clear Mi Mj Bi oS s1 s2 s3
    by_cases hc : i < z3.length
    · have q0 : (i : Int) < (z3.length : Int) := by omega
      have q1 : (0 : Int) ≤ (i : Int) := by omega
      obtain ⟨o', cap', ho, hat⟩ := HS3.out
      injection ho with ho1 _ ho2
      subst ho1 ho2
      obtain ⟨oa, rfl, hat1, hfine⟩ := hat i hc
      have HC : Hid (i < z3.length) := hc
      generalize z3[i] = op at *
      obtain ⟨ok, oc, ob⟩ := op
      obtain ⟨f0, f1, f2⟩ := hfine
      dsimp only at f0 f1 f2
      have bk := bnd f0
      have HAT : Hid (Sh.At w oa i ⟨ok, oc, ob⟩) := hat1
      obtain ⟨t0, t1, t2⟩ := Sh.at_below HAT.out rfl HB.out
      have r1 := t1
      have r2 := t2
      rw [Sh.add_field _ _ _ (by decide)] at r1 r2
      simp only at t0 t1 t2 r1 r2
      have TD := told_any HM.out HOK.out ok oc ob bk.1 bk.2 (by omega)
      have OT : Hid (OK _) := ok_told HOK.out (Pick.pickOf ok 6) oc ob
      have ST : Hid _ := same_told S (Pick.pickOf ok 6) oc ob
      generalize told1 S (Pick.pickOf ok 6) oc ob = S' at *
      generalize told2 S (Pick.pickOf ok 6) oc ob = sy at *
      clear hat hat1 f0 f1 f2 bk hc hi HAT
      go_wp2_with fail
      refine TD.mono ?_
      rintro e y1 ⟨rfl, My, Fy⟩
      have HM1 : Hid (Sm 63 y1 G S') := My
      have HN1 : Hid (Sm 63 y1 H (fresh (1 + r0) n (1 + m0))) := HN.out.fr Fy (by simpa using gH.symm)
      have HB1 : Hid (Below w.heap.size w y1) := Fr.under HB.out Fy (by simpa using gG) HB.out.size
      clear My Fy HM HN HB TD t0 t1 t2 r1 r2
      go_wp2_with fail
      refine ⟨⟨i + 1, S', by simp, HC.out, ST.out.1.trans HR.out.1, ST.out.2.1.trans HR.out.2.1, ST.out.2.2.trans HR.out.2.2, OT.out, HM1.out, HN1.out, HB1.out⟩, ?_⟩
      simp only [intOf]
      have := HC.out
      omega
    · have hc2 : ¬ (i : Int) < (z3.length : Int) := by omega
      clear hi hc
      have hr01 : r0 = 0 ∨ r0 = 1 := by omega
      have AU := alk_up (S := S) (T := fresh (1 + r0) n (1 + m0)) HR.out.1 HR.out.2.1 HR.out.2.2
      have OU : Hid (OK (up1 S)) := ok_up HOK.out
      have OV : Hid (OK (up1 (fresh (1 + r0) n (1 + m0)))) := ok_up HO.out
      have UA := up_any HM.out
      have US : Hid ((r0 = 0 → up2 S = no ∧ (up1 S).st = 1) ∧ (r0 = 1 → up2 S = asks t001 ∧ (up1 S).st = 2)) := by
        refine ⟨fun h => ?_, fun h => ?_⟩
        · have : S.role = 1 := by rw [HR.out.1, h]; rfl
          simp [up1, up2, this]
        · have : ¬ S.role = 1 := by rw [HR.out.1, h]; decide
          simp [up1, up2, this]
      have HAL : Hid (Alk (up1 S) (up1 (fresh (1 + r0) n (1 + m0)))) := AU.1
      have HUP : Hid (up2 S = up2 (fresh (1 + r0) n (1 + m0))) := AU.2
      clear AU HOK HR HM
      generalize up1 S = S1 at *
      generalize up2 S = sy at *
      go_wp2_with fail
      refine UA.mono ?_
      rintro e y1 ⟨rfl, My, Fy⟩
      have HM1 : Hid (Sm 63 y1 G S1) := My
      have HN1 : Hid (Sm 63 y1 H (fresh (1 + r0) n (1 + m0))) := HN.out.fr Fy (by simpa using gH.symm)
      have HB1 : Hid (Below w.heap.size w y1) := Fr.under HB.out Fy (by simpa using gG) HB.out.size
      clear My Fy HN HB UA
      obtain ⟨yc, yb, yl⟩ := sy
      rw [show sayV ⟨yc, yb, yl⟩ = .agg #[.string yc, .string yb, .bool yl] from rfl]
      go_wp2_with fail
      obtain ⟨q1, hq1⟩ : ∃ q1, y1.alloc (.cells #[.string yc, .string yb, .bool yl] 40) = q1 := ⟨_, rfl⟩
      have HM2 : Hid (Sm 63 q1 G S1) := hq1 ▸ HM1.out.alloc _
      have HN2 : Hid (Sm 63 q1 H (fresh (1 + r0) n (1 + m0))) := hq1 ▸ HN1.out.alloc _
      have HB2 : Hid (Below w.heap.size w q1) := hq1 ▸ HB1.out.alloc HB1.out.size _
      have HX2 : Hid (q1.heap[y1.heap.size]? = some (.cells #[.string yc, .string yb, .bool yl] 40)) := hq1 ▸ Kb.h1_0 y1 _
      have gX : y1.heap.size ≠ G := by have := HM1.out.lt; omega
      have gX2 : y1.heap.size ≠ H := by have := HN1.out.lt; omega
      have lX : w.heap.size ≤ y1.heap.size := HB1.out.size
      obtain ⟨X, eqX⟩ : ∃ X, y1.heap.size = X := ⟨_, rfl⟩
      rw [eqX] at HX2 gX gX2 lX
      rw [hq1, eqX]
      clear hq1 eqX HM1 HN1 HB1
      refine (up_any HN2.out).mono ?_
      rintro e y2 ⟨rfl, My, Fy⟩
      rw [← HUP.out]
      have HN3 : Hid (Sm 63 y2 H (up1 (fresh (1 + r0) n (1 + m0)))) := My
      have HM3 : Hid (Sm 63 y2 G S1) := HM2.out.fr Fy (by simpa using gH)
      have HB3 : Hid (Below w.heap.size w y2) := Fr.under HB2.out Fy (by simpa using gH2) HB2.out.size
      have HX3 : Hid (y2.heap[X]? = some (.cells #[.string yc, .string yb, .bool yl] 40)) := res_to HX2.out Fy gX2
      clear My Fy HN2 HM2 HB2 HX2
      generalize up1 (fresh (1 + r0) n (1 + m0)) = T1 at *
      rw [show sayV ⟨yc, yb, yl⟩ = .agg #[.string yc, .string yb, .bool yl] from rfl]
      have hXa : (y2.alloc (.cells #[.string yc, .string yb, .bool yl] 40)).heap[X]? = some (.cells #[.string yc, .string yb, .bool yl] 40) := (Below.heap_alloc _ _ _ (Array.getElem?_eq_some_iff.1 HX3.out).1).trans HX3.out
      obtain ⟨x0, x1, x2, _⟩ := cells3 hXa
      clear hXa
      go_wp2_with fail
      obtain ⟨q2, hq2⟩ : ∃ q2, y2.alloc (.cells #[.string yc, .string yb, .bool yl] 40) = q2 := ⟨_, rfl⟩
      have HM4 : Hid (Sm 63 q2 G S1) := hq2 ▸ HM3.out.alloc _
      have HN4 : Hid (Sm 63 q2 H T1) := hq2 ▸ HN3.out.alloc _
      have HB4 : Hid (Below w.heap.size w q2) := hq2 ▸ HB3.out.alloc HB3.out.size _
      have HY4 : Hid (q2.heap[y2.heap.size]? = some (.cells #[.string yc, .string yb, .bool yl] 40)) := hq2 ▸ Kb.h1_0 y2 _
      have HX4 : Hid (q2.heap[X]? = some (.cells #[.string yc, .string yb, .bool yl] 40)) := hq2 ▸ (Below.heap_alloc _ _ _ (Array.getElem?_eq_some_iff.1 HX3.out).1).trans HX3.out
      have gY : y2.heap.size ≠ G := by have := HM3.out.lt; omega
      have gY2 : y2.heap.size ≠ H := by have := HN3.out.lt; omega
      have gXY : X ≠ y2.heap.size := by have := (Array.getElem?_eq_some_iff.1 HX3.out).1; omega
      have lY : w.heap.size ≤ y2.heap.size := HB3.out.size
      obtain ⟨Z, eqZ⟩ : ∃ Z, y2.heap.size = Z := ⟨_, rfl⟩
      rw [eqZ] at HY4 gY gY2 lY gXY
      rw [hq2, eqZ]
      clear hq2 eqZ HM3 HN3 HB3 HX3 x0 x1 x2
      obtain ⟨x0, x1, x2, _⟩ := cells3 HX4.out
      have hst : T1.st = S1.st := HAL.out.s.symm
      rcases hr01 with hr | hr
      · obtain ⟨hsy, hs1⟩ := US.out.1 hr
        subst hr
        replace hs1 : Hid (S1.st = 1) := hs1
        replace hst : Hid (T1.st = S1.st) := hst
        clear hsy
        refine (state_any HM4.out).mono ?_
        rintro e x0 ⟨rfl, hx0⟩
        rw [hx0]
        clear hx0 x0
        rw [hs1.out]
        go_wp2_with fail
        refine (state_any HN4.out).mono ?_
        rintro e x0 ⟨rfl, hx0⟩
        rw [hx0]
        clear hx0 x0
        rw [hst.out, hs1.out]
        go_wp2_with fail
        refine (state_any HM4.out).mono ?_
        rintro e x0 ⟨rfl, hx0⟩
        rw [hx0]
        clear hx0 x0
        rw [hs1.out]
        go_wp2_with fail
        clear US
        go_loopw [21] (fun iv wr => ∃ (i : Nat) (S T : Ss) (u v t u' v' t' : Value), iv = .int .i64 (i : Int) ∧ i ≤ z4.length ∧ Alk S T ∧ OK S ∧ OK T ∧ Sm 63 wr G S ∧ Sm 63 wr H T ∧ wr.heap[X]? = some (.cells #[u, v, t] 40) ∧ wr.heap[Z]? = some (.cells #[u', v', t'] 40) ∧ Below w.heap.size w wr) (fun iv _ => z4.length + 1 - (intOf iv).toNat)
        case atStart => exact ⟨0, S1, T1, _, _, _, _, _, _, rfl, Nat.zero_le _, HAL.out, OU.out, OV.out, HM4.out, HN4.out, HX4.out, HY4.out, HB4.out⟩
        case round =>
          obtain ⟨i, S, T, u, v, t, u', v', t', rfl, hi, al, oS, oT, Mi, Mj, Xi, Zi, Bi⟩ := hrel
          clear HM4 HN4 HX4 HY4 HB4 HAL OU OV
          have HM : Hid (Sm 63 wr G S) := Mi
          have HN : Hid (Sm 63 wr H T) := Mj
          have HB : Hid (Below w.heap.size w wr) := Bi
          have HX : Hid (wr.heap[X]? = some (.cells #[u, v, t] 40)) := Xi
          have HZ : Hid (wr.heap[Z]? = some (.cells #[u', v', t'] 40)) := Zi
          have HAL : Hid (Alk S T) := al
          have OS : Hid (OK S) := oS
          have OTT : Hid (OK T) := oT
          clear Mi Mj Xi Zi Bi al oS oT
          by_cases hc : i < z4.length
          · have q0 : (i : Int) < (z4.length : Int) := by omega
            have q1 : (0 : Int) ≤ (i : Int) := by omega
            obtain ⟨o', cap', ho, hat⟩ := HS4.out
            injection ho with ho1 _ ho2
            subst ho1 ho2
            obtain ⟨oa, rfl, hat1, hfine⟩ := hat i hc
            have HC : Hid (i < z4.length) := hc
            generalize z4[i] = op at *
            obtain ⟨ok, oc, ob⟩ := op
            obtain ⟨f0, f1, f2⟩ := hfine
            dsimp only at f0 f1 f2
            have bk := bnd f0
            have HAT : Hid (Sh.At w oa i ⟨ok, oc, ob⟩) := hat1
            obtain ⟨t0, t1, t2⟩ := Sh.at_below HAT.out rfl HB.out
            have r1 := t1
            have r2 := t2
            rw [Sh.add_field _ _ _ (by decide)] at r1 r2
            simp only at t0 t1 t2 r1 r2
            have TD := told_any HM.out OS.out ok oc ob bk.1 bk.2 (by omega)
            have TE := fun (x : World) (M : Sm 63 x H T) => told_any M OTT.out ok oc ob bk.1 bk.2 (by omega)
            have O1 : Hid (OK (told1 S (Pick.pickOf ok 6) oc ob)) := ok_told OS.out (Pick.pickOf ok 6) oc ob
            have O2 : Hid (OK (told1 T (Pick.pickOf ok 6) oc ob)) := ok_told OTT.out (Pick.pickOf ok 6) oc ob
            have AT := alk_told HAL.out (Pick.pickOf ok 6) oc ob
            have A1 : Hid (Alk (told1 S (Pick.pickOf ok 6) oc ob) (told1 T (Pick.pickOf ok 6) oc ob)) := AT.1
            rw [← AT.2] at TE
            clear AT OS OTT HAL
            generalize told1 S (Pick.pickOf ok 6) oc ob = S' at *
            generalize told1 T (Pick.pickOf ok 6) oc ob = T' at *
            generalize told2 S (Pick.pickOf ok 6) oc ob = sy at *
            obtain ⟨sc, sb, sl⟩ := sy
            clear hat hat1 f0 f1 f2 bk hc hi
            go_wp2_with fail
            refine TD.mono ?_
            rintro e y5 ⟨rfl, My, Fy⟩
            have HM1 : Hid (Sm 63 y5 G S') := My
            have HN1 : Hid (Sm 63 y5 H T) := HN.out.fr Fy (by simpa using gH.symm)
            have HB1 : Hid (Below w.heap.size w y5) := Fr.under HB.out Fy (by simpa using gG) HB.out.size
            have HX1 : Hid (y5.heap[X]? = some (.cells #[u, v, t] 40)) := res_to HX.out Fy gX
            have HZ1 : Hid (y5.heap[Z]? = some (.cells #[u', v', t'] 40)) := res_to HZ.out Fy gY
            clear My Fy HM HN HB HX HZ TD t0 t1 t2 r1 r2
            obtain ⟨j0, j1, j2, jf⟩ := cells3 HX1.out
            have jf0 := jf 0
            have jf1 := jf 1
            have jf2 := jf 2
            obtain ⟨q5, hq5⟩ : ∃ q5, ((y5.setCell ⟨X, 0, none⟩ (.string sc)).setCell ⟨X, 1, none⟩ (.string sb)).setCell ⟨X, 2, none⟩ (.bool sl) = q5 := ⟨_, rfl⟩
            have HM2 : Hid (Sm 63 q5 G S') := hq5 ▸ sm_set3 HM1.out gX _ _ _
            have HN2 : Hid (Sm 63 q5 H T) := hq5 ▸ sm_set3 HN1.out gX2 _ _ _
            have HB2 : Hid (Below w.heap.size w q5) := hq5 ▸ ((HB1.out.setCell (p := ⟨X, 0, none⟩) lX _).setCell (p := ⟨X, 1, none⟩) lX _).setCell (p := ⟨X, 2, none⟩) lX _
            have HX2 : Hid (q5.heap[X]? = some (.cells #[.string sc, .string sb, .bool sl] 40)) := hq5 ▸ setCell_heap (setCell_heap (setCell_heap HX1.out 0 _) 1 _) 2 _
            have HZ2 : Hid (q5.heap[Z]? = some (.cells #[u', v', t'] 40)) := hq5 ▸ (((setCell_ne gXY _ _).trans (setCell_ne gXY _ _)).trans (setCell_ne gXY _ _)).trans HZ1.out
            have HQ5 : Hid (((y5.setCell ⟨X, 0, none⟩ (.string sc)).setCell ⟨X, 1, none⟩ (.string sb)).setCell ⟨X, 2, none⟩ (.bool sl) = q5) := hq5
            have cc0 : q5.cell? (oa.add (i * 3)) = some (.int .i64 ok) := (Sh.at_below HAT.out rfl HB2.out).1
            have cc1 : q5.cell? (oa.add (i * 3 + 1)) = some (.string oc) := (Sh.at_below HAT.out rfl HB2.out).2.1
            have cc2 : q5.cell? (oa.add (i * 3 + 2)) = some (.string ob) := (Sh.at_below HAT.out rfl HB2.out).2.2
            rw [← hq5] at cc0 cc1 cc2
            have cd1 := cc1
            have cd2 := cc2
            rw [Sh.add_field _ _ _ (by decide)] at cd1 cd2
            clear hq5 jf
            rw [show sayV ⟨sc, sb, sl⟩ = .agg #[.string sc, .string sb, .bool sl] from rfl]
            go_wp2_with fail
            rw [HQ5.out]
            clear HQ5 cc0 cc1 cc2 cd1 cd2 j0 j1 j2 jf0 jf1 jf2 HM1 HN1 HB1 HX1 HZ1
            refine (TE _ HN2.out).mono ?_
            rintro e y6 ⟨rfl, My, Fy⟩
            have HN3 : Hid (Sm 63 y6 H T') := My
            have HM3 : Hid (Sm 63 y6 G S') := HM2.out.fr Fy (by simpa using gH)
            have HB3 : Hid (Below w.heap.size w y6) := Fr.under HB2.out Fy (by simpa using gH2) HB2.out.size
            have HX3 : Hid (y6.heap[X]? = some (.cells #[.string sc, .string sb, .bool sl] 40)) := res_to HX2.out Fy gX2
            have HZ3 : Hid (y6.heap[Z]? = some (.cells #[u', v', t'] 40)) := res_to HZ2.out Fy gY2
            clear My Fy HM2 HN2 HB2 HX2 HZ2 TE
            obtain ⟨j0, j1, j2, jf⟩ := cells3 HZ3.out
            have jf0 := jf 0
            have jf1 := jf 1
            have jf2 := jf 2
            obtain ⟨q6, hq6⟩ : ∃ q6, ((y6.setCell ⟨Z, 0, none⟩ (.string sc)).setCell ⟨Z, 1, none⟩ (.string sb)).setCell ⟨Z, 2, none⟩ (.bool sl) = q6 := ⟨_, rfl⟩
            have HM4 : Hid (Sm 63 q6 G S') := hq6 ▸ sm_set3 HM3.out gY _ _ _
            have HN4 : Hid (Sm 63 q6 H T') := hq6 ▸ sm_set3 HN3.out gY2 _ _ _
            have HB4 : Hid (Below w.heap.size w q6) := hq6 ▸ ((HB3.out.setCell (p := ⟨Z, 0, none⟩) lY _).setCell (p := ⟨Z, 1, none⟩) lY _).setCell (p := ⟨Z, 2, none⟩) lY _
            have HZ4 : Hid (q6.heap[Z]? = some (.cells #[.string sc, .string sb, .bool sl] 40)) := hq6 ▸ setCell_heap (setCell_heap (setCell_heap HZ3.out 0 _) 1 _) 2 _
            have HX4 : q6.heap[X]? = some (.cells #[.string sc, .string sb, .bool sl] 40) := hq6 ▸ (((setCell_ne gXY.symm _ _).trans (setCell_ne gXY.symm _ _)).trans (setCell_ne gXY.symm _ _)).trans HX3.out
            have HQ6 : Hid (((y6.setCell ⟨Z, 0, none⟩ (.string sc)).setCell ⟨Z, 1, none⟩ (.string sb)).setCell ⟨Z, 2, none⟩ (.bool sl) = q6) := hq6
            obtain ⟨x0, x1, x2, _⟩ := cells3 HX4
            rw [← hq6] at x0 x1 x2
            replace HX4 : Hid (q6.heap[X]? = some (.cells #[.string sc, .string sb, .bool sl] 40)) := HX4
            clear hq6 jf
            rw [show sayV ⟨sc, sb, sl⟩ = .agg #[.string sc, .string sb, .bool sl] from rfl]
            go_wp2_with fail
            rw [HQ6.out]
            clear HQ6 x0 x1 x2 j0 j1 j2 jf0 jf1 jf2 HM3 HN3 HB3 HX3 HZ3
            have hst5 : Hid (T'.st = S'.st) := A1.out.s.symm
            refine (state_any HM4.out).mono ?_
            rintro e x0 ⟨rfl, hx0⟩
            rw [hx0]
            clear hx0 x0
            go_wp2_with fail
            refine (state_any HN4.out).mono ?_
            rintro e x0 ⟨rfl, hx0⟩
            rw [hx0]
            clear hx0 x0
            rw [hst5.out]
            go_wp2_with fail
            refine (ready_any HM4.out).mono ?_
            rintro e x0 ⟨rfl, hx0⟩
            rw [hx0]
            clear hx0 x0
            go_wp2_with fail
            refine (ready_any HN4.out).mono ?_
            rintro e x0 ⟨rfl, hx0⟩
            rw [hx0]
            clear hx0 x0
            rw [hst5.out]
            go_wp2_with fail
            refine ⟨⟨i + 1, S', T', _, _, _, _, _, _, by simp, HC.out, A1.out, O1.out, O2.out, HM4.out, HN4.out, HX4.out, HZ4.out, HB4.out⟩, ?_⟩
            simp only [intOf]
            have := HC.out
            omega
          · have hc2 : ¬ (i : Int) < (z4.length : Int) := by omega
            clear hc hi
            go_wp2_with fail
            go_ret
            exact ⟨rfl, HB.out⟩
      · obtain ⟨hsy, hs1⟩ := US.out.2 hr
        subst hr
        injection hsy with hy1 hy2 hy3
        subst hy1 hy2 hy3
        simp only [t001] at x0 HX4 HY4
        replace hs1 : Hid (S1.st = 2) := hs1
        replace hst : Hid (T1.st = S1.st) := hst
        unfold t001
        refine (state_any HM4.out).mono ?_
        rintro e x0 ⟨rfl, hx0⟩
        rw [hx0]
        clear hx0 x0
        rw [hs1.out]
        go_wp2_with fail
        refine (state_any HN4.out).mono ?_
        rintro e x0 ⟨rfl, hx0⟩
        rw [hx0]
        clear hx0 x0
        rw [hst.out, hs1.out]
        go_wp2_with fail
        clear US
        go_loopw [21] (fun iv wr => ∃ (i : Nat) (S T : Ss) (u v t u' v' t' : Value), iv = .int .i64 (i : Int) ∧ i ≤ z4.length ∧ Alk S T ∧ OK S ∧ OK T ∧ Sm 63 wr G S ∧ Sm 63 wr H T ∧ wr.heap[X]? = some (.cells #[u, v, t] 40) ∧ wr.heap[Z]? = some (.cells #[u', v', t'] 40) ∧ Below w.heap.size w wr) (fun iv _ => z4.length + 1 - (intOf iv).toNat)
        case atStart => exact ⟨0, S1, T1, _, _, _, _, _, _, rfl, Nat.zero_le _, HAL.out, OU.out, OV.out, HM4.out, HN4.out, HX4.out, HY4.out, HB4.out⟩
        case round =>
          obtain ⟨i, S, T, u, v, t, u', v', t', rfl, hi, al, oS, oT, Mi, Mj, Xi, Zi, Bi⟩ := hrel
          clear HM4 HN4 HX4 HY4 HB4 HAL OU OV
          have HM : Hid (Sm 63 wr G S) := Mi
          have HN : Hid (Sm 63 wr H T) := Mj
          have HB : Hid (Below w.heap.size w wr) := Bi
          have HX : Hid (wr.heap[X]? = some (.cells #[u, v, t] 40)) := Xi
          have HZ : Hid (wr.heap[Z]? = some (.cells #[u', v', t'] 40)) := Zi
          have HAL : Hid (Alk S T) := al
          have OS : Hid (OK S) := oS
          have OTT : Hid (OK T) := oT
          clear Mi Mj Xi Zi Bi al oS oT
          by_cases hc : i < z4.length
          · have q0 : (i : Int) < (z4.length : Int) := by omega
            have q1 : (0 : Int) ≤ (i : Int) := by omega
            obtain ⟨o', cap', ho, hat⟩ := HS4.out
            injection ho with ho1 _ ho2
            subst ho1 ho2
            obtain ⟨oa, rfl, hat1, hfine⟩ := hat i hc
            have HC : Hid (i < z4.length) := hc
            generalize z4[i] = op at *
            obtain ⟨ok, oc, ob⟩ := op
            obtain ⟨f0, f1, f2⟩ := hfine
            dsimp only at f0 f1 f2
            have bk := bnd f0
            have HAT : Hid (Sh.At w oa i ⟨ok, oc, ob⟩) := hat1
            obtain ⟨t0, t1, t2⟩ := Sh.at_below HAT.out rfl HB.out
            have r1 := t1
            have r2 := t2
            rw [Sh.add_field _ _ _ (by decide)] at r1 r2
            simp only at t0 t1 t2 r1 r2
            have TD := told_any HM.out OS.out ok oc ob bk.1 bk.2 (by omega)
            have TE := fun (x : World) (M : Sm 63 x H T) => told_any M OTT.out ok oc ob bk.1 bk.2 (by omega)
            have O1 : Hid (OK (told1 S (Pick.pickOf ok 6) oc ob)) := ok_told OS.out (Pick.pickOf ok 6) oc ob
            have O2 : Hid (OK (told1 T (Pick.pickOf ok 6) oc ob)) := ok_told OTT.out (Pick.pickOf ok 6) oc ob
            have AT := alk_told HAL.out (Pick.pickOf ok 6) oc ob
            have A1 : Hid (Alk (told1 S (Pick.pickOf ok 6) oc ob) (told1 T (Pick.pickOf ok 6) oc ob)) := AT.1
            rw [← AT.2] at TE
            clear AT OS OTT HAL
            generalize told1 S (Pick.pickOf ok 6) oc ob = S' at *
            generalize told1 T (Pick.pickOf ok 6) oc ob = T' at *
            generalize told2 S (Pick.pickOf ok 6) oc ob = sy at *
            obtain ⟨sc, sb, sl⟩ := sy
            clear hat hat1 f0 f1 f2 bk hc hi
            go_wp2_with fail
            refine TD.mono ?_
            rintro e y5 ⟨rfl, My, Fy⟩
            have HM1 : Hid (Sm 63 y5 G S') := My
            have HN1 : Hid (Sm 63 y5 H T) := HN.out.fr Fy (by simpa using gH.symm)
            have HB1 : Hid (Below w.heap.size w y5) := Fr.under HB.out Fy (by simpa using gG) HB.out.size
            have HX1 : Hid (y5.heap[X]? = some (.cells #[u, v, t] 40)) := res_to HX.out Fy gX
            have HZ1 : Hid (y5.heap[Z]? = some (.cells #[u', v', t'] 40)) := res_to HZ.out Fy gY
            clear My Fy HM HN HB HX HZ TD t0 t1 t2 r1 r2
            obtain ⟨j0, j1, j2, jf⟩ := cells3 HX1.out
            have jf0 := jf 0
            have jf1 := jf 1
            have jf2 := jf 2
            obtain ⟨q5, hq5⟩ : ∃ q5, ((y5.setCell ⟨X, 0, none⟩ (.string sc)).setCell ⟨X, 1, none⟩ (.string sb)).setCell ⟨X, 2, none⟩ (.bool sl) = q5 := ⟨_, rfl⟩
            have HM2 : Hid (Sm 63 q5 G S') := hq5 ▸ sm_set3 HM1.out gX _ _ _
            have HN2 : Hid (Sm 63 q5 H T) := hq5 ▸ sm_set3 HN1.out gX2 _ _ _
            have HB2 : Hid (Below w.heap.size w q5) := hq5 ▸ ((HB1.out.setCell (p := ⟨X, 0, none⟩) lX _).setCell (p := ⟨X, 1, none⟩) lX _).setCell (p := ⟨X, 2, none⟩) lX _
            have HX2 : Hid (q5.heap[X]? = some (.cells #[.string sc, .string sb, .bool sl] 40)) := hq5 ▸ setCell_heap (setCell_heap (setCell_heap HX1.out 0 _) 1 _) 2 _
            have HZ2 : Hid (q5.heap[Z]? = some (.cells #[u', v', t'] 40)) := hq5 ▸ (((setCell_ne gXY _ _).trans (setCell_ne gXY _ _)).trans (setCell_ne gXY _ _)).trans HZ1.out
            have HQ5 : Hid (((y5.setCell ⟨X, 0, none⟩ (.string sc)).setCell ⟨X, 1, none⟩ (.string sb)).setCell ⟨X, 2, none⟩ (.bool sl) = q5) := hq5
            have cc0 : q5.cell? (oa.add (i * 3)) = some (.int .i64 ok) := (Sh.at_below HAT.out rfl HB2.out).1
            have cc1 : q5.cell? (oa.add (i * 3 + 1)) = some (.string oc) := (Sh.at_below HAT.out rfl HB2.out).2.1
            have cc2 : q5.cell? (oa.add (i * 3 + 2)) = some (.string ob) := (Sh.at_below HAT.out rfl HB2.out).2.2
            rw [← hq5] at cc0 cc1 cc2
            have cd1 := cc1
            have cd2 := cc2
            rw [Sh.add_field _ _ _ (by decide)] at cd1 cd2
            clear hq5 jf
            rw [show sayV ⟨sc, sb, sl⟩ = .agg #[.string sc, .string sb, .bool sl] from rfl]
            go_wp2_with fail
            rw [HQ5.out]
            clear HQ5 cc0 cc1 cc2 cd1 cd2 j0 j1 j2 jf0 jf1 jf2 HM1 HN1 HB1 HX1 HZ1
            refine (TE _ HN2.out).mono ?_
            rintro e y6 ⟨rfl, My, Fy⟩
            have HN3 : Hid (Sm 63 y6 H T') := My
            have HM3 : Hid (Sm 63 y6 G S') := HM2.out.fr Fy (by simpa using gH)
            have HB3 : Hid (Below w.heap.size w y6) := Fr.under HB2.out Fy (by simpa using gH2) HB2.out.size
            have HX3 : Hid (y6.heap[X]? = some (.cells #[.string sc, .string sb, .bool sl] 40)) := res_to HX2.out Fy gX2
            have HZ3 : Hid (y6.heap[Z]? = some (.cells #[u', v', t'] 40)) := res_to HZ2.out Fy gY2
            clear My Fy HM2 HN2 HB2 HX2 HZ2 TE
            obtain ⟨j0, j1, j2, jf⟩ := cells3 HZ3.out
            have jf0 := jf 0
            have jf1 := jf 1
            have jf2 := jf 2
            obtain ⟨q6, hq6⟩ : ∃ q6, ((y6.setCell ⟨Z, 0, none⟩ (.string sc)).setCell ⟨Z, 1, none⟩ (.string sb)).setCell ⟨Z, 2, none⟩ (.bool sl) = q6 := ⟨_, rfl⟩
            have HM4 : Hid (Sm 63 q6 G S') := hq6 ▸ sm_set3 HM3.out gY _ _ _
            have HN4 : Hid (Sm 63 q6 H T') := hq6 ▸ sm_set3 HN3.out gY2 _ _ _
            have HB4 : Hid (Below w.heap.size w q6) := hq6 ▸ ((HB3.out.setCell (p := ⟨Z, 0, none⟩) lY _).setCell (p := ⟨Z, 1, none⟩) lY _).setCell (p := ⟨Z, 2, none⟩) lY _
            have HZ4 : Hid (q6.heap[Z]? = some (.cells #[.string sc, .string sb, .bool sl] 40)) := hq6 ▸ setCell_heap (setCell_heap (setCell_heap HZ3.out 0 _) 1 _) 2 _
            have HX4 : q6.heap[X]? = some (.cells #[.string sc, .string sb, .bool sl] 40) := hq6 ▸ (((setCell_ne gXY.symm _ _).trans (setCell_ne gXY.symm _ _)).trans (setCell_ne gXY.symm _ _)).trans HX3.out
            have HQ6 : Hid (((y6.setCell ⟨Z, 0, none⟩ (.string sc)).setCell ⟨Z, 1, none⟩ (.string sb)).setCell ⟨Z, 2, none⟩ (.bool sl) = q6) := hq6
            obtain ⟨x0, x1, x2, _⟩ := cells3 HX4
            rw [← hq6] at x0 x1 x2
            replace HX4 : Hid (q6.heap[X]? = some (.cells #[.string sc, .string sb, .bool sl] 40)) := HX4
            clear hq6 jf
            rw [show sayV ⟨sc, sb, sl⟩ = .agg #[.string sc, .string sb, .bool sl] from rfl]
            go_wp2_with fail
            rw [HQ6.out]
            clear HQ6 x0 x1 x2 j0 j1 j2 jf0 jf1 jf2 HM3 HN3 HB3 HX3 HZ3
            have hst5 : Hid (T'.st = S'.st) := A1.out.s.symm
            refine (state_any HM4.out).mono ?_
            rintro e x0 ⟨rfl, hx0⟩
            rw [hx0]
            clear hx0 x0
            go_wp2_with fail
            refine (state_any HN4.out).mono ?_
            rintro e x0 ⟨rfl, hx0⟩
            rw [hx0]
            clear hx0 x0
            rw [hst5.out]
            go_wp2_with fail
            refine (ready_any HM4.out).mono ?_
            rintro e x0 ⟨rfl, hx0⟩
            rw [hx0]
            clear hx0 x0
            go_wp2_with fail
            refine (ready_any HN4.out).mono ?_
            rintro e x0 ⟨rfl, hx0⟩
            rw [hx0]
            clear hx0 x0
            rw [hst5.out]
            go_wp2_with fail
            refine ⟨⟨i + 1, S', T', _, _, _, _, _, _, by simp, HC.out, A1.out, O1.out, O2.out, HM4.out, HN4.out, HX4.out, HZ4.out, HB4.out⟩, ?_⟩
            simp only [intOf]
            have := HC.out
            omega
          · have hc2 : ¬ (i : Int) < (z4.length : Int) := by omega
            clear hc hi
            go_wp2_with fail
            go_ret
            exact ⟨rfl, HB.out⟩
end Go.Proofs.Ythfpjkboglbcaaa.Sw
