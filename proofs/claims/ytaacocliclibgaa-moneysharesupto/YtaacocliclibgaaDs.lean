/- The document's Share. -/
import Derived.Test.YtaacocliclibgaaDp
import Derived.Test.YtaacocliclibgaaOw
import Derived.Test.YtaacocliclibgaaSj
import Derived.BigQuiet
import Derived.Deep.AppendLies
import Derived.Deep.OwnRows
namespace Go.Proofs.Ytaacocliclibgaa.Ds
set_option linter.unusedVariables false
set_option linter.unusedSimpArgs false
open Go.RowKit Sl Kb Mp Ms So Sc Gf Tg Sa Dp Ow
theorem halt {p : Prop} (h : True → p) : p := h trivial
def Apart (v u : Value) : Prop := ∀ g, v.ownBlock = some g → u.ownBlock = some g → False
theorem apart_ne {v u : Value} (h : Apart v u) : u.ownBlock = none ∨ u.ownBlock ≠ v.ownBlock := by
  cases e : u.ownBlock with
  | none => exact .inl rfl
  | some g => exact .inr fun e2 => h g e2.symm e
theorem apart_new {w : World} {base e n size gg c k H : Nat} {v u : Value} {xs : List Value} (h : Apart v u) (hu : w.ownsRow base e size u n xs) (hat : v.ownBlock = some gg ∨ gg = H) (hH : w.heap.size ≤ H) : Apart (.slice (some ⟨gg, 0, none⟩) k c) u := by
  intro g h1 h2
  simp only [Value.ownBlock, Option.some.injEq] at h1
  subst h1
  rcases hat with hat | hat
  · exact h _ hat h2
  · have := (hu.lt _ h2).2; omega
theorem apart_symm {v u : Value} (h : Apart v u) : Apart u v := fun g h1 h2 => h g h2 h1
def fl (f : Nat → Int) (n : Nat) : List Int := (List.range n).map f
theorem fl_len (f : Nat → Int) (n : Nat) : (fl f n).length = n := by simp [fl]
theorem fl_succ (f : Nat → Int) (n : Nat) : fl f (n + 1) = fl f n ++ [f n] := by simp [fl, List.range_succ]
theorem fl_get (f : Nat → Int) (n i : Nat) (h : i < n) : (fl f n)[i]? = some (f i) := by simp [fl, h]
/-- a row in a block, as far as n -/
structure Rf (w : World) (g co n : Nat) (F : Nat → Int) : Prop where
  ex : ∃ cur : Array Value, w.heap[g]? = some (.cells cur 3 (0, 0)) ∧ cur.size = co ∧ ∀ i, i < n → cur[i]? = some (.int .i64 (F i))
theorem rf_of {w : World} {base g n co : Nat} {F : Nat → Int} (h : w.ownsRow base 3 1 (.slice (some ⟨g, 0, none⟩) n co) n (iv (fl F n))) : Rf w g co n F ∧ base ≤ g ∧ n ≤ co ∧ co ≤ maxLen := by
  rcases h.2 with ⟨e, _⟩ | ⟨g', c', cur, e, hb, hg, hn, hm, hs, ht⟩
  · cases e
  · injection e with e1 e2 e3
    injection e1 with e1
    injection e1 with e1
    subst e1; subst e3
    refine ⟨⟨cur, hg, by omega, fun i hi => ?_⟩, hb, hn, hm⟩
    have h1 : (iv (fl F n))[i]? = some (.int .i64 (F i)) := by rw [iv, List.getElem?_map, fl_get F n i hi]; rfl
    rw [← ht, List.getElem?_take_of_lt (by omega)] at h1
    rw [← h1]
    exact (Array.getElem?_toList).symm
theorem of_rf {w : World} {base g n co : Nat} {F : Nat → Int} (h : Rf w g co n F) (hb : base ≤ g) (hn : n ≤ co) (hm : co ≤ maxLen) : w.ownsRow base 3 1 (.slice (some ⟨g, 0, none⟩) n co) n (iv (fl F n)) := by
  obtain ⟨cur, hg, hs, hc⟩ := h.ex
  refine ⟨by simp [iv, fl], .inr ⟨g, co, cur, rfl, hb, hg, hn, hm, by omega, ?_⟩⟩
  apply List.ext_getElem?
  intro i
  by_cases hi : i < n
  · rw [List.getElem?_take_of_lt (by omega), Array.getElem?_toList, hc i hi, iv, List.getElem?_map, fl_get F n i hi]; rfl
  · rw [List.getElem?_eq_none (by simp; omega), List.getElem?_eq_none (by simp [iv, fl]; omega)]
theorem Rf.cell {w : World} {g co n : Nat} {F : Nat → Int} (h : Rf w g co n F) {i : Nat} (hi : i < n) : w.cell? ⟨g, i, none⟩ = some (.int .i64 (F i)) ∧ w.frozen? ⟨g, i, none⟩ = false := by
  obtain ⟨cur, hg, hs, hc⟩ := h.ex
  refine ⟨?_, ?_⟩
  · simp [World.cell?, hg, hc i hi]
  · simp [World.frozen?, hg]
theorem Rf.set {w : World} {g co n : Nat} {F : Nat → Int} (h : Rf w g co n F) {k : Nat} (hk : k < n) (v : Int) : Rf (w.setCell ⟨g, k, none⟩ (.int .i64 v)) g co n (updI F k v) := by
  obtain ⟨cur, hg, hs, hc⟩ := h.ex
  refine ⟨cur.setIfInBounds k (.int .i64 v), ?_, by simpa using hs, fun i hi => ?_⟩
  · show (w.heap.modify g _)[g]? = _
    rw [Array.getElem?_modify]; simp [hg]
  · have := hc i hi
    rw [Array.getElem?_setIfInBounds]
    by_cases e : k = i
    · subst e
      have hl := (Array.getElem?_eq_some_iff.1 this).1
      simp [updI, hl]
    · have e' : ¬ i = k := fun h => e h.symm
      simp [updI, e, e', this]
theorem Rf.ne {w : World} {g g' co n : Nat} {F : Nat → Int} (h : Rf w g co n F) (hne : g' ≠ g) (k : Nat) (v : Value) : Rf (w.setCell ⟨g', k, none⟩ v) g co n F := by
  obtain ⟨cur, hg, hs, hc⟩ := h.ex
  refine ⟨cur, ?_, hs, hc⟩
  show (w.heap.modify g' _)[g]? = _
  rw [Array.getElem?_modify]; simp [hne, hg]
theorem Rf.lt {w : World} {g co n : Nat} {F : Nat → Int} (h : Rf w g co n F) : g < w.heap.size := by
  obtain ⟨cur, hg, hs, hc⟩ := h.ex
  exact (Array.getElem?_eq_some_iff.1 hg).1
theorem Rf.dn {w : World} {g co n : Nat} {F : Nat → Int} (h : Rf w g co n F) (m : Nat) : Rf (w.drewN m) g co n F := ⟨h.ex⟩
theorem below_dn {B : Nat} {a w : World} (h : Below B a w) (m : Nat) : Below B a (w.drewN m) := by
  induction m with
  | zero => exact h
  | succ m ih => exact ih.drew
theorem below_set {B : Nat} {a w : World} (h : Below B a w) {g k : Nat} (hg : B ≤ g) (v : Value) : Below B a (w.setCell ⟨g, k, none⟩ v) := h.setCell (p := ⟨g, k, none⟩) hg v
theorem own_form {w : World} {base n : Nat} {v : Value} {xs : List Value} (h : w.ownsRow base 3 1 v n xs) (hn : 0 < n) : ∃ g co, v = .slice (some ⟨g, 0, none⟩) n co := by
  rcases h.2 with ⟨rfl, h2⟩ | ⟨g', c', cur, e, _⟩
  · have := h.1; rw [h2] at this; simp at this; omega
  · exact ⟨g', c', e⟩
theorem below_app {base n : Nat} {w wr w1 : World} {v : Value} {xs : List Value} {o : Obj} (hb : Below base w wr) (hs : base ≤ wr.heap.size) (ho : wr.ownsRow base 3 1 v n xs) (hg : (wr.alloc o).grownBy w1 v.ownBlock) : Below base w w1 :=
  (hb.alloc hs o).grown hg (by simp; omega) (fun k hk => (ho.lt k hk).1)
theorem xS_pos {u : Int} {z : List Int} (h : ∀ i, 0 ≤ xF u z i) : ∀ j, 0 ≤ xS u z j
  | 0 => by simp [xS]
  | j + 1 => by have := xS_pos h j; have := h j; rw [xS]; omega
theorem xS_up {u : Int} {z : List Int} (h : ∀ i, 0 ≤ xF u z i) (j : Nat) : ∀ d, xS u z j ≤ xS u z (j + d)
  | 0 => Int.le_refl _
  | d + 1 => by have := xS_up h j d; have := h (j + d); rw [← Nat.add_assoc, xS]; omega
theorem xS_left {u : Int} {z : List Int} {N : Nat} (h : ∀ i, 0 ≤ xF u z i) (hN : 0 ≤ u - xS u z N) (j : Nat) (hj : j ≤ N) : 0 ≤ u - xS u z j := by
  have := xS_up h j (N - j)
  rw [show j + (N - j) = N by omega] at this
  omega
set_option maxRecDepth 100000 in
set_option maxHeartbeats 3200000 in
theorem dshare_ok (u : Int) (z : List Int) (a : Addr) (w : World) (cap : Nat) (c : Nat → Nat) (hu : isA u = true) (hz : tgB z = true) (hc : ∀ i (h : i < z.length), w.cell? (a.add i) = some (.int .i64 z[i]))
    (hm : Mix id c 0 z.length) (hs : Srt (rF u z) c 0 z.length) (hcb : ∀ k, k < z.length → c k < z.length) :
    Calls Try.prog 13 #[.int .i64 u, .slice (some a) z.length cap] w fun e w' => ∃ g co, e = .returned (.tuple #[.slice (some ⟨g, 0, none⟩) z.length co, .int .i64 0]) ∧ w'.ownsRow w.heap.size 3 1 (.slice (some ⟨g, 0, none⟩) z.length co) z.length (iv (fl (more (xF u z) c (u - xS u z z.length).toNat) z.length)) ∧ Below w.heap.size w w' := by
  obtain ⟨i0, hi, hz0, hz1, hz2⟩ := info_parts info3'
  have hw : wOK z = true ∧ 0 < sm z := by simpa [tgB] using hz
  have hw2 : z.length ≤ 100 ∧ z.all isW = true := by simpa [wOK] using hw.1
  have ha := (isA_iff u).1 hu
  have hlb := left_bounds u z hw.2
  have hne : z ≠ [] := fun e => by rw [e] at hw; simp [sm] at hw
  have pa := fun w => Ms.amount_any u w
  rw [hu] at pa
  have HC : Hid (∀ i (h : i < z.length), w.cell? (a.add i) = some (.int .i64 z[i])) := hc
  have HNX : Hid (∀ j, j < z.length → FM (rj (rF u z) c j) (c j) z.length) := fun j hj => next hm hs hcb (fun i _ => Int.emod_nonneg _ (by omega)) hj
  have HCB : Hid (∀ k, k < z.length → c k < z.length) := hcb
  obtain ⟨W, hW⟩ : ∃ W, W = sm z := ⟨_, rfl⟩
  obtain ⟨N, hN⟩ : ∃ N, N = z.length := ⟨_, rfl⟩
  rw [← hN] at HNX HCB ⊢
  obtain ⟨K, hK⟩ : ∃ K : Nat, u - xS u z N = (K : Int) := ⟨(u - xS u z N).toNat, by have := hlb.1; rw [← hN] at this; omega⟩
  rw [show (u - xS u z N).toNat = K by omega]
  have HH : Hid (W = sm z ∧ N = z.length ∧ z.all isW = true ∧ u - xS u z N = (K : Int)) := ⟨hW, hN, hw2.2, hK⟩
  have hKN : (K : Int) < (N : Int) := by have := hlb.2 hne; rw [← hN, hK] at this; omega
  have W0 : 0 < W := by omega
  have W1 : W ≤ 100000000 := by have := (sm_w z hw2.2).2; omega
  have u0 := ha.1
  have u1 := ha.2
  have n1 : (N : Int) ≤ 100 := by omega
  have n0 : (1 : Int) ≤ (N : Int) := by
    have : 0 < z.length := List.length_pos_iff.2 hne
    omega
  clear hu hz hc hw hw2 ha hlb hne hW hN hm hs hcb hK
  go_enter Try.func13, Try.ntmps13
  go_wp2_with fail
  refine (pa _).mono ?_
  rintro e y ⟨rfl, hy⟩
  rw [hy]
  clear hy y pa
  have g1 : ¬ (N : Int) < 1 := by omega
  have g2 : ¬ (100 : Int) < (N : Int) := by omega
  have g3 : decide ((N : Int) < 1) = false := decide_eq_false g1
  have g4 : decide ((100 : Int) < (N : Int)) = false := decide_eq_false g2
  go_wp2_with fail
  go_loopw [7, 8] (fun tt ii wr => ∃ (j : Nat) (S : Int), j ≤ N ∧ ii = .int .i64 (j : Int) ∧ tt = .int .i64 S ∧ 0 ≤ S ∧ S ≤ 100000000 ∧ Hid (S = sm (z.take j)) ∧ wr = w) (fun _ ii _ => N + 1 - (intOf ii).toNat)
  case atStart => exact ⟨0, 0, by omega, rfl, rfl, by decide, by decide, by show _ = _; simp [sm], rfl⟩
  case round =>
    obtain ⟨j, S, hj, rfl, rfl, S0, S1, HS, rfl⟩ := hrel
    obtain ⟨d1, d2, d3, d4⟩ := HH.out
    by_cases hlt : j < N
    · have q : (j : Int) < (N : Int) := by omega
      have hjl : j < z.length := by omega
      obtain ⟨x, hx⟩ : ∃ x, x = z[j] := ⟨_, rfl⟩
      have cz : wr.cell? (a.add j) = some (.int .i64 x) := by rw [HC.out j hjl, hx]
      have hb := (isW_iff x).1 (by rw [hx]; exact List.all_eq_true.1 d3 _ (List.getElem_mem hjl))
      have x0 : ¬ x < 0 := by omega
      have x1 : ¬ 1000000 < x := by omega
      have x2 := hb.1
      have x3 := hb.2
      have HS2 : Hid (S + x = sm (z.take (j + 1))) := by show _ = _; rw [sm_snoc z j hjl, HS.out, hx]
      have hS2 : S + x ≤ 100000000 := by
        have h2 : (z.take (j + 1)).all isW = true := List.all_eq_true.2 fun y hy => List.all_eq_true.1 d3 y (List.mem_of_mem_take hy)
        have := (sm_w (z.take (j + 1)) h2).2
        rw [← HS2.out, List.length_take] at this
        omega
      clear hb hx HS d1 d2 d3 d4
      go_wp2_with fail
      exact ⟨⟨j + 1, S + x, by omega, by go_num, by go_num, by omega, hS2, HS2, by first | rfl | trivial⟩, by simp only [intOf]; omega⟩
    · obtain rfl : N = j := by omega
      obtain rfl : W = S := by rw [HS.out, d1, List.take_of_length_le (by omega)]
      have hW0 : ¬ W = 0 := by omega
      have hW0' : (W == 0) = false := by simpa using hW0
      clear HS d1 d2 d3 d4 hlt hj
      go_wp2_with fail
      rename World => w
      have HXM : Hid (∀ j, j ≤ N → 0 ≤ u - xS u z j) := fun j hj => xS_left (fun i => xF_bounds u z u0 (by have := HH.out.1; omega) HH.out.2.2.1 i) (by have := HH.out.2.2.2; omega) j hj
      go_loopw [9, 10, 11, 12] (fun vo vr vl vi wr => ∃ (j : Nat) (Lv : Int), j ≤ N ∧ vi = .int .i64 (j : Int) ∧ vl = .int .i64 Lv ∧ Hid (Lv = u - xS u z j) ∧ wr.ownsRow w.heap.size 3 1 vo j (iv (fl (xF u z) j)) ∧ wr.ownsRow w.heap.size 3 1 vr j (iv (fl (rF u z) j)) ∧ Apart vo vr ∧ Below w.heap.size w wr) (fun _ _ _ vi _ => N + 1 - (intOf vi).toNat)
      case atStart => exact ⟨0, u, by omega, rfl, rfl, by show _ = _; simp [xS], own_nil _ _ _, own_nil _ _ _, fun g h => by simp [Value.ownBlock] at h, Below.refl _ _⟩
      case round =>
        obtain ⟨j, Lv, hj, rfl, rfl, HLv, o9, o10, hap, hbw⟩ := hrel
        rename World => wr
        have hbs : w.heap.size ≤ wr.heap.size := hbw.size
        by_cases hlt : j < N
        · have q : (j : Int) < (N : Int) := by omega
          obtain ⟨d1, d2, d3, d4⟩ := HH.out
          have hjl : j < z.length := by omega
          obtain ⟨v, hv⟩ : ∃ v, v = z[j] := ⟨_, rfl⟩
          have cz0 : w.cell? (a.add j) = some (.int .i64 v) := by rw [HC.out j hjl, hv]
          have HCZ : Hid (∀ x, Below w.heap.size w x → x.cell? (a.add j) = some (.int .i64 v)) := fun x hx => (hx.cell (World.block_lt_of_cell? w _ cz0)).trans cz0
          have cz := HCZ.out wr hbw
          have hvb := (isW_iff v).1 (by rw [hv]; exact List.all_eq_true.1 d3 _ (List.getElem_mem hjl))
          obtain ⟨UV, hUV⟩ : ∃ UV, u * v = UV := ⟨_, rfl⟩
          have UV0 : 0 ≤ UV := by rw [← hUV]; exact Int.mul_nonneg u0 hvb.1
          have UV1 : UV ≤ 1000000000000000000 := by
            rw [← hUV]
            have e1 := Int.mul_le_mul_of_nonneg_left hvb.2 u0
            have e2 : u * 1000000 ≤ 999999999999 * 1000000 := by omega
            omega
          obtain ⟨Q, hQ⟩ : ∃ Q, UV.tdiv W = Q := ⟨_, rfl⟩
          obtain ⟨R, hR⟩ : ∃ R, UV.tmod W = R := ⟨_, rfl⟩
          have hQx : xF u z j = Q := by rw [xF, zf_get z j hjl, ← hv, hUV, ← d1, ← hQ, Int.tdiv_eq_ediv_of_nonneg UV0]
          have hRx : rF u z j = R := by rw [rF, zf_get z j hjl, ← hv, hUV, ← d1, ← hR, Int.tmod_eq_emod_of_nonneg UV0]
          have Q0 : 0 ≤ Q := by rw [← hQ]; exact Int.tdiv_nonneg UV0 (by omega)
          have Q1 : Q ≤ 1000000000000000000 := by have := Int.tdiv_le_self W UV0; omega
          have R0 : 0 ≤ R := by rw [← hR]; exact Int.tmod_nonneg _ UV0
          have R1 : R < W := by rw [← hR]; exact Int.tmod_lt_of_pos _ W0
          have L0 : 0 ≤ Lv := by rw [HLv.out]; exact HXM.out j hj
          have L1 : Lv ≤ 999999999999 := by
            have := xS_pos (u := u) (z := z) (fun i => xF_bounds u z u0 (by omega) d3 i) j
            rw [HLv.out]; omega
          have HL2 : Hid (Lv - Q = u - xS u z (j + 1)) := by show _ = _; rw [xS, hQx, HLv.out]; omega
          have HFX : Hid (iv (fl (xF u z) (j + 1)) = iv (fl (xF u z) j) ++ [.int .i64 Q]) := by show _ = _; rw [fl_succ, iv_append, hQx]; rfl
          have HFR : Hid (iv (fl (rF u z) (j + 1)) = iv (fl (rF u z) j) ++ [.int .i64 R]) := by show _ = _; rw [fl_succ, iv_append, hRx]; rfl
          clear d1 d2 d3 d4 hv hvb hQx hRx hjl cz0
          go_wp2_with (first
            | (at_builtin; refine wpList_append_lies _ rfl _ _ _ rfl w.heap.size 3 i0 _ 1 8 Try.underlying32 hi hz0 hz1 hz2 rfl (by omega) _ j _ rfl (o9.alloc _) ⟨wr.heap.size, 0, none⟩ 1 1 _ rfl (by rfl) (World.news_of_block (heap_alloc_new wr _)) (by simp [Value.oneCell']) (by omega) (by unfold maxLen; omega) (by omega) (by simp; omega) (wr.heap.size + 1) (by simp) ?_; intro g9 c9 w1 hown1 hgrow1 hat1 hlt1; have o10' := (o10.alloc (.cells #[.int .i64 Q] 3)).kept hgrow1 (apart_ne hap); have hap1 := apart_new (c := c9) (k := j + 1) hap o10 hat1 (by omega); have hb1 := below_app hbw hbs o9 hgrow1; have cz1 := HCZ.out w1 hb1; have hs1 := hb1.size; clear hgrow1 hat1 o9 o10 hap cz)
            | (at_builtin; refine wpList_append_lies _ rfl _ _ _ rfl w.heap.size 3 i0 _ 1 8 Try.underlying32 hi hz0 hz1 hz2 rfl (by omega) _ j _ rfl (o10'.alloc _) ⟨w1.heap.size, 0, none⟩ 1 1 _ rfl (by rfl) (World.news_of_block (heap_alloc_new w1 _)) (by simp [Value.oneCell']) (by omega) (by unfold maxLen; omega) (by omega) (by simp; omega) (w1.heap.size + 1) (by simp) ?_; intro g10 c10 w2 hown2 hgrow2 hat2 hlt2))
          have p9 := (hown1.alloc (.cells #[.int .i64 R] 3)).kept hgrow2 (apart_ne (apart_symm hap1))
          have p10 := hown2
          rw [← HFX.out] at p9
          rw [← HFR.out] at p10
          exact ⟨⟨j + 1, Lv - Q, by omega, by go_num, by go_num, HL2, p9, p10, apart_symm (apart_new (apart_symm hap1) hown1 hat2 (by omega)), below_app hb1 hs1 o10' hgrow2⟩, by simp only [intOf]; omega⟩
        · obtain rfl : N = j := by omega
          obtain ⟨go, co, rfl⟩ := own_form o9 (by omega)
          obtain ⟨gr, cr, rfl⟩ := own_form o10 (by omega)
          obtain ⟨r9, b9, l9, m9⟩ := rf_of o9
          obtain ⟨r10, b10, l10, m10⟩ := rf_of o10
          have hgg : go ≠ gr := fun e => hap go rfl (by rw [e]; rfl)
          have HG : Hid (go ≠ gr ∧ w.heap.size ≤ go ∧ w.heap.size ≤ gr ∧ N ≤ co ∧ co ≤ maxLen ∧ N ≤ cr) := ⟨hgg, b9, b10, l9, m9, l10⟩
          have HR9 : Hid (Rf wr go co N (xF u z)) := r9
          have HR10 : Hid (Rf wr gr cr N (rF u z)) := r10
          have HB : Hid (Below w.heap.size w wr) := hbw
          obtain rfl : Lv = (K : Int) := by rw [HLv.out]; exact HH.out.2.2.2
          have nq : ¬ (N : Int) < (N : Int) := by omega
          clear o9 o10 r9 r10 b9 b10 l9 l10 m9 m10 hap hgg hbw HLv hlt hbs hj
          have k1 : (co : Int) ≤ 9223372036854775807 := by have := HG.out.2.2.2.2.1; unfold maxLen at this; omega
          go_wp2_with fail
          clear nq
          rename World => wq
          have HXT : Hid (∀ j i, j ≤ N → -1 ≤ more (xF u z) c j i ∧ more (xF u z) c j i ≤ 1000000000000000100) := fun j i hj => by
            have h1 := Sj.more_bounds (xF u z) c j i
            have h2 := xF_bounds u z u0 (by have := HH.out.1; omega) HH.out.2.2.1 i
            have h3 := Sj.xF_top u z u0 u1 (by have := HH.out.1; omega) HH.out.2.2.1 i
            omega
          go_loopw [11] (fun vl wr => ∃ (j J : Nat), j + J = K ∧ vl = .int .i64 (J : Int) ∧ Hid (Rf wr go co N (more (xF u z) c j)) ∧ Hid (Rf wr gr cr N (rj (rF u z) c j)) ∧ Hid (Below w.heap.size w wr)) (fun vl _ => (intOf vl).toNat)
          case atStart => exact ⟨0, K, by omega, rfl, HR9, HR10, HB⟩
          case round =>
            clear HR9 HR10 HB
            obtain ⟨j, J, hjJ, rfl, HR9, HR10, HB⟩ := hrel
            rename World => wr
            by_cases hJ : 0 < J
            · have hJ' : (0 : Int) < (J : Int) := by omega
              have hJ2 : (J : Int) ≤ 100 := by omega
              have hjN : j < N := by omega
              go_wp2_with fail
              go_loopw [14, 15] (fun vk vi wx => ∃ (k i : Nat), 1 ≤ i ∧ i ≤ N ∧ k < N ∧ vk = .int .i64 (k : Int) ∧ vi = .int .i64 (i : Int) ∧ Hid (FM (rj (rF u z) c j) k i) ∧ Hid (Rf wx go co N (more (xF u z) c j)) ∧ Hid (Rf wx gr cr N (rj (rF u z) c j)) ∧ Hid (Below w.heap.size w wx)) (fun _ vi _ => N + 1 - (intOf vi).toNat)
              case atStart => exact ⟨0, 1, by omega, by omega, by omega, rfl, rfl, FM.one _, HR9, HR10, HB⟩
              case round =>
                clear HR9 HR10 HB
                obtain ⟨k, i, hi1, hi2, hk, rfl, rfl, HF, HR9, HR10, HB⟩ := hrel
                rename World => wx
                by_cases hlt : i < N
                · have q1 : (i : Int) < (N : Int) := by omega
                  have q2 : (k : Int) < (N : Int) := by omega
                  have q3 : (i : Int) + 1 ≤ 101 := by omega
                  obtain ⟨ci, -⟩ := HR10.out.cell hlt
                  obtain ⟨ck, -⟩ := HR10.out.cell hk
                  by_cases hgt : rj (rF u z) c j k < rj (rF u z) c j i
                  · have HF2 : Hid (FM (rj (rF u z) c j) i (i + 1)) := HF.out.turn hgt
                    generalize rj (rF u z) c j i = fi at *
                    generalize rj (rF u z) c j k = fk at *
                    go_wp2_with fail
                    go_quiet (fail)
                    go_wp2_with fail
                    exact ⟨⟨i, i + 1, by omega, by omega, by omega, by go_num, by go_num, HF2, HR9.out.dn _, HR10.out.dn _, below_dn HB.out _⟩, by simp only [intOf]; omega⟩
                  · have HF2 : Hid (FM (rj (rF u z) c j) k (i + 1)) := HF.out.keep hgt
                    have hgt2 : decide (rj (rF u z) c j k < rj (rF u z) c j i) = false := decide_eq_false hgt
                    generalize rj (rF u z) c j i = fi at *
                    generalize rj (rF u z) c j k = fk at *
                    go_wp2_with fail
                    go_quiet (fail)
                    go_wp2_with fail
                    exact ⟨⟨k, i + 1, by omega, by omega, by omega, by go_num, by go_num, HF2, HR9.out.dn _, HR10.out.dn _, below_dn HB.out _⟩, by simp only [intOf]; omega⟩
                · obtain rfl : N = i := by omega
                  have HKC : Hid (k = c j) := HF.out.uniq (HNX.out j hjN)
                  obtain ⟨co1, fo1⟩ := HR9.out.cell hk
                  obtain ⟨cr1, fr1⟩ := HR10.out.cell hk
                  obtain ⟨g1', g2', g3', g4', g5', g6'⟩ := HG.out
                  have P9 := (HR9.out.set hk (more (xF u z) c j k + 1)).ne (fun e => g1' e.symm) k (.int .i64 (-1))
                  have P10 := (HR10.out.ne g1' k (.int .i64 (more (xF u z) c j k + 1))).set hk (-1)
                  have PB := below_set (k := k) (below_set (k := k) HB.out g2' (.int .i64 (more (xF u z) c j k + 1))) g3' (.int .i64 (-1))
                  have cr2 : (wx.setCell ⟨go, k, none⟩ (.int .i64 (more (xF u z) c j k + 1))).cell? ⟨gr, k, none⟩ = some (.int .i64 (rj (rF u z) c j k)) := ((HR10.out.ne g1' k _).cell hk).1
                  have fr2 : (wx.setCell ⟨go, k, none⟩ (.int .i64 (more (xF u z) c j k + 1))).frozen? ⟨gr, k, none⟩ = false := ((HR10.out.ne g1' k _).cell hk).2
                  have e9 : updI (more (xF u z) c j) k (more (xF u z) c j k + 1) = more (xF u z) c (j + 1) := by rw [HKC.out]; rfl
                  have e10 : updI (rj (rF u z) c j) k (-1) = rj (rF u z) c (j + 1) := by rw [HKC.out]; rfl
                  rw [e9] at P9
                  rw [e10] at P10
                  have HP9 : Hid _ := P9
                  have HP10 : Hid _ := P10
                  have HPB : Hid _ := PB
                  obtain ⟨t1, t2⟩ := HXT.out j k (by omega)
                  clear P9 P10 PB e9 e10 HF HR9 HR10 HB g1' g2' g3' g4' g5' g6' hlt hi1 hi2
                  have nq : ¬ (N : Int) < (N : Int) := by omega
                  have q2 : (k : Int) < (N : Int) := by omega
                  have hJ1 : ((J : Int) - 1) = ((J - 1 : Nat) : Int) := by omega
                  generalize more (xF u z) c j k = V at *
                  generalize rj (rF u z) c j k = Rv at *
                  go_wp2_with fail
                  exact ⟨⟨j + 1, J - 1, by omega, by first | go_num | (congr 1; omega), HP9, HP10, HPB⟩, by simp only [intOf]; omega⟩
            · obtain rfl : J = 0 := by omega
              obtain rfl : K = j := by omega
              obtain ⟨g1', g2', g3', g4', g5', g6'⟩ := HG.out
              have HO := of_rf HR9.out g2' g4' g5'
              have HO' : Hid _ := HO
              clear HO
              go_wp2_with fail
              go_ret2
              exact ⟨go, co, rfl, HO'.out, HB.out⟩
end Go.Proofs.Ytaacocliclibgaa.Ds
