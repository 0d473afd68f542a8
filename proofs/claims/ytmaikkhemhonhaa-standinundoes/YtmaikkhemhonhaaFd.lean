/- StandinUndoes: the walk. -/
import Derived.Test.YtmaikkhemhonhaaFc
import Derived.Test.YtmaikkhemhonhaaOl
import Derived.Test.YtmaikkhemhonhaaQt
import Derived.Test.YtmaikkhemhonhaaQu
import Derived.BigQuiet
namespace Go.Proofs.Ytmaikkhemhonhaa.Fd
set_option linter.unusedVariables false
set_option linter.unusedSimpArgs false
open Go.RowKit Go.Maps Lib0 Kb Xp Da Db Dc Dd De Df Dh Di Dj Dk Dl Dm Dn Dp Dq Dr Ds Dt Du Dv Dw Dy Dz Ea Eb Ec Ed Ee Ef Eg Eh Ei Ej Ek Fa Fb Fc
attribute [local go_sem] Oper.semAt_some
theorem lmO_right (l : Lm) : isR (lmO l) = true := by
  have a1 := Pick.pick_lo l.single 300 (by omega)
  have a2 := Pick.pick_hi l.single 300 (by omega)
  have b1 := Pick.pick_lo l.count 8 (by omega)
  have b2 := Pick.pick_hi l.count 8 (by omega)
  have c1 := Pick.pick_lo l.sum 900 (by omega)
  have c2 := Pick.pick_hi l.sum 900 (by omega)
  have d1 := Pick.pick_lo l.window 40 (by omega)
  have d2 := Pick.pick_hi l.window 40 (by omega)
  unfold isR isA lmO
  simp only [Bool.and_eq_true, decide_eq_true_eq]
  exact ⟨⟨⟨⟨a1, by omega⟩, ⟨b1, by omega⟩⟩, ⟨c1, by omega⟩⟩, ⟨by omega, by omega⟩⟩
theorem infoL : (Try.prog.info? 36).map (·.size) = some 4 := by kernel_rfl
abbrev tI7 : TypeId := 56
/-- while the approvals are given -/
structure US (w w1 : World) (b lb : Nat) (l : Lm) (S : St) (m : Nat) (y : World) : Prop where
  kn : KN w1 b lb l S m y
  crd : ∀ g ∈ S.G, ∃ k, k < 7 ∧ g.1 = crd ((k : Nat) : Int)
  un : ∀ g ∈ S.G, g.2.2.1 < 320
  gv : S.gv = (S.G.length : Int)
  most : S.most = 10
  bel : Below w.heap.size w y
  le : w.heap.size ≤ w1.heap.size
section
variable {w w1 y z : World} {b lb : Nat} {l : Lm} {S : St} {m : Nat}
theorem US.below (h : US w w1 b lb l S m y) (k : Below y.heap.size y z) : US w w1 b lb l S m z := ⟨h.kn.below k, h.crd, h.un, h.gv, h.most, keepB h.bel k, h.le⟩
theorem US.few (h : US w w1 b lb l S m y) : m ≤ 7 := bk_few h.kn.bk h.crd
/-- Ask, whatever it answers -/
theorem US.ask (h : US w w1 b lb l S m y) (hl : isR l = true) (c : ByteArray) (hc : c.size ≤ 1000000) (hce : c.toList.isEmpty = false) (hcc : ∃ k, k < 7 ∧ c = Ei.crd ((k : Nat) : Int)) (u now : Int) (hu : 0 ≤ u ∧ u < 320) (hn : S.now ≤ now) (hn1 : now ≤ 9223372036854775807) (hlen : S.G.length < 200) : Calls Try.prog 15 #[.pointer (some ⟨b, 0, none⟩), lmv l, .string c, .int .i64 u, .int .i64 now] y fun e z => (∃ r, e = .returned (.int .i64 r)) ∧ ∃ S' m', US w w1 b lb l S' m' z ∧ S'.G.length ≤ S.G.length + 1 ∧ S'.now ≤ now := by
  have h7 := h.few
  have hgv := h.gv
  have hua : isA u = true := by simp [isA]; omega
  cases hb : bey S.G l c u now with
  | true =>
    refine (ask_no h.kn.bk l hl c hc hce u now hua hn1 210 (.inr ⟨hn, hb, rfl⟩)).mono ?_
    rintro e z ⟨rfl, hz⟩
    exact ⟨⟨_, rfl⟩, S, m, h.below hz, by omega, hn⟩
  | false =>
    refine (ask_any h.kn.bk l hl c hc hce u now hua hn hn1 hb (by omega) (by omega)).mono ?_
    rintro e z ⟨rfl, hz⟩
    have hle : (mOf S c m : Int) ≤ S.most := by rw [h.most]; unfold mOf; split <;> omega
    rcases hz with ⟨-, hz⟩ | ⟨hlt, -⟩
    · have hG : (giveS (nowS S now) c u).G = S.G ++ [(c, (S.gv + 1, u, now))] := rfl
      refine ⟨⟨_, rfl⟩, _, _, ⟨h.kn.pb hz, fun g hg => ?_, fun g hg => ?_, ?_, h.most, h.bel.trans (hz.2.2.mono h.le), h.le⟩, by rw [hG, List.length_append]; simp, Int.le_refl _⟩
      · rw [hG] at hg
        rcases List.mem_append.1 hg with k | k
        · exact h.crd g k
        · rw [List.mem_singleton.1 k]; exact hcc
      · rw [hG] at hg
        rcases List.mem_append.1 hg with k | k
        · exact h.un g k
        · rw [List.mem_singleton.1 k]; exact hu.2
      · rw [hG, List.length_append, List.length_singleton]; show S.gv + 1 = _; omega
    · omega
def lW : Lm := ⟨999999999999, 999999999999, 999999999999, 1⟩
/-- Ask with the wide limits -/
theorem US.wide (h : US w w1 b lb l S m y) (c : ByteArray) (hc : c.size ≤ 1000000) (hce : c.toList.isEmpty = false) (now : Int) (hn : S.now ≤ now) (hn1 : now ≤ 9223372036854775807) (hlen : S.G.length < 200) : Calls Try.prog 15 #[.pointer (some ⟨b, 0, none⟩), lmv lW, .string c, .int .i64 123456789, .int .i64 now] y fun e z => e = .returned (.int .i64 0) ∧ PB y w1.heap.size b (giveS (nowS S now) c 123456789) (mOf S c m) z := by
  have h7 := h.few
  have hgv := h.gv
  have hc1 := cnt_le S.G c (now - lW.window + 1)
  have hc2 := smm_le S.G c (now - lW.window + 1) 320 (by omega) (fun g hg => ⟨(h.kn.bk.iv.am g hg).1, by have := h.un g hg; omega⟩)
  have hb : bey S.G lW c 123456789 now = false := by
    unfold bey
    rw [Bool.or_eq_false_iff, Bool.or_eq_false_iff]
    refine ⟨⟨decide_eq_false (by show ¬ (999999999999 : Int) < 123456789; omega), decide_eq_false ?_⟩, decide_eq_false ?_⟩
    · show ¬ (999999999999 : Int) ≤ _; omega
    · show ¬ (999999999999 : Int) < _; omega
  refine (ask_any h.kn.bk lW (by decide) c hc hce 123456789 now (by decide) hn hn1 hb (by omega) (by omega)).mono ?_
  rintro e z ⟨rfl, hz⟩
  have hle : (mOf S c m : Int) ≤ S.most := by rw [h.most]; unfold mOf; split <;> omega
  rcases hz with ⟨-, hz⟩ | ⟨hlt, -⟩
  · exact ⟨rfl, hz⟩
  · omega
/-- the sums as they are told of a card -/
theorem US.used (h : US w w1 b lb l S m y) (hl : isR l = true) (c : ByteArray) (hc : c.size ≤ 1000000) (now : Int) (hn : 0 ≤ now ∧ now ≤ 9223372036854775807) : Calls Try.prog 14 #[.pointer (some ⟨b, 0, none⟩), lmv l, .string c, .int .i64 now] y fun e z => e = .returned (.tuple #[.int .i64 (cnt S.G c (now - l.window + 1)), .int .i64 (smm S.G c (now - l.window + 1))]) ∧ Below y.heap.size y z := used_ok h.kn.bk l hl c hc now hn
end
theorem q_at {P : Program} {ops : Array Oper} {o : Oper} {a : Act} {x : World} {K : Act → Prop} (hw : Region.wanted o (yielded ops a.tmps) = true) (ty : TypeId) (xo : Operand) (ho : o.op = .load ty xo)
    (p : Addr) (hx : a.eval xo = .pointer (some p)) (v : Value) (hc : x.cell? p = some v) (hag : ∀ y, (isAgg ty).run P y = .ok false y)
    (h : K (a.put o.dst v)) : if Region.wanted o (yielded ops a.tmps) then o.quiet P a (Ql.Cl x) K else K (a.put o.dst undef) := by
  rw [if_pos hw]
  refine ⟨v, fun y hy => ?_, h⟩
  unfold Oper.quietAt execOp
  have hy' : y.cell? p = some v := (Below.cell hy (World.block_lt_of_cell? x _ hc)).trans hc
  simp [ho, hx, Instr.loadAt, Instr.sureAddr, loadVar, hag, hy', Oper.quietUpon]
/-- an array of seven, filled up to k -/
def av (f : Nat → Int) (k : Nat) : Array Value := #[.int .i64 (if 0 < k then f 0 else 0), .int .i64 (if 1 < k then f 1 else 0), .int .i64 (if 2 < k then f 2 else 0), .int .i64 (if 3 < k then f 3 else 0), .int .i64 (if 4 < k then f 4 else 0), .int .i64 (if 5 < k then f 5 else 0), .int .i64 (if 6 < k then f 6 else 0)]
theorem av_set (f : Nat → Int) (k : Nat) (hk : k < 7) : (av f k).setIfInBounds k (.int .i64 (f k)) = av f (k + 1) := by
  have : k = 0 ∨ k = 1 ∨ k = 2 ∨ k = 3 ∨ k = 4 ∨ k = 5 ∨ k = 6 := by omega
  rcases this with rfl | rfl | rfl | rfl | rfl | rfl | rfl <;> rfl
theorem av_at (f : Nat → Int) (k j : Nat) (hj : j < k) (hk : k ≤ 7) : (av f k)[j]? = some (.int .i64 (f j)) := by
  have : j = 0 ∨ j = 1 ∨ j = 2 ∨ j = 3 ∨ j = 4 ∨ j = 5 ∨ j = 6 := by omega
  rcases this with rfl | rfl | rfl | rfl | rfl | rfl | rfl <;> simp [av, hj]
theorem av_size (f : Nat → Int) (k : Nat) : (av f k).size = 7 := rfl
theorem av_zero (f : Nat → Int) : av f 0 = #[.int .i64 0, .int .i64 0, .int .i64 0, .int .i64 0, .int .i64 0, .int .i64 0, .int .i64 0] := rfl
theorem pick_small (k : Nat) (hk : k < 7) : Pick.pickOf (k : Int) 7 = (k : Int) := by
  have : k = 0 ∨ k = 1 ∨ k = 2 ∨ k = 3 ∨ k = 4 ∨ k = 5 ∨ k = 6 := by omega
  rcases this with rfl | rfl | rfl | rfl | rfl | rfl | rfl <;> rfl
theorem card_k (k : Nat) (hk : k < 7) (w : World) : Calls Try.prog 13 #[.int .i64 (k : Int), .int .i64 7] w fun e w' => e = .returned (.string (crd ((k : Nat) : Int))) ∧ Below w.heap.size w w' := by
  have := card_any (k : Int) ⟨by omega, by omega⟩ 7 (by omega) (by omega) w
  rw [pick_small k hk] at this
  exact this
/-- one cell of an array of seven is written -/
theorem arr_set {w : World} {g : Nat} {f : Nat → Int} {k : Nat} (hk : k < 7) (h : w.heap[g]? = some (.cells (av f k) tI7 (0, 0))) : (w.setCell ⟨g, k, none⟩ (.int .i64 (f k))).heap[g]? = some (.cells (av f (k + 1)) tI7 (0, 0)) := by
  rw [setCell_heap h, av_set f k hk]
theorem arr_cell {w : World} {g : Nat} {f : Nat → Int} {k j : Nat} (hj : j < 7) (h : w.heap[g]? = some (.cells (av f k) tI7 (0, 0))) : ∃ v, w.cell? ⟨g, j, none⟩ = some (.int .i64 v) ∧ w.frozen? ⟨g, j, none⟩ = false := by
  have e : (av f k)[j]? = some (.int .i64 (if j < k then f j else 0)) := by
    have : j = 0 ∨ j = 1 ∨ j = 2 ∨ j = 3 ∨ j = 4 ∨ j = 5 ∨ j = 6 := by omega
    rcases this with rfl | rfl | rfl | rfl | rfl | rfl | rfl <;> rfl
  exact ⟨if j < k then f j else 0, by simp [World.cell?, h, e], by simp [World.frozen?, h]⟩
theorem arr_at {w : World} {g : Nat} {f : Nat → Int} {j : Nat} (hj : j < 7) (h : w.heap[g]? = some (.cells (av f 7) tI7 (0, 0))) : w.cell? ⟨g, j, none⟩ = some (.int .i64 (f j)) := by
  have := av_at f 7 j hj (Nat.le_refl _)
  simp [World.cell?, h, this]
/-- the two arrays -/
structure Ar (y : World) (Y : Nat) (f g : Nat → Int) (k : Nat) (x : World) : Prop where
  a : x.heap[Y]? = some (.cells (av f k) tI7 (0, 0))
  b : x.heap[Y + 1]? = some (.cells (av g k) tI7 (0, 0))
  bel : Below y.heap.size y x
  le : y.heap.size ≤ Y
theorem Ar.below {y x z : World} {Y : Nat} {f g : Nat → Int} {k : Nat} (h : Ar y Y f g k x) (hz : Below x.heap.size x z) : Ar y Y f g k z := ⟨kept hz h.a, kept hz h.b, keepB h.bel hz, h.le⟩
theorem Ar.set {y x : World} {Y : Nat} {f g : Nat → Int} {k : Nat} (h : Ar y Y f g k x) (hk : k < 7) : Ar y Y f g (k + 1) ((x.setCell ⟨Y, k, none⟩ (.int .i64 (f k))).setCell ⟨Y + 1, k, none⟩ (.int .i64 (g k))) := by
  refine ⟨?_, ?_, (h.bel.setCell h.le _).setCell (Nat.le_succ_of_le h.le) _, h.le⟩
  · rw [setCell_ne (p := ⟨Y + 1, k, none⟩) (by show Y + 1 ≠ Y; omega)]
    exact arr_set hk h.a
  · refine arr_set hk ?_
    rw [setCell_ne (p := ⟨Y, k, none⟩) (by show Y ≠ Y + 1; omega)]
    exact h.b
theorem Ar.cells {y x : World} {Y : Nat} {f g : Nat → Int} {k : Nat} (h : Ar y Y f g k x) (j : Nat) (hj : j < 7) : ∃ u v, x.cell? ⟨Y, j, none⟩ = some (.int .i64 u) ∧ x.frozen? ⟨Y, j, none⟩ = false ∧ x.cell? ⟨Y + 1, j, none⟩ = some (.int .i64 v) ∧ x.frozen? ⟨Y + 1, j, none⟩ = false := by
  obtain ⟨u, h1, h2⟩ := arr_cell hj h.a
  obtain ⟨v, h3, h4⟩ := arr_cell hj h.b
  exact ⟨u, v, h1, h2, h3, h4⟩
/-- behind the arrays -/
structure UE (w w1 : World) (b lb : Nat) (l : Lm) (S : St) (m Y : Nat) (f g : Nat → Int) (y : World) : Prop where
  kn : KN w1 b lb l S m y
  a : y.heap[Y]? = some (.cells (av f 7) tI7 (0, 0))
  b : y.heap[Y + 1]? = some (.cells (av g 7) tI7 (0, 0))
  bel : Below w.heap.size w y
  le : w.heap.size ≤ w1.heap.size
section
variable {w w1 y z : World} {b lb : Nat} {l : Lm} {S S' : St} {m m' Y : Nat} {f g : Nat → Int}
theorem UE.below (h : UE w w1 b lb l S m Y f g y) (k : Below y.heap.size y z) : UE w w1 b lb l S m Y f g z := ⟨h.kn.below k, kept k h.a, kept k h.b, keepB h.bel k, h.le⟩
theorem UE.pb (h : UE w w1 b lb l S m Y f g y) (k : PB y w1.heap.size b S' m' z) : UE w w1 b lb l S' m' Y f g z := ⟨h.kn.pb k, k.2.1.block _ _ _ _ h.a (by decide), k.2.1.block _ _ _ _ h.b (by decide), h.bel.trans (k.2.2.mono h.le), h.le⟩
theorem UE.used (h : UE w w1 b lb l S m Y f g y) (hl : isR l = true) (c : ByteArray) (hc : c.size ≤ 1000000) (now : Int) (hn : 0 ≤ now ∧ now ≤ 9223372036854775807) : Calls Try.prog 14 #[.pointer (some ⟨b, 0, none⟩), lmv l, .string c, .int .i64 now] y fun e z => e = .returned (.tuple #[.int .i64 (cnt S.G c (now - l.window + 1)), .int .i64 (smm S.G c (now - l.window + 1))]) ∧ Below y.heap.size y z := used_ok h.kn.bk l hl c hc now hn
end
set_option maxRecDepth 100000 in
set_option maxHeartbeats 12800000 in
theorem walk (a0 b0 c0 d0 : Int) (v1 : Value) (z1 : List So.Opv) (a2 a3 : Int) (w : World) (w0 : Ol.LimOk a0 b0 c0 d0) (wz : So.Lies w v1 z1 140737488351232) (w2 : (Lit.int .i64 a2).wf = true) (w3 : (Lit.int .i64 a3).wf = true) :
    Calls Try.prog 5 #[.agg #[.int .i64 a0, .int .i64 b0, .int .i64 c0, .int .i64 d0], v1, .int .i64 a2, .int .i64 a3] w fun e w' => e = .returned (.bool true) ∧ Below w.heap.size w w' := by
  obtain ⟨⟨oz, cz, rfl, hz⟩, hzl⟩ := wz
  have HZ : Hid (∀ i (h : i < z1.length), ∃ a : Addr, oz = some a ∧ So.At w a i z1[i] ∧ z1[i].Fine 140737488351232) := hz
  obtain ⟨N, HN0⟩ : ∃ N, Hid (z1.length = N) := ⟨_, rfl⟩
  rw [HN0.out] at hzl
  rw [HN0.out]
  have hlo : LmOk ⟨a0, b0, c0, d0⟩ := ⟨Ol.wf_i64 w0.1, Ol.wf_i64 w0.2.1, Ol.wf_i64 w0.2.2.1, Ol.wf_i64 w0.2.2.2⟩
  have HLI : Hid (∀ y, Calls Try.prog 12 #[.agg #[.int .i64 a0, .int .i64 b0, .int .i64 c0, .int .i64 d0]] y fun e w' => e = .returned (lmv (lmO ⟨a0, b0, c0, d0⟩)) ∧ Below y.heap.size y w') := fun y => limits_any ⟨a0, b0, c0, d0⟩ hlo y
  have HLR := lmO_right ⟨a0, b0, c0, d0⟩
  obtain ⟨l, hl⟩ : ∃ l, lmO ⟨a0, b0, c0, d0⟩ = l := ⟨_, rfl⟩
  rw [hl] at HLI HLR
  have HLRR : Hid (isR l = true) := HLR
  have HKN : Hid (∀ y, Calls Try.prog 7 #[] y fun e w' => e = .returned (.bool true) ∧ Below y.heap.size y w') := fun y => known_any y
  have HNW : Hid (∀ y, Calls Try.prog 8 #[.int .i64 10] y fun e w' => ∃ b, e = .returned (.tuple #[.pointer (some ⟨b, 0, none⟩), .int .i64 0]) ∧ Bk w' y.heap.size b ⟨10, 0, 0, []⟩ 0 ∧ Below y.heap.size y w') := fun y => new_any 10 (by omega) y
  have HB0 : Hid (Below w.heap.size w (w.alloc (.cells #[.int .i64 a0, .int .i64 b0, .int .i64 c0, .int .i64 d0] tLi))) := below_one _ _
  have HX0 : Hid ((w.alloc (.cells #[.int .i64 a0, .int .i64 b0, .int .i64 c0, .int .i64 d0] tLi)).heap[w.heap.size]? = some (.cells #[.int .i64 a0, .int .i64 b0, .int .i64 c0, .int .i64 d0] tLi)) := h1_0 _ _
  have hi2 := Ol.wf_i64 w2
  have hi3 := Ol.wf_i64 w3
  have HI2 : Hid (-9223372036854775808 ≤ a2 ∧ a2 ≤ 9223372036854775807) := hi2
  have HI3 : Hid (-9223372036854775808 ≤ a3 ∧ a3 ≤ 9223372036854775807) := hi3
  clear hz hlo hl HLR w0 hzl w2 w3 hi2 hi3
  go_enter Try.func5, Try.ntmps5
  go_wp2_with fail
  refine (HKN.out _).mono ?_
  rintro e w1 ⟨rfl, hw1⟩
  have HW1 : Hid (Below w.heap.size w w1) := keepB HB0.out hw1
  have HX1 : Hid (w1.heap[w.heap.size]? = some (.cells #[.int .i64 a0, .int .i64 b0, .int .i64 c0, .int .i64 d0] tLi)) := kept hw1 HX0.out
  clear hw1
  go_wp2_with fail
  refine (HNW.out _).mono ?_
  rintro e w2 ⟨b, rfl, hbk, hw2⟩
  have HBK : Hid (Bk w2 w1.heap.size b ⟨10, 0, 0, []⟩ 0 ∧ Below w1.heap.size w1 w2) := ⟨hbk, hw2⟩
  obtain ⟨r0, r1, r2, r3⟩ := lim_cells (w := w) (kept hw2 HX1.out)
  clear hbk hw2
  go_wp2_with fail
  refine (HLI.out _).mono ?_
  rintro e w3 ⟨rfl, hw3⟩
  have HS0 : Hid (US w w1 b w3.heap.size l ⟨10, 0, 0, []⟩ 0 (w3.alloc (.cells #[.int .i64 l.single, .int .i64 l.count, .int .i64 l.sum, .int .i64 l.window] tLi))) :=
    ⟨⟨(HBK.out.1.below hw3).below (below_one _ _), h1_0 _ _, keepB (keepB HBK.out.2 hw3) (below_one _ _)⟩, fun g hg => (by cases hg), fun g hg => (by cases hg), rfl, rfl, keepB (keepB (keepB HW1.out HBK.out.2) hw3) (below_one _ _), HW1.out.size⟩
  unfold lmv
  clear hw3 r0 r1 r2 r3
  go_wp2_with fail
  obtain ⟨lb, hlb⟩ : ∃ lb, w3.heap.size = lb := ⟨_, rfl⟩
  rw [hlb] at HS0
  rw [hlb]
  clear hlb HKN HNW HLI HBK HX1 HX0 HB0
  go_loopw [13, 14] (fun nv iv wr => ∃ (i : Nat) (now : Int) (S : St) (m : Nat), iv = .int .i64 (i : Int) ∧ nv = .int .i64 now ∧ Hid (i ≤ 100 ∧ i ≤ N ∧ S.G.length ≤ i ∧ S.now ≤ now ∧ 0 ≤ now ∧ now ≤ 8 * (i : Int)) ∧ Hid (US w w1 b lb l S m wr)) (fun _ iv _ => 101 - (intOf iv).toNat)
  case atStart => exact ⟨0, 0, ⟨10, 0, 0, []⟩, 0, rfl, rfl, ⟨by omega, by omega, by simp, Int.le_refl _, Int.le_refl _, by omega⟩, HS0.out⟩
  case round =>
    obtain ⟨i, now, S, m, rfl, rfl, HI, HST⟩ := hrel
    by_cases hlt : i < N ∧ i < 100
    · have hiz : i < z1.length := by rw [HN0.out]; exact hlt.1
      obtain ⟨ad, rfl, hat, hfine⟩ := HZ.out i hiz
      obtain ⟨t0, t1, t2⟩ := So.at_below hat rfl HST.out.bel
      have hc1 := Ol.wf_i64 hfine.1
      have hc2 := Ol.wf_i64 hfine.2.1
      have hc3 := Ol.wf_i64 hfine.2.2
      obtain ⟨x, hx⟩ : ∃ x, z1[i] = x := ⟨_, rfl⟩
      rw [hx] at t0 t1 t2 hc1 hc2 hc3
      obtain ⟨xc, xu, xl⟩ := x
      dsimp only at t0 t1 t2 hc1 hc2 hc3
      rw [So.add_field _ _ _ (by decide)] at t1 t2
      have HCARD : ∀ y, Calls Try.prog 13 #[.int .i64 xc, .int .i64 7] y fun e w' => e = .returned (.string (crd (Pick.pickOf xc 7))) ∧ Below y.heap.size y w' := fun y => card_any xc hc1 7 (by omega) (by omega) y
      have HPU : ∀ y, Calls Try.prog 10 #[.int .i64 xu, .int .i64 320] y fun e w' => e = .returned (.int .i64 (Pick.pickOf xu 320)) ∧ w' = y := fun y => Pick.pick_any _ _ y hc2.1 hc2.2 (by omega) (by omega)
      have HPL : Hid (∀ y, Calls Try.prog 10 #[.int .i64 xl, .int .i64 9] y fun e w' => e = .returned (.int .i64 (Pick.pickOf xl 9)) ∧ w' = y) := fun y => Pick.pick_any _ _ y hc3.1 hc3.2 (by omega) (by omega)
      have u0 := Pick.pick_lo xu 320 (by omega)
      have u1 := Pick.pick_hi xu 320 (by omega)
      have l0 := Pick.pick_lo xl 9 (by omega)
      have l1 := Pick.pick_hi xl 9 (by omega)
      have k0 := Pick.pick_lo xc 7 (by omega)
      have k1 := Pick.pick_hi xc 7 (by omega)
      have HCC : Hid (∃ k, k < 7 ∧ crd (Pick.pickOf xc 7) = crd ((k : Nat) : Int)) := ⟨(Pick.pickOf xc 7).toNat, by omega, by rw [Int.toNat_of_nonneg k0]⟩
      have HCS : Hid ((crd (Pick.pickOf xc 7)).size ≤ 1000000 ∧ (crd (Pick.pickOf xc 7)).toList.isEmpty = false) := ⟨by rw [crd_size]; omega, crd_ne _⟩
      generalize crd (Pick.pickOf xc 7) = c at *
      generalize Pick.pickOf xu 320 = u at *
      generalize Pick.pickOf xl 9 = d at *
      have q0 : (i : Int) < (N : Int) := by omega
      have q1 : (i : Int) < 100 := by omega
      have q2 : (0 : Int) ≤ (i : Int) := by omega
      have hnb := HI.out.2.2.2.2
      have q3 : now + d ≤ 9223372036854775807 := by omega
      have q4 : -9223372036854775808 ≤ now + d := by omega
      have q5 : (i : Int) + 1 ≤ 9223372036854775807 := by omega
      have HUB : Hid (0 ≤ u ∧ u < 320 ∧ 0 ≤ d ∧ d < 9 ∧ i < N ∧ i < 100) := ⟨u0, u1, l0, l1, hlt.1, hlt.2⟩
      clear hat hfine hx hc1 hc2 hc3 hlt hiz k0 k1 u0 u1 l0 l1 hnb
      have HPU2 : Hid (∀ y, Calls Try.prog 10 #[.int .i64 xu, .int .i64 320] y fun e w' => e = .returned (.int .i64 u) ∧ w' = y) := HPU
      have HCARD2 : Hid (∀ y, Calls Try.prog 13 #[.int .i64 xc, .int .i64 7] y fun e w' => e = .returned (.string c) ∧ Below y.heap.size y w') := HCARD
      clear HPU HCARD
      go_wp2_with fail
      refine (HPL.out _).mono ?_
      rintro e y2 ⟨rfl, rfl⟩
      obtain ⟨nw, hnw⟩ : ∃ nw, now + d = nw := ⟨_, rfl⟩
      have HNW2 : Hid (now + d = nw) := hnw
      go_wp2_with fail
      clear hnw
      have HASK : Hid (∀ y, Below y2.heap.size y2 y → Calls Try.prog 15 #[.pointer (some ⟨b, 0, none⟩), .agg #[.int .i64 l.single, .int .i64 l.count, .int .i64 l.sum, .int .i64 l.window], .string c, .int .i64 u, .int .i64 nw] y fun e z => (∃ r, e = .returned (.int .i64 r)) ∧ ∃ S' m', US w w1 b lb l S' m' z ∧ S'.G.length ≤ S.G.length + 1 ∧ S'.now ≤ nw) := fun y hy => (HST.out.below hy).ask HLRR.out c HCS.out.1 HCS.out.2 HCC.out u nw ⟨HUB.out.1, HUB.out.2.1⟩ (by have := HI.out; have := HUB.out; have := HNW2.out; omega) (by have := HI.out; have := HUB.out; have := HNW2.out; omega) (by have := HI.out; omega)
      have hli := HST.out.kn.li
      clear t2 HPL
      refine Ql.region_lastL (C := Ql.Cl y2) (by kernel_rfl) rfl (by kernel_rfl) (by kernel_rfl) (by kernel_rfl) rfl ((Below.refl _ _).drew) ?_
      dsimp only [List.dropLast]
      repeat (first | go_big_quiet_skip | (go_big_quiet_want; go_big_quiet_op; first | go_big_quiet_on | (refine ⟨_, fun _ _ => rfl, ?_⟩; go_big_quiet_on) | (refine ⟨_, fun _ _ => ⟨rfl, rfl⟩, ?_⟩; go_big_quiet_on)) | (refine wpQuiet_step (fun K hK => ?_); first
        | (refine q_at (by rfl) 3 _ rfl _ rfl _ t0 (fun y => Try.isAgg3 y) (hK _ ?_); clear hK K; simp only [Act.put, List.setIfInBounds_toArray, List.set_cons_succ, List.set_cons_zero])
        | (refine q_at (by rfl) 3 _ rfl _ rfl _ t1 (fun y => Try.isAgg3 y) (hK _ ?_); clear hK K; simp only [Act.put, List.setIfInBounds_toArray, List.set_cons_succ, List.set_cons_zero])
        | (refine Ql.q_row (by rfl) 36 _ rfl lb rfl _ _ _ _ hli Try.underlying36 rfl infoL (hK _ ?_); clear hK K; simp only [Act.put, List.setIfInBounds_toArray, List.set_cons_succ, List.set_cons_zero])
        | (go_simp; apply Exists.intro; refine ⟨fun y hy => ?_, hK _ ?_⟩; (go_at_call 13; exact Ql.cl_of hy (HCARD2.out _)); clear hK K)
        | (go_simp; apply Exists.intro; refine ⟨fun y hy => ?_, hK _ ?_⟩; (go_at_call 10; exact Ql.cl_same hy (HPU2.out _)); clear hK K)
        | fail))
      refine wpQuiet_nil ?_
      intro y3 hy3
      go_simp
      refine (HASK.out y3 hy3).mono ?_
      rintro e y4 ⟨⟨r, rfl⟩, S', m', hs4, hl4, hn4⟩
      have HS4 : Hid (US w w1 b lb l S' m' y4 ∧ S'.G.length ≤ S.G.length + 1 ∧ S'.now ≤ nw) := ⟨hs4, hl4, hn4⟩
      clear hs4 hl4 hn4 hy3 hli t0 t1
      go_wp2_with fail
      refine ⟨⟨i + 1, nw, S', m', by simp, rfl, ⟨by have := HUB.out; omega, by have := HUB.out; omega, by have := HS4.out; have := HI.out; omega, HS4.out.2.2, by have := HI.out; have := HUB.out; have := HNW2.out; omega, by have := HI.out; have := HUB.out; have := HNW2.out; push_cast; omega⟩, HS4.out.1⟩, ?_⟩
      have := HUB.out
      simp only [intOf]; omega
    · have HNL : Hid (¬ (i < N ∧ i < 100)) := hlt
      have q2 : (0 : Int) ≤ (i : Int) := by omega
      by_cases hN : i < N
      · have b1 : (i : Int) < (N : Int) := by omega
        have b2 : decide ((i : Int) < 100) = false := decide_eq_false (by omega)
        clear hlt hN
        obtain ⟨Y, HY⟩ : ∃ Y, Hid (wr.heap.size = Y) := ⟨_, rfl⟩
        obtain ⟨T, HT⟩ : ∃ T, Hid (now - l.window + 1 = T) := ⟨_, rfl⟩
        have HNB : Hid (0 ≤ now ∧ now ≤ 800 ∧ S.now ≤ now ∧ S.G.length ≤ 100) := by have := HI.out; exact ⟨by omega, by omega, by omega, by omega⟩
        have HA0 : Hid (Ar wr Y (fun j => cnt S.G (crd ((j : Nat) : Int)) T) (fun j => smm S.G (crd ((j : Nat) : Int)) T) 0 ((wr.alloc (.cells #[.int .i64 0, .int .i64 0, .int .i64 0, .int .i64 0, .int .i64 0, .int .i64 0, .int .i64 0] tI7)).alloc (.cells #[.int .i64 0, .int .i64 0, .int .i64 0, .int .i64 0, .int .i64 0, .int .i64 0, .int .i64 0] tI7))) := by rw [← HY.out]; exact ⟨h2_0 _ _ _, h2_1 _ _ _, below_two _ _ _, Nat.le_refl _⟩
        go_wp2_with fail
        rw [HY.out]
        have HSY : Hid (US w w1 b lb l S m wr) := HST
        obtain ⟨W, HW⟩ : ∃ W, Hid (wr = W) := ⟨_, rfl⟩
        rw [HW.out] at HSY HA0
        rw [HW.out]
        clear HST HY b1 b2 q2
        go_loopw [17] (fun kv wr => ∃ k : Nat, kv = .int .i64 (k : Int) ∧ Hid (k ≤ 7) ∧ Hid (Ar W Y (fun j => cnt S.G (crd ((j : Nat) : Int)) T) (fun j => smm S.G (crd ((j : Nat) : Int)) T) k wr)) (fun kv _ => 8 - (intOf kv).toNat)
        case atStart => exact ⟨0, rfl, Nat.zero_le _, HA0.out⟩
        case round =>
          obtain ⟨k, rfl, HK, HAR⟩ := hrel
          by_cases hk7 : k < 7
          · have HK7 : Hid (k < 7) := hk7
            have HCK : Hid (∀ y, Calls Try.prog 13 #[.int .i64 (k : Int), .int .i64 7] y fun e w' => e = .returned (.string (crd ((k : Nat) : Int))) ∧ Below y.heap.size y w') := fun y => card_k k hk7 y
            have HUS : Hid (∀ y, Ar W Y (fun j => cnt S.G (crd ((j : Nat) : Int)) T) (fun j => smm S.G (crd ((j : Nat) : Int)) T) k y → Calls Try.prog 14 #[.pointer (some ⟨b, 0, none⟩), .agg #[.int .i64 l.single, .int .i64 l.count, .int .i64 l.sum, .int .i64 l.window], .string (crd ((k : Nat) : Int)), .int .i64 now] y fun e z => e = .returned (.tuple #[.int .i64 (cnt S.G (crd ((k : Nat) : Int)) T), .int .i64 (smm S.G (crd ((k : Nat) : Int)) T)]) ∧ Below y.heap.size y z) := fun y hy => by
              have h1 := (HSY.out.below hy.bel).used HLRR.out (crd ((k : Nat) : Int)) (by rw [crd_size]; omega) now ⟨HNB.out.1, by have := HNB.out; omega⟩
              rw [HT.out] at h1
              exact h1
            have HSET : Hid (∀ y, Ar W Y (fun j => cnt S.G (crd ((j : Nat) : Int)) T) (fun j => smm S.G (crd ((j : Nat) : Int)) T) k y → Ar W Y (fun j => cnt S.G (crd ((j : Nat) : Int)) T) (fun j => smm S.G (crd ((j : Nat) : Int)) T) (k + 1) ((y.setCell ⟨Y, k, none⟩ (.int .i64 (cnt S.G (crd ((k : Nat) : Int)) T))).setCell ⟨Y + 1, k, none⟩ (.int .i64 (smm S.G (crd ((k : Nat) : Int)) T)))) := fun y hy => hy.set hk7
            generalize crd ((k : Nat) : Int) = ck at HCK HUS HSET
            generalize cnt S.G ck T = U at HUS HSET
            generalize smm S.G ck T = V at HUS HSET
            have qk0 : (k : Int) < 7 := by omega
            have qk1 : (0 : Int) ≤ (k : Int) := by omega
            have qk2 : (k : Int) + 1 ≤ 9223372036854775807 := by omega
            have HARD : Hid (Ar W Y (fun j => cnt S.G (crd ((j : Nat) : Int)) T) (fun j => smm S.G (crd ((j : Nat) : Int)) T) k wr.drew) := HAR.out.below ((Below.refl _ _).drew)
            obtain ⟨l0, l1, l2, l3⟩ := lim_cells (w := w) (HSY.out.below HARD.out.bel).kn.li
            clear hk7
            go_wp2_with fail
            go_region_with (first
              | (go_at_call 13; refine (HCK.out _).mono ?_; rintro e x ⟨rfl, hx⟩; have HXA : Hid (Ar W Y (fun j => cnt S.G (crd ((j : Nat) : Int)) T) (fun j => smm S.G (crd ((j : Nat) : Int)) T) k x) := HARD.out.below hx; obtain ⟨m0, m1, m2, m3⟩ := lim_cells (w := w) (HSY.out.below HXA.out.bel).kn.li; clear hx)
              | (go_at_call 14; refine (HUS.out _ HXA.out).mono ?_; rintro e x2 ⟨rfl, hx2⟩; have HX2 : Hid (Ar W Y (fun j => cnt S.G (crd ((j : Nat) : Int)) T) (fun j => smm S.G (crd ((j : Nat) : Int)) T) k x2) := HXA.out.below hx2; obtain ⟨u5, v5, e0, e1, e2, e3⟩ := HX2.out.cells k HK7.out; clear hx2)
              | fail)
            all_goals (have HSE : Hid _ := HSET.out x2 HX2.out)
            all_goals (clear l0 l1 l2 l3 e0 e1 e2 e3)
            all_goals (go_wp2_with fail)
            all_goals (refine ⟨⟨k + 1, by simp, (by have := HK7.out; show k + 1 ≤ 7; omega), HSE.out⟩, (by have := HK7.out; simp only [intOf]; omega)⟩)
          · obtain rfl : k = 7 := by have := HK.out; omega
            clear hk7
            have HE0 : Hid (UE w w1 b lb l S m Y (fun j => cnt S.G (crd ((j : Nat) : Int)) T) (fun j => smm S.G (crd ((j : Nat) : Int)) T) wr) := (by
              have h1 := HSY.out.below HAR.out.bel
              exact ⟨h1.kn, HAR.out.a, HAR.out.b, h1.bel, h1.le⟩)
            have HS7 : Hid (US w w1 b lb l S m wr) := HSY.out.below HAR.out.bel
            have p80 := Pick.pick_lo a2 8 (by omega)
            have p81 := Pick.pick_hi a2 8 (by omega)
            have p50 := Pick.pick_lo a3 50 (by omega)
            have p51 := Pick.pick_hi a3 50 (by omega)
            have HCW : Hid (∀ y, Calls Try.prog 13 #[.int .i64 a2, .int .i64 8] y fun e w' => e = .returned (.string (crd (Pick.pickOf a2 8))) ∧ Below y.heap.size y w') := fun y => card_any a2 HI2.out 8 (by omega) (by omega) y
            have HPK : Hid (∀ y, Calls Try.prog 10 #[.int .i64 a3, .int .i64 50] y fun e w' => e = .returned (.int .i64 (Pick.pickOf a3 50)) ∧ w' = y) := fun y => Pick.pick_any a3 50 y HI3.out.1 HI3.out.2 (by omega) (by omega)
            have HCS : Hid ((crd (Pick.pickOf a2 8)).size ≤ 1000000 ∧ (crd (Pick.pickOf a2 8)).toList.isEmpty = false) := ⟨by rw [crd_size]; omega, crd_ne _⟩
            generalize crd (Pick.pickOf a2 8) = c at *
            generalize Pick.pickOf a3 50 = d at *
            have q60 : now + 1 ≤ 9223372036854775807 := by have := HNB.out; omega
            have q61 : -9223372036854775808 ≤ now + 1 := by have := HNB.out; omega
            have q62 : now + 1 + d ≤ 9223372036854775807 := by have := HNB.out; omega
            have q63 : -9223372036854775808 ≤ now + 1 + d := by have := HNB.out; omega
            have HNU : Hid (∀ g ∈ S.G, g.2.2.1 ≠ 123456789) := fun g hg => by have := HS7.out.un g hg; omega
            clear p80 p81 p50 p51
            go_wp2_with fail
            refine (len_any HS7.out.kn.bk).mono ?_
            rintro e y5 ⟨rfl, rfl⟩
            go_wp2_with fail
            refine (HCW.out _).mono ?_
            rintro e y6 ⟨rfl, hy6⟩
            have HE6 : Hid (UE w w1 b lb l S m Y (fun j => cnt S.G (crd ((j : Nat) : Int)) T) (fun j => smm S.G (crd ((j : Nat) : Int)) T) (y6.alloc (.cells #[.int .i64 999999999999, .int .i64 999999999999, .int .i64 999999999999, .int .i64 1] tLi))) := (HE0.out.below hy6).below (below_one _ _)
            have HU6 : Hid (US w w1 b lb l S m (y6.alloc (.cells #[.int .i64 999999999999, .int .i64 999999999999, .int .i64 999999999999, .int .i64 1] tLi))) := (HS7.out.below hy6).below (below_one _ _)
            have HAK : Hid (∀ y, US w w1 b lb l S m y → Calls Try.prog 15 #[.pointer (some ⟨b, 0, none⟩), .agg #[.int .i64 999999999999, .int .i64 999999999999, .int .i64 999999999999, .int .i64 1], .string c, .int .i64 123456789, .int .i64 now] y fun e z => e = .returned (.int .i64 0) ∧ PB y w1.heap.size b (giveS (nowS S now) c 123456789) (mOf S c m) z) := fun y hy => hy.wide c HCS.out.1 HCS.out.2 now HNB.out.2.2.1 (by have := HNB.out; omega) (by have := HNB.out; omega)
            clear hy6
            go_wp2_with fail
            refine (HAK.out _ HU6.out).mono ?_
            rintro e y7 ⟨rfl, hy7⟩
            have HE7 : Hid (UE w w1 b lb l (giveS (nowS S now) c 123456789) (mOf S c m) Y (fun j => cnt S.G (crd ((j : Nat) : Int)) T) (fun j => smm S.G (crd ((j : Nat) : Int)) T) y7) := HE6.out.pb hy7
            clear hy7
            go_wp2_with fail
            refine (undo_given c HCS.out.1 123456789 now HE7.out.kn.bk HNU.out).mono ?_
            rintro e y8 ⟨rfl, hy8⟩
            have HE8 : Hid (UE w w1 b lb l (backS S now) m Y (fun j => cnt S.G (crd ((j : Nat) : Int)) T) (fun j => smm S.G (crd ((j : Nat) : Int)) T) y8) := HE7.out.pb hy8
            clear hy8
            go_wp2_with fail
            refine (undo_no HE8.out.kn.bk c HCS.out.1 123456789 now (non_of (S := backS S now) c _ _ HNU.out)).mono ?_
            rintro e y9 ⟨rfl, hy9⟩
            have HE9 : Hid (UE w w1 b lb l (backS S now) m Y (fun j => cnt S.G (crd ((j : Nat) : Int)) T) (fun j => smm S.G (crd ((j : Nat) : Int)) T) y9) := HE8.out.below hy9
            clear hy9
            go_wp2_with fail
            refine (HPK.out _).mono ?_
            rintro e y9' ⟨rfl, rfl⟩
            go_wp2_with fail
            refine (undo_no HE9.out.kn.bk c HCS.out.1 123456789 (now + 1 + d) (non_of (S := backS S now) c _ _ HNU.out)).mono ?_
            rintro e y10 ⟨rfl, hy10⟩
            have HE10 : Hid (UE w w1 b lb l (backS S now) m Y (fun j => cnt S.G (crd ((j : Nat) : Int)) T) (fun j => smm S.G (crd ((j : Nat) : Int)) T) y10) := HE9.out.below hy10
            have HLN : Hid (Calls Try.prog 16 #[.pointer (some ⟨b, 0, none⟩)] y10 fun e w' => e = .returned (.int .i64 (m : Int)) ∧ w' = y10) := len_any HE10.out.kn.bk
            clear hy10
            go_wp2_with fail
            refine HLN.out.mono ?_
            rintro e y11 ⟨rfl, rfl⟩
            go_wp2_with fail
            clear HLN HE9 HE8 HE7 HE6 HU6 HAK
            go_loopw [25, 26, 27] (fun kv _ _ wr => ∃ k : Nat, kv = .int .i64 (k : Int) ∧ Hid (k ≤ 7) ∧ Hid (Below y11.heap.size y11 wr)) (fun kv _ _ _ => 8 - (intOf kv).toNat)
            case atStart => exact ⟨0, rfl, Nat.zero_le _, Below.refl _ _⟩
            case round =>
              obtain ⟨k, rfl, HK3, HB3⟩ := hrel
              have HEW : Hid (UE w w1 b lb l (backS S now) m Y (fun j => cnt S.G (crd ((j : Nat) : Int)) T) (fun j => smm S.G (crd ((j : Nat) : Int)) T) wr) := HE10.out.below HB3.out
              by_cases hk3 : k < 7
              · have HCK : ∀ y, Calls Try.prog 13 #[.int .i64 (k : Int), .int .i64 7] y fun e w' => e = .returned (.string (crd ((k : Nat) : Int))) ∧ Below y.heap.size y w' := fun y => card_k k hk3 y
                have HUS : ∀ y, Below wr.heap.size wr y → Calls Try.prog 14 #[.pointer (some ⟨b, 0, none⟩), .agg #[.int .i64 l.single, .int .i64 l.count, .int .i64 l.sum, .int .i64 l.window], .string (crd ((k : Nat) : Int)), .int .i64 now] y fun e z => e = .returned (.tuple #[.int .i64 (cnt S.G (crd ((k : Nat) : Int)) T), .int .i64 (smm S.G (crd ((k : Nat) : Int)) T)]) ∧ Below y.heap.size y z := fun y hy => by
                  have h1 := (HEW.out.below hy).used HLRR.out (crd ((k : Nat) : Int)) (by rw [crd_size]; omega) now ⟨HNB.out.1, by have := HNB.out; omega⟩
                  rw [HT.out] at h1
                  exact h1
                have e0 := arr_at hk3 HEW.out.a
                have e1 := arr_at hk3 HEW.out.b
                try dsimp only at e0 e1
                generalize crd ((k : Nat) : Int) = ck at HCK HUS e0 e1
                generalize cnt S.G ck T = U at HUS e0
                generalize smm S.G ck T = V at HUS e1
                have hli := HEW.out.kn.li
                have klt0 := World.block_lt_of_cell? _ _ e0
                have klt1 := World.block_lt_of_cell? _ _ e1
                have qk0 : (k : Int) < 7 := by omega
                have qk1 : (0 : Int) ≤ (k : Int) := by omega
                have qk2 : (k : Int) + 1 ≤ 9223372036854775807 := by omega
                have HK7 : Hid (k < 7) := hk3
                clear hk3
                go_wp2_with fail
                refine Ql.region_cl (by kernel_rfl) (by kernel_rfl) ?_
                repeat (first | go_big_quiet_skip | (go_big_quiet_want; go_big_quiet_op; first | go_big_quiet_on | (refine ⟨_, fun _ _ => rfl, ?_⟩; go_big_quiet_on) | (refine ⟨_, fun _ _ => ⟨rfl, rfl⟩, ?_⟩; go_big_quiet_on)) | (refine wpQuiet_step (fun K hK => ?_); first
                  | (refine Ql.q_row (by rfl) 36 _ rfl lb rfl _ _ _ _ hli Try.underlying36 rfl infoL (hK _ ?_); clear hK K; simp only [Act.put, List.setIfInBounds_toArray, List.set_cons_succ, List.set_cons_zero])
                  | (go_simp; apply Exists.intro; refine ⟨fun y hy => ?_, hK _ ?_⟩; (go_at_call 13; exact Ql.cl_of hy (HCK _)); clear hK K)
                  | (go_simp; apply Exists.intro; refine ⟨fun y hy => ?_, hK _ ?_⟩; (go_at_call 14; exact Ql.cl_of hy (HUS _ hy)); clear hK K)
                  | fail))
                refine wpQuiet_nil ?_
                intro y12 hy12
                have HB12 : Hid (Below y11.heap.size y11 y12) := keepB HB3.out hy12
                have f0 : y12.cell? ⟨Y, k, none⟩ = some (.int .i64 U) := (hy12.cell klt0).trans e0
                have f1 : y12.cell? ⟨Y + 1, k, none⟩ = some (.int .i64 V) := (hy12.cell klt1).trans e1
                clear hli e0 e1 klt0 klt1 hy12 HUS HCK
                go_wp2_with fail
                refine ⟨⟨k + 1, by simp, (by have := HK7.out; show k + 1 ≤ 7; omega), HB12.out⟩, ?_⟩
                have := HK7.out
                simp only [intOf]; omega
              · obtain rfl : k = 7 := by have := HK3.out; omega
                clear hk3
                go_wp2_with fail
                go_ret
                exact ⟨rfl, HEW.out.bel⟩
      · have b1 : decide ((i : Int) < (N : Int)) = false := decide_eq_false (by omega)
        have b2 : ¬ (i : Int) < (N : Int) := by omega
        clear hlt hN
        obtain ⟨Y, HY⟩ : ∃ Y, Hid (wr.heap.size = Y) := ⟨_, rfl⟩
        obtain ⟨T, HT⟩ : ∃ T, Hid (now - l.window + 1 = T) := ⟨_, rfl⟩
        have HNB : Hid (0 ≤ now ∧ now ≤ 800 ∧ S.now ≤ now ∧ S.G.length ≤ 100) := by have := HI.out; exact ⟨by omega, by omega, by omega, by omega⟩
        have HA0 : Hid (Ar wr Y (fun j => cnt S.G (crd ((j : Nat) : Int)) T) (fun j => smm S.G (crd ((j : Nat) : Int)) T) 0 ((wr.alloc (.cells #[.int .i64 0, .int .i64 0, .int .i64 0, .int .i64 0, .int .i64 0, .int .i64 0, .int .i64 0] tI7)).alloc (.cells #[.int .i64 0, .int .i64 0, .int .i64 0, .int .i64 0, .int .i64 0, .int .i64 0, .int .i64 0] tI7))) := by rw [← HY.out]; exact ⟨h2_0 _ _ _, h2_1 _ _ _, below_two _ _ _, Nat.le_refl _⟩
        go_wp2_with fail
        rw [HY.out]
        have HSY : Hid (US w w1 b lb l S m wr) := HST
        obtain ⟨W, HW⟩ : ∃ W, Hid (wr = W) := ⟨_, rfl⟩
        rw [HW.out] at HSY HA0
        rw [HW.out]
        clear HST HY b1 b2 q2
        go_loopw [17] (fun kv wr => ∃ k : Nat, kv = .int .i64 (k : Int) ∧ Hid (k ≤ 7) ∧ Hid (Ar W Y (fun j => cnt S.G (crd ((j : Nat) : Int)) T) (fun j => smm S.G (crd ((j : Nat) : Int)) T) k wr)) (fun kv _ => 8 - (intOf kv).toNat)
        case atStart => exact ⟨0, rfl, Nat.zero_le _, HA0.out⟩
        case round =>
          obtain ⟨k, rfl, HK, HAR⟩ := hrel
          by_cases hk7 : k < 7
          · have HK7 : Hid (k < 7) := hk7
            have HCK : Hid (∀ y, Calls Try.prog 13 #[.int .i64 (k : Int), .int .i64 7] y fun e w' => e = .returned (.string (crd ((k : Nat) : Int))) ∧ Below y.heap.size y w') := fun y => card_k k hk7 y
            have HUS : Hid (∀ y, Ar W Y (fun j => cnt S.G (crd ((j : Nat) : Int)) T) (fun j => smm S.G (crd ((j : Nat) : Int)) T) k y → Calls Try.prog 14 #[.pointer (some ⟨b, 0, none⟩), .agg #[.int .i64 l.single, .int .i64 l.count, .int .i64 l.sum, .int .i64 l.window], .string (crd ((k : Nat) : Int)), .int .i64 now] y fun e z => e = .returned (.tuple #[.int .i64 (cnt S.G (crd ((k : Nat) : Int)) T), .int .i64 (smm S.G (crd ((k : Nat) : Int)) T)]) ∧ Below y.heap.size y z) := fun y hy => by
              have h1 := (HSY.out.below hy.bel).used HLRR.out (crd ((k : Nat) : Int)) (by rw [crd_size]; omega) now ⟨HNB.out.1, by have := HNB.out; omega⟩
              rw [HT.out] at h1
              exact h1
            have HSET : Hid (∀ y, Ar W Y (fun j => cnt S.G (crd ((j : Nat) : Int)) T) (fun j => smm S.G (crd ((j : Nat) : Int)) T) k y → Ar W Y (fun j => cnt S.G (crd ((j : Nat) : Int)) T) (fun j => smm S.G (crd ((j : Nat) : Int)) T) (k + 1) ((y.setCell ⟨Y, k, none⟩ (.int .i64 (cnt S.G (crd ((k : Nat) : Int)) T))).setCell ⟨Y + 1, k, none⟩ (.int .i64 (smm S.G (crd ((k : Nat) : Int)) T)))) := fun y hy => hy.set hk7
            generalize crd ((k : Nat) : Int) = ck at HCK HUS HSET
            generalize cnt S.G ck T = U at HUS HSET
            generalize smm S.G ck T = V at HUS HSET
            have qk0 : (k : Int) < 7 := by omega
            have qk1 : (0 : Int) ≤ (k : Int) := by omega
            have qk2 : (k : Int) + 1 ≤ 9223372036854775807 := by omega
            have HARD : Hid (Ar W Y (fun j => cnt S.G (crd ((j : Nat) : Int)) T) (fun j => smm S.G (crd ((j : Nat) : Int)) T) k wr.drew) := HAR.out.below ((Below.refl _ _).drew)
            obtain ⟨l0, l1, l2, l3⟩ := lim_cells (w := w) (HSY.out.below HARD.out.bel).kn.li
            clear hk7
            go_wp2_with fail
            go_region_with (first
              | (go_at_call 13; refine (HCK.out _).mono ?_; rintro e x ⟨rfl, hx⟩; have HXA : Hid (Ar W Y (fun j => cnt S.G (crd ((j : Nat) : Int)) T) (fun j => smm S.G (crd ((j : Nat) : Int)) T) k x) := HARD.out.below hx; obtain ⟨m0, m1, m2, m3⟩ := lim_cells (w := w) (HSY.out.below HXA.out.bel).kn.li; clear hx)
              | (go_at_call 14; refine (HUS.out _ HXA.out).mono ?_; rintro e x2 ⟨rfl, hx2⟩; have HX2 : Hid (Ar W Y (fun j => cnt S.G (crd ((j : Nat) : Int)) T) (fun j => smm S.G (crd ((j : Nat) : Int)) T) k x2) := HXA.out.below hx2; obtain ⟨u5, v5, e0, e1, e2, e3⟩ := HX2.out.cells k HK7.out; clear hx2)
              | fail)
            all_goals (have HSE : Hid _ := HSET.out x2 HX2.out)
            all_goals (clear l0 l1 l2 l3 e0 e1 e2 e3)
            all_goals (go_wp2_with fail)
            all_goals (refine ⟨⟨k + 1, by simp, (by have := HK7.out; show k + 1 ≤ 7; omega), HSE.out⟩, (by have := HK7.out; simp only [intOf]; omega)⟩)
          · obtain rfl : k = 7 := by have := HK.out; omega
            clear hk7
            have HE0 : Hid (UE w w1 b lb l S m Y (fun j => cnt S.G (crd ((j : Nat) : Int)) T) (fun j => smm S.G (crd ((j : Nat) : Int)) T) wr) := (by
              have h1 := HSY.out.below HAR.out.bel
              exact ⟨h1.kn, HAR.out.a, HAR.out.b, h1.bel, h1.le⟩)
            have HS7 : Hid (US w w1 b lb l S m wr) := HSY.out.below HAR.out.bel
            have p80 := Pick.pick_lo a2 8 (by omega)
            have p81 := Pick.pick_hi a2 8 (by omega)
            have p50 := Pick.pick_lo a3 50 (by omega)
            have p51 := Pick.pick_hi a3 50 (by omega)
            have HCW : Hid (∀ y, Calls Try.prog 13 #[.int .i64 a2, .int .i64 8] y fun e w' => e = .returned (.string (crd (Pick.pickOf a2 8))) ∧ Below y.heap.size y w') := fun y => card_any a2 HI2.out 8 (by omega) (by omega) y
            have HPK : Hid (∀ y, Calls Try.prog 10 #[.int .i64 a3, .int .i64 50] y fun e w' => e = .returned (.int .i64 (Pick.pickOf a3 50)) ∧ w' = y) := fun y => Pick.pick_any a3 50 y HI3.out.1 HI3.out.2 (by omega) (by omega)
            have HCS : Hid ((crd (Pick.pickOf a2 8)).size ≤ 1000000 ∧ (crd (Pick.pickOf a2 8)).toList.isEmpty = false) := ⟨by rw [crd_size]; omega, crd_ne _⟩
            generalize crd (Pick.pickOf a2 8) = c at *
            generalize Pick.pickOf a3 50 = d at *
            have q60 : now + 1 ≤ 9223372036854775807 := by have := HNB.out; omega
            have q61 : -9223372036854775808 ≤ now + 1 := by have := HNB.out; omega
            have q62 : now + 1 + d ≤ 9223372036854775807 := by have := HNB.out; omega
            have q63 : -9223372036854775808 ≤ now + 1 + d := by have := HNB.out; omega
            have HNU : Hid (∀ g ∈ S.G, g.2.2.1 ≠ 123456789) := fun g hg => by have := HS7.out.un g hg; omega
            clear p80 p81 p50 p51
            go_wp2_with fail
            refine (len_any HS7.out.kn.bk).mono ?_
            rintro e y5 ⟨rfl, rfl⟩
            go_wp2_with fail
            refine (HCW.out _).mono ?_
            rintro e y6 ⟨rfl, hy6⟩
            have HE6 : Hid (UE w w1 b lb l S m Y (fun j => cnt S.G (crd ((j : Nat) : Int)) T) (fun j => smm S.G (crd ((j : Nat) : Int)) T) (y6.alloc (.cells #[.int .i64 999999999999, .int .i64 999999999999, .int .i64 999999999999, .int .i64 1] tLi))) := (HE0.out.below hy6).below (below_one _ _)
            have HU6 : Hid (US w w1 b lb l S m (y6.alloc (.cells #[.int .i64 999999999999, .int .i64 999999999999, .int .i64 999999999999, .int .i64 1] tLi))) := (HS7.out.below hy6).below (below_one _ _)
            have HAK : Hid (∀ y, US w w1 b lb l S m y → Calls Try.prog 15 #[.pointer (some ⟨b, 0, none⟩), .agg #[.int .i64 999999999999, .int .i64 999999999999, .int .i64 999999999999, .int .i64 1], .string c, .int .i64 123456789, .int .i64 now] y fun e z => e = .returned (.int .i64 0) ∧ PB y w1.heap.size b (giveS (nowS S now) c 123456789) (mOf S c m) z) := fun y hy => hy.wide c HCS.out.1 HCS.out.2 now HNB.out.2.2.1 (by have := HNB.out; omega) (by have := HNB.out; omega)
            clear hy6
            go_wp2_with fail
            refine (HAK.out _ HU6.out).mono ?_
            rintro e y7 ⟨rfl, hy7⟩
            have HE7 : Hid (UE w w1 b lb l (giveS (nowS S now) c 123456789) (mOf S c m) Y (fun j => cnt S.G (crd ((j : Nat) : Int)) T) (fun j => smm S.G (crd ((j : Nat) : Int)) T) y7) := HE6.out.pb hy7
            clear hy7
            go_wp2_with fail
            refine (undo_given c HCS.out.1 123456789 now HE7.out.kn.bk HNU.out).mono ?_
            rintro e y8 ⟨rfl, hy8⟩
            have HE8 : Hid (UE w w1 b lb l (backS S now) m Y (fun j => cnt S.G (crd ((j : Nat) : Int)) T) (fun j => smm S.G (crd ((j : Nat) : Int)) T) y8) := HE7.out.pb hy8
            clear hy8
            go_wp2_with fail
            refine (undo_no HE8.out.kn.bk c HCS.out.1 123456789 now (non_of (S := backS S now) c _ _ HNU.out)).mono ?_
            rintro e y9 ⟨rfl, hy9⟩
            have HE9 : Hid (UE w w1 b lb l (backS S now) m Y (fun j => cnt S.G (crd ((j : Nat) : Int)) T) (fun j => smm S.G (crd ((j : Nat) : Int)) T) y9) := HE8.out.below hy9
            clear hy9
            go_wp2_with fail
            refine (HPK.out _).mono ?_
            rintro e y9' ⟨rfl, rfl⟩
            go_wp2_with fail
            refine (undo_no HE9.out.kn.bk c HCS.out.1 123456789 (now + 1 + d) (non_of (S := backS S now) c _ _ HNU.out)).mono ?_
            rintro e y10 ⟨rfl, hy10⟩
            have HE10 : Hid (UE w w1 b lb l (backS S now) m Y (fun j => cnt S.G (crd ((j : Nat) : Int)) T) (fun j => smm S.G (crd ((j : Nat) : Int)) T) y10) := HE9.out.below hy10
            have HLN : Hid (Calls Try.prog 16 #[.pointer (some ⟨b, 0, none⟩)] y10 fun e w' => e = .returned (.int .i64 (m : Int)) ∧ w' = y10) := len_any HE10.out.kn.bk
            clear hy10
            go_wp2_with fail
            refine HLN.out.mono ?_
            rintro e y11 ⟨rfl, rfl⟩
            go_wp2_with fail
            clear HLN HE9 HE8 HE7 HE6 HU6 HAK
            go_loopw [25, 26, 27] (fun kv _ _ wr => ∃ k : Nat, kv = .int .i64 (k : Int) ∧ Hid (k ≤ 7) ∧ Hid (Below y11.heap.size y11 wr)) (fun kv _ _ _ => 8 - (intOf kv).toNat)
            case atStart => exact ⟨0, rfl, Nat.zero_le _, Below.refl _ _⟩
            case round =>
              obtain ⟨k, rfl, HK3, HB3⟩ := hrel
              have HEW : Hid (UE w w1 b lb l (backS S now) m Y (fun j => cnt S.G (crd ((j : Nat) : Int)) T) (fun j => smm S.G (crd ((j : Nat) : Int)) T) wr) := HE10.out.below HB3.out
              by_cases hk3 : k < 7
              · have HCK : ∀ y, Calls Try.prog 13 #[.int .i64 (k : Int), .int .i64 7] y fun e w' => e = .returned (.string (crd ((k : Nat) : Int))) ∧ Below y.heap.size y w' := fun y => card_k k hk3 y
                have HUS : ∀ y, Below wr.heap.size wr y → Calls Try.prog 14 #[.pointer (some ⟨b, 0, none⟩), .agg #[.int .i64 l.single, .int .i64 l.count, .int .i64 l.sum, .int .i64 l.window], .string (crd ((k : Nat) : Int)), .int .i64 now] y fun e z => e = .returned (.tuple #[.int .i64 (cnt S.G (crd ((k : Nat) : Int)) T), .int .i64 (smm S.G (crd ((k : Nat) : Int)) T)]) ∧ Below y.heap.size y z := fun y hy => by
                  have h1 := (HEW.out.below hy).used HLRR.out (crd ((k : Nat) : Int)) (by rw [crd_size]; omega) now ⟨HNB.out.1, by have := HNB.out; omega⟩
                  rw [HT.out] at h1
                  exact h1
                have e0 := arr_at hk3 HEW.out.a
                have e1 := arr_at hk3 HEW.out.b
                try dsimp only at e0 e1
                generalize crd ((k : Nat) : Int) = ck at HCK HUS e0 e1
                generalize cnt S.G ck T = U at HUS e0
                generalize smm S.G ck T = V at HUS e1
                have hli := HEW.out.kn.li
                have klt0 := World.block_lt_of_cell? _ _ e0
                have klt1 := World.block_lt_of_cell? _ _ e1
                have qk0 : (k : Int) < 7 := by omega
                have qk1 : (0 : Int) ≤ (k : Int) := by omega
                have qk2 : (k : Int) + 1 ≤ 9223372036854775807 := by omega
                have HK7 : Hid (k < 7) := hk3
                clear hk3
                go_wp2_with fail
                refine Ql.region_cl (by kernel_rfl) (by kernel_rfl) ?_
                repeat (first | go_big_quiet_skip | (go_big_quiet_want; go_big_quiet_op; first | go_big_quiet_on | (refine ⟨_, fun _ _ => rfl, ?_⟩; go_big_quiet_on) | (refine ⟨_, fun _ _ => ⟨rfl, rfl⟩, ?_⟩; go_big_quiet_on)) | (refine wpQuiet_step (fun K hK => ?_); first
                  | (refine Ql.q_row (by rfl) 36 _ rfl lb rfl _ _ _ _ hli Try.underlying36 rfl infoL (hK _ ?_); clear hK K; simp only [Act.put, List.setIfInBounds_toArray, List.set_cons_succ, List.set_cons_zero])
                  | (go_simp; apply Exists.intro; refine ⟨fun y hy => ?_, hK _ ?_⟩; (go_at_call 13; exact Ql.cl_of hy (HCK _)); clear hK K)
                  | (go_simp; apply Exists.intro; refine ⟨fun y hy => ?_, hK _ ?_⟩; (go_at_call 14; exact Ql.cl_of hy (HUS _ hy)); clear hK K)
                  | fail))
                refine wpQuiet_nil ?_
                intro y12 hy12
                have HB12 : Hid (Below y11.heap.size y11 y12) := keepB HB3.out hy12
                have f0 : y12.cell? ⟨Y, k, none⟩ = some (.int .i64 U) := (hy12.cell klt0).trans e0
                have f1 : y12.cell? ⟨Y + 1, k, none⟩ = some (.int .i64 V) := (hy12.cell klt1).trans e1
                clear hli e0 e1 klt0 klt1 hy12 HUS HCK
                go_wp2_with fail
                refine ⟨⟨k + 1, by simp, (by have := HK7.out; show k + 1 ≤ 7; omega), HB12.out⟩, ?_⟩
                have := HK7.out
                simp only [intOf]; omega
              · obtain rfl : k = 7 := by have := HK3.out; omega
                clear hk3
                go_wp2_with fail
                go_ret
                exact ⟨rfl, HEW.out.bel⟩
end Go.Proofs.Ytmaikkhemhonhaa.Fd
