/- StandinForgets: the walk. -/
import Derived.Test.YtmaikkhemhonhaaEo
import Derived.Test.YtmaikkhemhonhaaSg
import Derived.BigQuiet
namespace Go.Proofs.Ytmaikkhemhonhaa.Ep
set_option linter.unusedVariables false
set_option linter.unusedSimpArgs false
open Go.RowKit Go.Maps Lib0 Kb Xp Da Db Dc Dd De Df Dh Di Dj Dk Dl Dm Dn Dp Dq Dr Ds Dt Du Dv Dw Dy Dz Ea Eb Ec Ed Ee Ef Eg Eh Ei Ej Ek En Eo
attribute [local go_sem] Oper.semAt_some
theorem tl_ne {s c : ByteArray} (hs : s ≠ c) : (s.toList == c.toList) = false := by
  rw [beq_eq_false_iff_ne]
  intro e
  rw [ByteArray.toList_eq, ByteArray.toList_eq] at e
  apply hs
  have : s.data = c.data := Array.ext' e
  cases s; cases c; simp_all
theorem grow_below {B n m : Nat} {t : TypeId} {y x z : World} {o : Obj} {v : Value} {xs : List Value} (hb : Below B y x) (hB : B ≤ x.heap.size) (h : x.ownsRow B t m v n xs) (hg : (x.alloc o).grownBy z v.ownBlock) : Below B y z :=
  hb.trans (((below_one x o).mono hB).trans ((Below.refl _ _).grown hg (by simp; omega) (fun j hj => (h.lt j hj).1)))
theorem grow_other {B n m k l : Nat} {t u : TypeId} {x z : World} {o : Obj} {v v2 : Value} {xs ys : List Value} (htu : t ≠ u) (h : x.ownsRow B t m v n xs) (h2 : x.ownsRow B u k v2 l ys) (hg : (x.alloc o).grownBy z v.ownBlock) : z.ownsRow B u k v2 l ys := by
  refine (h2.alloc o).kept hg ?_
  cases e : v2.ownBlock with
  | none => exact .inl rfl
  | some g =>
    refine .inr fun e2 => ?_
    obtain ⟨c1, hc1⟩ := own_ty h e2.symm
    obtain ⟨c2, hc2⟩ := own_ty h2 e
    rw [hc1] at hc2
    injection hc2 with hc2
    injection hc2 with _ e3
    exact htu e3
theorem infoS : ∃ i, Try.prog.info? tSt = some i ∧ i.zero = some (.string ⟨#[]⟩) ∧ i.size = 1 ∧ i.bytes = 16 := by
  have h : (Try.prog.info? tSt).map (fun i => (i.zero, i.size, i.bytes)) = some (some (.string ⟨#[]⟩), 1, 16) := by kernel_rfl
  cases e : Try.prog.info? tSt with
  | none => rw [e] at h; cases h
  | some i => rw [e] at h; simp at h; exact ⟨i, rfl, h.1, h.2.1, h.2.2⟩
theorem infoI : ∃ i, Try.prog.info? tIt = some i ∧ i.zero = some (.int .i64 0) ∧ i.size = 1 ∧ i.bytes = 8 := by
  have h : (Try.prog.info? tIt).map (fun i => (i.zero, i.size, i.bytes)) = some (some (.int .i64 0), 1, 8) := by kernel_rfl
  cases e : Try.prog.info? tIt with
  | none => rw [e] at h; cases h
  | some i => rw [e] at h; simp at h; exact ⟨i, rfl, h.1, h.2.1, h.2.2⟩
theorem infoL : (Try.prog.info? 36).map (·.size) = some 4 := by kernel_rfl
theorem below_B {B : Nat} {y x z : World} (h : Below B y x) (k : Below x.heap.size x z) (hB : B ≤ x.heap.size) : Below B y z := h.trans (k.mono hB)
/-- the cards of the row's beginning but one -/
def fk (R : List ByteArray) (c : ByteArray) (k : Nat) : List ByteArray := (R.take k).filter (fun d => decide (d ≠ c))
theorem fk_le (R : List ByteArray) (c : ByteArray) (k : Nat) : (fk R c k).length ≤ k := Nat.le_trans (List.length_filter_le _ _) (by rw [List.length_take]; omega)
theorem fk_eq {R : List ByteArray} {c : ByteArray} {k : Nat} (hk : k < R.length) (e : R[k] = c) : fk R c (k + 1) = fk R c k := by
  unfold fk
  rw [List.take_succ_eq_append_getElem hk, List.filter_append, e]
  simp
theorem fk_ne {R : List ByteArray} {c : ByteArray} {k : Nat} (hk : k < R.length) (e : R[k] ≠ c) : fk R c (k + 1) = fk R c k ++ [R[k]] := by
  unfold fk
  rw [List.take_succ_eq_append_getElem hk, List.filter_append]
  congr 1
  simp [e]
theorem fk_all (R : List ByteArray) (c : ByteArray) : fk R c R.length = R.filter (fun d => decide (d ≠ c)) := by unfold fk; rw [List.take_length]
/-- how many approvals the law counts for the card, so far -/
def nk (S : St) (R : List ByteArray) (c : ByteArray) (k : Nat) : Int := if (R.take k).any (fun d => decide (d = c)) = true then ((lc S.G c).length : Int) + 1 else 1
theorem nk_zero (S : St) (R : List ByteArray) (c : ByteArray) : nk S R c 0 = 1 := by simp [nk]
theorem nk_eq {S : St} {R : List ByteArray} {c : ByteArray} {k : Nat} (hk : k < R.length) (e : R[k] = c) : nk S R c (k + 1) = ((lc S.G c).length : Int) + 1 := by
  unfold nk
  rw [if_pos]
  rw [List.take_succ_eq_append_getElem hk, e]
  simp
theorem nk_ne {S : St} {R : List ByteArray} {c : ByteArray} {k : Nat} (hk : k < R.length) (e : R[k] ≠ c) : nk S R c (k + 1) = nk S R c k := by
  unfold nk
  rw [List.take_succ_eq_append_getElem hk, List.any_append, List.any_cons, decide_eq_false e, List.any_nil, Bool.or_false, Bool.or_false]
theorem nk_all {S : St} {R : List ByteArray} (h : Rw S R) (c : ByteArray) : nk S R c R.length = ((lc S.G c).length : Int) + 1 := by
  unfold nk
  rw [List.take_length]
  split
  · rfl
  · rename_i hn
    have : lc S.G c = [] := lc_none (fun g hg e => hn (List.any_eq_true.2 ⟨c, (h.mem c).2 ⟨g, hg, e⟩, by simp⟩))
    rw [this]; simp
theorem own_cap {y : World} {base n m : Nat} {t : TypeId} {g cap : Nat} {xs : List Value} (h : y.ownsRow base t m (.slice (some ⟨g, 0, none⟩) n cap) n xs) : n ≤ cap := by
  rcases h.2 with ⟨e, -⟩ | ⟨g2, cap2, cur, e, -, -, h1, -⟩
  · injection e with e; cases e
  · injection e with _ _ e; omega
theorem sv_at {R : List ByteArray} {k : Nat} (hk : k < R.length) : (sv R)[k]'(by simpa [sv] using hk) = .string R[k] := by simp [sv]
theorem iv_at {M : List Int} {k : Nat} (hk : k < M.length) : (iv M)[k]'(by simpa [iv] using hk) = .int .i64 M[k] := by simp [iv]
theorem mny_len (S : St) (R : List ByteArray) : (mny S R).length = R.length := by simp [mny]
theorem mny_at {S : St} {R : List ByteArray} {k : Nat} (hk : k < R.length) : (mny S R)[k]'(by rw [mny_len]; exact hk) = ((lc S.G R[k]).length : Int) := by simp [mny]
theorem row_at {y : World} {o : Option Addr} {R : List ByteArray} (h : Rd y tSt o (sv R)) (k : Nat) (hk : k < R.length) : ∃ g off, o = some ⟨g, off, none⟩ ∧ y.cell? ⟨g, off + k, none⟩ = some (.string R[k]) := by
  obtain ⟨g, off, e, hc⟩ := h.cell k (by simpa [sv] using hk)
  rw [sv_at hk] at hc
  exact ⟨g, off, e, hc⟩
theorem many_at {y : World} {o : Option Addr} {S : St} {R : List ByteArray} (h : Rd y tIt o (iv (mny S R))) (k : Nat) (hk : k < R.length) : ∃ g off, o = some ⟨g, off, none⟩ ∧ y.cell? ⟨g, off + k, none⟩ = some (.int .i64 ((lc S.G R[k]).length : Int)) := by
  obtain ⟨g, off, e, hc⟩ := h.cell k (by simpa [iv, mny] using hk)
  rw [iv_at (by rw [mny_len]; exact hk), mny_at hk] at hc
  exact ⟨g, off, e, hc⟩
/-- the two rows of the inner loop -/
structure IL (B : Nat) (y : World) (S : St) (R : List ByteArray) (c : ByteArray) (k LL : Nat) (n : Int) (lv sv_ : Value) (wr : World) : Prop where
  len : (fk R c k).length = LL
  n : n = nk S R c k
  left : wr.ownsRow B tSt 1 lv LL (sv (fk R c k))
  rest : wr.ownsRow B tIt 1 sv_ LL (iv (mny S (fk R c k)))
  bel : Below B y wr
  size : B ≤ wr.heap.size
set_option maxRecDepth 100000 in
set_option maxHeartbeats 12800000 in
theorem walk (a0 : Int) (v1 : Value) (z1 : List Int) (w : World) (w0 : (Lit.int .i64 a0).wf = true) (wz : Sg.LiesI w v1 z1) :
    Calls Try.prog 6 #[.int .i64 a0, v1] w fun e w' => e = .returned (.bool true) ∧ Below w.heap.size w w' := by
  obtain ⟨oz, cz, rfl, hzl, hz⟩ := wz
  have HZ : Hid (∀ i (h : i < z1.length), ∃ a : Addr, oz = some a ∧ w.cell? (a.add i) = some (.int .i64 z1[i]) ∧ (Lit.int .i64 z1[i]).wf = true) := hz
  obtain ⟨N, HN0⟩ : ∃ N, Hid (z1.length = N) := ⟨_, rfl⟩
  rw [HN0.out] at hzl
  rw [HN0.out]
  have hi0 := Ol.wf_i64 w0
  have p1 := Pick.pick_lo a0 9 (by omega)
  have p2 := Pick.pick_hi a0 9 (by omega)
  have HPK : Hid (∀ y, Calls Try.prog 10 #[.int .i64 a0, .int .i64 9] y fun e w' => e = .returned (.int .i64 (Pick.pickOf a0 9)) ∧ w' = y) := fun y => Pick.pick_any a0 9 y hi0.1 hi0.2 (by omega) (by omega)
  obtain ⟨K0, hK0⟩ : ∃ K0 : Nat, Pick.pickOf a0 9 = (K0 : Int) := ⟨(Pick.pickOf a0 9).toNat, by omega⟩
  rw [hK0] at HPK p1 p2
  have HK9 : Hid (K0 < 9) := by show K0 < 9; omega
  have HKN : Hid (∀ y, Calls Try.prog 7 #[] y fun e w' => e = .returned (.bool true) ∧ Below y.heap.size y w') := fun y => known_any y
  have HNW : Hid (∀ y, Calls Try.prog 8 #[.int .i64 (1 + (K0 : Int))] y fun e w' => ∃ b, e = .returned (.tuple #[.pointer (some ⟨b, 0, none⟩), .int .i64 0]) ∧ Bk w' y.heap.size b ⟨1 + (K0 : Int), 0, 0, []⟩ 0 ∧ Below y.heap.size y w') := fun y => new_any (1 + (K0 : Int)) (by omega) y
  have q1 : 1 + (K0 : Int) ≤ 9223372036854775807 := by omega
  clear hz hi0 w0 hzl hK0 p1 p2
  go_enter Try.func6, Try.ntmps6
  go_wp2_with fail
  refine (HKN.out _).mono ?_
  rintro e w1 ⟨rfl, hw1⟩
  have HW1 : Hid (Below w.heap.size w w1) := hw1
  clear hw1
  go_wp2_with fail
  refine (HPK.out _).mono ?_
  rintro e w1' ⟨rfl, rfl⟩
  go_wp2_with fail
  refine (HNW.out _).mono ?_
  rintro e w2 ⟨b, rfl, hbk, hw2⟩
  have HS0 : Hid (FS w w1' b w2.heap.size ⟨1 + (K0 : Int), 0, 0, []⟩ 0 none none [] [] (w2.alloc (.cells #[.int .i64 10, .int .i64 1000, .int .i64 100000, .int .i64 100000] tLi))) :=
    ⟨⟨hbk.below (below_one _ _), h1_0 _ _, keepB hw2 (below_one _ _)⟩, Rd.nil _ _ _, Rd.nil _ _ _, keepB (keepB HW1.out hw2) (below_one _ _), HW1.out.size⟩
  clear hbk hw2
  go_wp2_with fail
  obtain ⟨lb, hlb⟩ : ∃ lb, w2.heap.size = lb := ⟨_, rfl⟩
  rw [hlb] at HS0
  rw [hlb]
  clear hlb
  obtain ⟨KM, HKM⟩ : ∃ KM, Hid (1 + K0 = KM) := ⟨_, rfl⟩
  have HKI : Hid (1 + (K0 : Int) = (KM : Int)) := by show 1 + (K0 : Int) = (KM : Int); have := HKM.out; omega
  rw [HKI.out] at HS0
  rw [HKI.out]
  have HF0 : Hid (FN KM 0 ⟨(KM : Int), 0, 0, []⟩ []) := ⟨rw_nil _ rfl, (fun g hg => (by cases hg)), rfl, rfl, Int.le_refl _, Nat.zero_le _, Nat.zero_le _, (fun g hg => (by cases hg))⟩
  clear q1 HNW HPK HKN
  go_loopw [10, 11, 12, 13, 14, 15, 16, 17, 18, 19, 20, 21, 22, 23] (fun rv mv iv_ _ _ _ _ _ _ _ _ _ _ _ wr => ∃ (i : Nat) (S : St) (R : List ByteArray) (ro mo : Option Addr) (rc mc : Nat), iv_ = .int .i64 (i : Int) ∧ rv = .slice ro R.length rc ∧ mv = .slice mo R.length mc ∧ Hid (i ≤ 150 ∧ i ≤ N) ∧ Hid (FS w w1' b lb S R.length ro mo R (mny S R) wr) ∧ Hid (FN KM i S R)) (fun _ _ iv_ _ _ _ _ _ _ _ _ _ _ _ _ => 151 - (intOf iv_).toNat)
  case atStart => exact ⟨0, ⟨(KM : Int), 0, 0, []⟩, [], none, none, 0, 0, rfl, rfl, rfl, ⟨by omega, by omega⟩, HS0.out, HF0.out⟩
  case round =>
    obtain ⟨i, S, R, ro, mo, rc, mc, rfl, rfl, rfl, HI, HST, HFN⟩ := hrel
    by_cases hlt : i < N ∧ i < 150
    · have hiz : i < z1.length := by rw [HN0.out]; exact hlt.1
      obtain ⟨ad, rfl, hat, hfine⟩ := HZ.out i hiz
      have t0 : wr.cell? (ad.add i) = some (.int .i64 z1[i]) := (HST.out.bel.cell (World.block_lt_of_cell? w _ hat)).trans hat
      have hc1 := Ol.wf_i64 hfine
      obtain ⟨xc, hx⟩ : ∃ x, z1[i] = x := ⟨_, rfl⟩
      rw [hx] at t0 hc1
      have HCARD : Hid (∀ y, Calls Try.prog 13 #[.int .i64 xc, .int .i64 14] y fun e w' => e = .returned (.string (crd (Pick.pickOf xc 14))) ∧ Below y.heap.size y w') := fun y => card_any xc hc1 14 (by omega) (by omega) y
      have HCS : Hid ((crd (Pick.pickOf xc 14)).size = 5 ∧ (crd (Pick.pickOf xc 14)).toList.isEmpty = false) := ⟨crd_size _, crd_ne _⟩
      generalize crd (Pick.pickOf xc 14) = c at *
      have HASK : Hid (∀ y, FS w w1' b lb S R.length ro mo R (mny S R) y → Calls Try.prog 15 #[.pointer (some ⟨b, 0, none⟩), .agg #[.int .i64 10, .int .i64 1000, .int .i64 100000, .int .i64 100000], .string c, .int .i64 1, .int .i64 (i : Int)] y fun e z => e = .returned (.int .i64 0) ∧ ∃ S', FS w w1' b lb S' (cut KM (R.filter (fun d => decide (d ≠ c)) ++ [c])).length ro mo R (mny S R) z ∧ FN KM (i + 1) S' (cut KM (R.filter (fun d => decide (d ≠ c)) ++ [c])) ∧ mny S' (cut KM (R.filter (fun d => decide (d ≠ c)) ++ [c])) = (if KM < (R.filter (fun d => decide (d ≠ c)) ++ [c]).length then (mny S (R.filter (fun d => decide (d ≠ c))) ++ [((lc S.G c).length : Int) + 1]).tail else (mny S (R.filter (fun d => decide (d ≠ c))) ++ [((lc S.G c).length : Int) + 1])) ∧ (KM < (R.filter (fun d => decide (d ≠ c)) ++ [c]).length → ∀ d ∈ (R.filter (fun d => decide (d ≠ c)) ++ [c]).head?, lc S'.G d = [])) := fun y hy => hy.ask HFN.out rfl hlt.2 (by have := HK9.out; have := HKM.out; omega) c HCS.out.1 HCS.out.2
      have q0 : (i : Int) < (N : Int) := by omega
      have q1 : (i : Int) < 150 := by omega
      have q2 : (0 : Int) ≤ (i : Int) := by omega
      have q5 : (i : Int) + 1 ≤ 9223372036854775807 := by omega
      have HLT : Hid (i < N ∧ i < 150) := hlt
      obtain ⟨RL, HRL⟩ : ∃ RL, Hid (R.length = RL) := ⟨_, rfl⟩
      have HSTL : Hid (FS w w1' b lb S R.length ro mo R (mny S R) wr) := HST
      rw [HRL.out]
      have hrl : RL ≤ 10 := by have := HFN.out.few; have := HKM.out; have := HK9.out; have := HRL.out; omega
      have HRB : Hid (RL ≤ 10) := hrl
      clear hat hfine hx hc1 hlt hiz HST hrl
      go_wp2_with fail
      refine (HCARD.out _).mono ?_
      rintro e y1 ⟨rfl, hy1⟩
      have HS1 : Hid (FS w w1' b lb S R.length ro mo R (mny S R) y1) := HSTL.out.below hy1
      obtain ⟨l0, l1, l2, l3⟩ := lim_cells (w := w) HS1.out.kn.li
      simp only [lF] at l0 l1 l2 l3
      clear hy1 t0 HSTL
      go_wp2_with fail
      refine (HASK.out _ HS1.out).mono ?_
      rintro e y2 ⟨rfl, S', hs2, hf2, hm2, hh2⟩
      have HS2 : Hid (FS w w1' b lb S' (cut KM (R.filter (fun d => decide (d ≠ c)) ++ [c])).length ro mo R (mny S R) y2) := hs2
      have HF2 : Hid (FN KM (i + 1) S' (cut KM (R.filter (fun d => decide (d ≠ c)) ++ [c]))) := hf2
      have HM2 : Hid (mny S' (cut KM (R.filter (fun d => decide (d ≠ c)) ++ [c])) = (if KM < (R.filter (fun d => decide (d ≠ c)) ++ [c]).length then (mny S (R.filter (fun d => decide (d ≠ c))) ++ [((lc S.G c).length : Int) + 1]).tail else (mny S (R.filter (fun d => decide (d ≠ c))) ++ [((lc S.G c).length : Int) + 1]))) := hm2
      have HH2 : Hid (KM < (R.filter (fun d => decide (d ≠ c)) ++ [c]).length → ∀ d ∈ (R.filter (fun d => decide (d ≠ c)) ++ [c]).head?, lc S'.G d = []) := hh2
      clear hs2 hf2 hm2 hh2 l0 l1 l2 l3 HS1 HASK HCARD
      clear y1 wr
      go_wp2_with fail
      go_loopw [15, 16, 17, 18] (fun nv lv sv_ kv wr => ∃ (k LL : Nat) (n : Int) (lo so : Option Addr) (lcap scap : Nat), nv = .int .i64 n ∧ lv = .slice lo LL lcap ∧ sv_ = .slice so LL scap ∧ kv = .int .i64 (k : Int) ∧ Hid (k ≤ RL) ∧ Hid (IL y2.heap.size y2 S R c k LL n (.slice lo LL lcap) (.slice so LL scap) wr)) (fun _ _ _ kv _ => RL + 1 - (intOf kv).toNat)
      case atStart => exact ⟨0, 0, 1, none, none, 0, 0, rfl, rfl, rfl, rfl, Nat.zero_le _, ⟨rfl, (nk_zero _ _ _).symm, World.ownsRow_nil _ _ _ _, World.ownsRow_nil _ _ _ _, Below.refl _ _, Nat.le_refl _⟩⟩
      case round =>
        obtain ⟨k, LL, n, lo, so, lcap, scap, rfl, rfl, rfl, rfl, HK, HIL⟩ := hrel
        by_cases hkl : k < RL
        · have hkg : k < R.length := by rw [HRL.out]; exact hkl
          have hfs := HS2.out.below HIL.out.bel
          obtain ⟨gr, off, eo, d0⟩ := row_at hfs.row k hkg
          obtain ⟨gm, ofm, eom, d1⟩ := many_at hfs.many k hkg
          subst eo eom
          have hlcl := lc_len S.G R[k]
          have hgl := HFN.out.len
          have q20 : (k : Int) < (RL : Int) := by omega
          have q21 : (0 : Int) ≤ (k : Int) := by omega
          have q22 : (k : Int) + 1 ≤ 9223372036854775807 := by have := HRB.out; omega
          have HKL : Hid (k < RL) := hkl
          have HLB : Hid (LL ≤ 10) := by have h1 := fk_le R c k; rw [HIL.out.len] at h1; have := HRB.out; show LL ≤ 10; omega
          by_cases hs : R[k] = c
          · rw [hs] at d0 d1 hlcl
            obtain ⟨A, HA⟩ : ∃ A, Hid (((lc S.G c).length : Int) = A) := ⟨_, rfl⟩
            have q23 : A + 1 ≤ 9223372036854775807 := by have := HLT.out; have := HA.out; omega
            have q24 : -9223372036854775808 ≤ A + 1 := by have := HA.out; omega
            rw [HA.out] at d1
            have HIN : Hid (IL y2.heap.size y2 S R c (k + 1) LL (A + 1) (.slice lo LL lcap) (.slice so LL scap) wr) := ⟨by rw [fk_eq hkg hs]; exact HIL.out.len, by rw [nk_eq hkg hs, HA.out], by rw [fk_eq hkg hs]; exact HIL.out.left, by rw [fk_eq hkg hs]; exact HIL.out.rest, HIL.out.bel, HIL.out.size⟩
            clear hfs hlcl hgl hkl hkg hs
            go_wp2_with fail
            refine ⟨⟨k + 1, LL, A + 1, lo, so, lcap, scap, rfl, rfl, rfl, by simp, (by have := HKL.out; show k + 1 ≤ RL; omega), HIN.out⟩, ?_⟩
            have := HKL.out
            simp only [intOf]; omega
          · have hs3 : (R[k].toList == c.toList) = false := tl_ne hs
            have hfk := fk_ne hkg hs
            have hnk := nk_ne (S := S) hkg hs
            obtain ⟨s, hsr⟩ : ∃ s, R[k] = s := ⟨_, rfl⟩
            rw [hsr] at d0 d1 hs3 hfk
            obtain ⟨A, HA⟩ : ∃ A, Hid (((lc S.G s).length : Int) = A) := ⟨_, rfl⟩
            rw [HA.out] at d1
            have HFK : Hid (fk R c (k + 1) = fk R c k ++ [s] ∧ nk S R c (k + 1) = nk S R c k) := ⟨hfk, hnk⟩
            obtain ⟨iS, hiS, hzS, hsS, hbS⟩ := infoS
            obtain ⟨iI, hiI, hzI, hsI, hbI⟩ := infoI
            have HRA : Hid ((wr.alloc (.cells #[.string s] tSt)).ownsRow y2.heap.size tSt 1 (.slice lo LL lcap) LL (sv (fk R c k)) ∧ y2.heap.size ≤ (wr.alloc (.cells #[.string s] tSt)).heap.size) := ⟨HIL.out.left.alloc _, by have := HIL.out.size; simp; omega⟩
            have HMA : Hid (y2.cell? ⟨gm, ofm + k, none⟩ = some (.int .i64 A) ∧ gm < y2.heap.size) := (by
              obtain ⟨g3, off3, e3, c3⟩ := many_at HS2.out.many k hkg
              injection e3 with e3
              injection e3 with e3 e4
              subst e3 e4
              rw [hsr, HA.out] at c3
              exact ⟨c3, World.block_lt_of_cell? y2 _ c3⟩)
            clear hfs hlcl hgl hkl hs hfk hnk hsr hkg d1
            go_wp2_with (first | (at_builtin; refine wpList_append_lies _ rfl _ _ _ rfl y2.heap.size tSt iS _ 1 16 Try.underlying61 hiS hzS hsS hbS rfl (by omega) _ LL (sv (fk R c k)) rfl HRA.out.1 ⟨wr.heap.size, 0, none⟩ 1 1 [.string s] rfl (by rfl) (World.news_of_block (h1_0 wr _)) (by simp [Value.oneCell']) (by omega) (by have := HLB.out; unfold maxLen; omega) (by have := HLB.out; omega) HRA.out.2 _ rfl ?_; intro gg cap2 z5 hown5 hgrow5 hat5 hlt5; have H5 : Hid (z5.ownsRow y2.heap.size tSt 1 (.slice (some ⟨gg, 0, none⟩) (LL + 1) cap2) (LL + 1) (sv (fk R c k ++ [s])) ∧ z5.ownsRow y2.heap.size tIt 1 (.slice so LL scap) LL (iv (mny S (fk R c k))) ∧ Below y2.heap.size y2 z5 ∧ y2.heap.size ≤ z5.heap.size) := ⟨by rw [show sv (fk R c k ++ [s]) = sv (fk R c k) ++ [.string s] by simp [sv]]; exact hown5, grow_other (by decide) HIL.out.left HIL.out.rest hgrow5, grow_below HIL.out.bel HIL.out.size HIL.out.left hgrow5, (grow_below HIL.out.bel HIL.out.size HIL.out.left hgrow5).size⟩; have d2 : z5.cell? ⟨gm, ofm + k, none⟩ = some (.int .i64 A) := (H5.out.2.2.1.cell HMA.out.2).trans HMA.out.1; have HRB2 : Hid ((z5.alloc (.cells #[.int .i64 A] tIt)).ownsRow y2.heap.size tIt 1 (.slice so LL scap) LL (iv (mny S (fk R c k))) ∧ y2.heap.size ≤ (z5.alloc (.cells #[.int .i64 A] tIt)).heap.size) := ⟨H5.out.2.1.alloc _, by have := H5.out.2.2.2; simp; omega⟩; clear hown5 hgrow5 hat5 hlt5 d0) | (at_builtin; refine wpList_append_lies _ rfl _ _ _ rfl y2.heap.size tIt iI _ 1 8 Try.underlying60 hiI hzI hsI hbI rfl (by omega) _ LL (iv (mny S (fk R c k))) rfl HRB2.out.1 ⟨z5.heap.size, 0, none⟩ 1 1 [.int .i64 A] rfl (by rfl) (World.news_of_block (h1_0 z5 _)) (by simp [Value.oneCell']) (by omega) (by have := HLB.out; unfold maxLen; omega) (by have := HLB.out; omega) HRB2.out.2 _ rfl ?_; intro gh cap3 z6 hown6 hgrow6 hat6 hlt6; have H6 : Hid (IL y2.heap.size y2 S R c (k + 1) (LL + 1) n (.slice (some ⟨gg, 0, none⟩) (LL + 1) cap2) (.slice (some ⟨gh, 0, none⟩) (LL + 1) cap3) z6) := ⟨by rw [HFK.out.1, List.length_append, HIL.out.len]; rfl, by rw [HFK.out.2]; exact HIL.out.n, by rw [HFK.out.1]; exact grow_other (by decide) H5.out.2.1 H5.out.1 hgrow6, by rw [HFK.out.1, show iv (mny S (fk R c k ++ [s])) = iv (mny S (fk R c k)) ++ [.int .i64 A] by simp [iv, mny, HA.out]]; exact hown6, grow_below H5.out.2.2.1 H5.out.2.2.2 H5.out.2.1 hgrow6, (grow_below H5.out.2.2.1 H5.out.2.2.2 H5.out.2.1 hgrow6).size⟩; clear hown6 hgrow6 hat6 hlt6) | fail)
            refine ⟨⟨k + 1, LL + 1, n, some ⟨gg, 0, none⟩, some ⟨gh, 0, none⟩, cap2, cap3, rfl, rfl, rfl, by simp, (by have := HKL.out; show k + 1 ≤ RL; omega), H6.out⟩, ?_⟩
            have := HKL.out
            simp only [intOf]; omega
        · obtain rfl : k = RL := by have := HK.out; omega
          have HLEN : Hid (LL ≤ 10) := by have h1 := fk_le R c k; rw [HIL.out.len] at h1; have := HRB.out; show LL ≤ 10; omega
          obtain ⟨L, HL⟩ : ∃ L, Hid (R.filter (fun d => decide (d ≠ c)) ++ [c] = L) := ⟨_, rfl⟩
          have HFL : Hid (fk R c k = R.filter (fun d => decide (d ≠ c)) ∧ n = ((lc S.G c).length : Int) + 1) := ⟨by rw [← HRL.out]; exact fk_all R c, by rw [HIL.out.n, ← HRL.out]; exact nk_all HFN.out.rw_ c⟩
          have HLL : Hid (L.length = LL + 1) := by show L.length = LL + 1; rw [← HL.out, ← HFL.out.1, List.length_append, HIL.out.len]; rfl
          rw [HL.out] at HS2 HF2 HM2 HH2
          obtain ⟨iS, hiS, hzS, hsS, hbS⟩ := infoS
          obtain ⟨iI, hiI, hzI, hsI, hbI⟩ := infoI
          have HRA : Hid ((wr.alloc (.cells #[.string c] tSt)).ownsRow y2.heap.size tSt 1 (.slice lo LL lcap) LL (sv (fk R c k)) ∧ y2.heap.size ≤ (wr.alloc (.cells #[.string c] tSt)).heap.size) := ⟨HIL.out.left.alloc _, by have := HIL.out.size; simp; omega⟩
          have q30 : decide ((k : Int) < (k : Int)) = false := decide_eq_false (by omega)
          clear hkl
          by_cases hbig : KM < LL + 1
          · have HBIG : Hid (KM < LL + 1) := hbig
            have q31 : (KM : Int) < ((LL : Int) + 1) := by omega
            clear hbig
            go_wp2_with (first | (at_builtin; refine wpList_append_lies _ rfl _ _ _ rfl y2.heap.size tSt iS _ 1 16 Try.underlying61 hiS hzS hsS hbS rfl (by omega) _ LL (sv (fk R c k)) rfl HRA.out.1 ⟨wr.heap.size, 0, none⟩ 1 1 [.string c] rfl (by rfl) (World.news_of_block (h1_0 wr _)) (by simp [Value.oneCell']) (by omega) (by have := HLEN.out; unfold maxLen; omega) (by have := HLEN.out; omega) HRA.out.2 _ rfl ?_; intro gg cap2 z5 hown5 hgrow5 hat5 hlt5; have H5 : Hid (z5.ownsRow y2.heap.size tSt 1 (.slice (some ⟨gg, 0, none⟩) (LL + 1) cap2) (LL + 1) (sv L) ∧ z5.ownsRow y2.heap.size tIt 1 (.slice so LL scap) LL (iv (mny S (fk R c k))) ∧ Below y2.heap.size y2 z5 ∧ y2.heap.size ≤ z5.heap.size) := ⟨by rw [← HL.out, ← HFL.out.1, show sv (fk R c k ++ [c]) = sv (fk R c k) ++ [.string c] by simp [sv]]; exact hown5, grow_other (by decide) HIL.out.left HIL.out.rest hgrow5, grow_below HIL.out.bel HIL.out.size HIL.out.left hgrow5, (grow_below HIL.out.bel HIL.out.size HIL.out.left hgrow5).size⟩; have HRB2 : Hid ((z5.alloc (.cells #[.int .i64 n] tIt)).ownsRow y2.heap.size tIt 1 (.slice so LL scap) LL (iv (mny S (fk R c k))) ∧ y2.heap.size ≤ (z5.alloc (.cells #[.int .i64 n] tIt)).heap.size) := ⟨H5.out.2.1.alloc _, by have := H5.out.2.2.2; simp; omega⟩; clear hown5 hgrow5 hat5 hlt5) | (at_builtin; refine wpList_append_lies _ rfl _ _ _ rfl y2.heap.size tIt iI _ 1 8 Try.underlying60 hiI hzI hsI hbI rfl (by omega) _ LL (iv (mny S (fk R c k))) rfl HRB2.out.1 ⟨z5.heap.size, 0, none⟩ 1 1 [.int .i64 n] rfl (by rfl) (World.news_of_block (h1_0 z5 _)) (by simp [Value.oneCell']) (by omega) (by have := HLEN.out; unfold maxLen; omega) (by have := HLEN.out; omega) HRB2.out.2 _ rfl ?_; intro gh cap3 z6 hown6 hgrow6 hat6 hlt6; have H6 : Hid (z6.ownsRow y2.heap.size tSt 1 (.slice (some ⟨gg, 0, none⟩) (LL + 1) cap2) (LL + 1) (sv L) ∧ z6.ownsRow y2.heap.size tIt 1 (.slice (some ⟨gh, 0, none⟩) (LL + 1) cap3) (LL + 1) (iv (mny S (fk R c k) ++ [n])) ∧ Below y2.heap.size y2 z6) := ⟨grow_other (by decide) H5.out.2.1 H5.out.1 hgrow6, by rw [show iv (mny S (fk R c k) ++ [n]) = iv (mny S (fk R c k)) ++ [.int .i64 n] by simp [iv]]; exact hown6, grow_below H5.out.2.2.1 H5.out.2.2.2 H5.out.2.1 hgrow6⟩; clear hown6 hgrow6 hat6 hlt6) | fail)
            have HFS : Hid (FS w w1' b lb S' (cut KM L).length (some ⟨gg, 0, none⟩) (some ⟨gh, 0, none⟩) L (mny S (fk R c k) ++ [n]) z6) := ⟨HS2.out.kn.below H6.out.2.2, Rd.own H6.out.1, Rd.own H6.out.2.1, keepB HS2.out.bel H6.out.2.2, HS2.out.le⟩
            obtain ⟨d, L2, HLD⟩ : ∃ d L2, Hid (L = d :: L2) := by
              have h1 := HLL.out
              cases L with
              | nil => simp at h1
              | cons d L2 => exact ⟨d, L2, rfl⟩
            have HCUT : Hid (cut KM L = L2) := by
              show cut KM L = L2
              unfold cut
              rw [if_pos (by rw [HLL.out]; exact HBIG.out), HLD.out]; rfl
            have HL2 : Hid (L2.length = LL) := by have h1 := HLL.out; rw [HLD.out] at h1; show L2.length = LL; simpa using h1
            have HD0 : Hid (lc S'.G d = [] ∧ d.size ≤ 1000000) := ⟨HH2.out (by rw [HLL.out]; exact HBIG.out) d (by rw [HLD.out]; rfl), by
              have h1 : d ∈ R.filter (fun d => decide (d ≠ c)) ++ [c] := by rw [HL.out, HLD.out]; exact List.mem_cons_self ..
              rcases List.mem_append.1 h1 with h2 | h2
              · have := HFN.out.crd d (List.mem_filter.1 h2).1; omega
              · rw [List.mem_singleton.1 h2]; have := HCS.out.1; omega⟩
            have HUS : ∀ y, Below z6.heap.size z6 y → Calls Try.prog 14 #[.pointer (some ⟨b, 0, none⟩), .agg #[.int .i64 10, .int .i64 1000, .int .i64 100000, .int .i64 100000], .string d, .int .i64 (i : Int)] y fun e z => e = .returned (.tuple #[.int .i64 0, .int .i64 0]) ∧ Below y.heap.size y z := fun y hy => by
              have h1 := (HFS.out.below hy).used HF2.out.one d HD0.out.2 (i : Int) ⟨by omega, by have := HLT.out; omega⟩
              rw [HD0.out.1] at h1
              exact h1
            have hli := HFS.out.kn.li
            simp only [lF] at hli
            obtain ⟨gr2, off2, eo2, dc0⟩ := row_at HFS.out.row 0 (by rw [HLL.out]; omega)
            injection eo2 with eo2
            injection eo2 with eo2 eo3
            subst eo2 eo3
            have dc1 : z6.cell? ⟨gg, 0, none⟩ = some (.string d) := by rw [dc0]; congr 2; have h1 := HLD.out; simp [h1]
            have klt := World.block_lt_of_cell? _ _ dc1
            have HCAP : Hid (LL + 1 ≤ cap2 ∧ LL + 1 ≤ cap3) := ⟨own_cap H6.out.1, own_cap H6.out.2.1⟩
            clear dc0
            refine Ql.region_cl (by kernel_rfl) (by kernel_rfl) ?_
            repeat (first | go_big_quiet_skip | (go_big_quiet_want; go_big_quiet_op; first | go_big_quiet_on | (refine ⟨_, fun _ _ => rfl, ?_⟩; go_big_quiet_on) | (refine ⟨_, fun _ _ => ⟨rfl, rfl⟩, ?_⟩; go_big_quiet_on)) | (refine wpQuiet_step (fun K hK => ?_); first
              | (refine Ql.q_cell (by rfl) 9 _ rfl _ _ rfl _ dc1 klt (fun y => Try.isAgg9 y) (hK _ ?_); clear hK K; simp only [Act.put, List.setIfInBounds_toArray, List.set_cons_succ, List.set_cons_zero])
              | (refine Ql.q_row (by rfl) 36 _ rfl lb rfl _ _ _ _ hli Try.underlying36 rfl infoL (hK _ ?_); clear hK K; simp only [Act.put, List.setIfInBounds_toArray, List.set_cons_succ, List.set_cons_zero])
              | (go_simp; apply Exists.intro; refine ⟨fun y hy => ?_, hK _ ?_⟩; (go_at_call 14; exact Ql.cl_of hy (HUS _ hy)); clear hK K)
              | fail))
            refine wpQuiet_nil ?_
            intro y7 hy7
            have HF7 : Hid (FS w w1' b lb S' L2.length (some ⟨gg, 0, none⟩) (some ⟨gh, 0, none⟩) L (mny S (fk R c k) ++ [n]) y7) := by
              have h1 := HFS.out.below hy7
              rw [HCUT.out] at h1
              exact h1
            clear hli dc1 klt hy7 HUS q31 q30 q0 q1
            obtain ⟨LN, HLN⟩ : ∃ LN, Hid (LL + 1 = LN) := ⟨_, rfl⟩
            rw [HLN.out]
            have s1 : 2 ≤ LN := by have := HLN.out; have := HBIG.out; have := HKM.out; omega
            have s2 : LN ≤ cap2 := by have := HLN.out; have := HCAP.out; omega
            have s3 : LN ≤ cap3 := by have := HLN.out; have := HCAP.out; omega
            obtain ⟨T, HT⟩ : ∃ T, Hid (cut KM L = T) := ⟨_, rfl⟩
            have HT2 : Hid (L2 = T) := HCUT.out.symm.trans HT.out
            have HTL : Hid (T.length = LL) := by show T.length = LL; rw [← HT2.out]; exact HL2.out
            have HFNT : Hid (FN KM (i + 1) S' T) := by have h1 := HF2.out; rw [HT.out] at h1; exact h1
            have HFT : Hid (FS w w1' b lb S' LL (some ⟨gg, 1, none⟩) (some ⟨gh, 1, none⟩) T (mny S' T) y7) := (by
              have h1 := HF7.out
              have h2 := HM2.out
              rw [HT.out, if_pos (by rw [HLL.out]; exact HBIG.out), ← HFL.out.1, ← HFL.out.2] at h2
              rw [HLD.out, HT2.out, HTL.out] at h1
              obtain ⟨m0, M0, hM0⟩ : ∃ m0 M0, mny S (fk R c k) ++ [n] = m0 :: M0 := by cases hh : mny S (fk R c k) ++ [n] with
                | nil => simp at hh
                | cons a l => exact ⟨a, l, rfl⟩
              rw [hM0, List.tail_cons] at h2
              rw [hM0] at h1
              rw [h2]
              exact ⟨h1.kn, h1.row.tail, h1.many.tail, h1.bel, h1.le⟩)
            go_wp2_with fail
            all_goals first | (exfalso; omega) | skip
            rw [show LN - 1 = LL by have := HLN.out; omega]
            refine (len_any HFT.out.kn.bk).mono ?_
            rintro e y8 ⟨rfl, rfl⟩
            obtain ⟨of1, HOF⟩ : ∃ o, Hid ((⟨gg, 1, none⟩ : Addr) = ⟨gg, o, none⟩ ∧ (⟨gh, 1, none⟩ : Addr) = ⟨gh, o, none⟩) := ⟨1, rfl, rfl⟩
            rw [HOF.out.1, HOF.out.2] at HFT
            rw [HOF.out.1, HOF.out.2]
            obtain ⟨X, HX⟩ : ∃ X, Hid (LL = X) := ⟨_, rfl⟩
            have HTX : Hid (T.length = X) := by show T.length = X; rw [HTL.out]; exact HX.out
            rw [HX.out] at HFT
            rw [HX.out]
            have HXB : Hid (X ≤ 11) := by have := HX.out; have := HLEN.out; show X ≤ 11; omega
            obtain ⟨rca, hrca⟩ : ∃ x, cap2 - 1 = x := ⟨_, rfl⟩
            obtain ⟨mca, hmca⟩ : ∃ x, cap3 - 1 = x := ⟨_, rfl⟩
            clear hrca hmca
            go_wp2_with fail
            go_loopw [21, 22, 23] (fun kv _ _ wr => ∃ k2 : Nat, kv = .int .i64 (k2 : Int) ∧ Hid (k2 ≤ X) ∧ Hid (Below y8.heap.size y8 wr)) (fun kv _ _ _ => X + 1 - (intOf kv).toNat)
            case atStart => exact ⟨0, rfl, Nat.zero_le _, Below.refl _ _⟩
            case round =>
              obtain ⟨k2, rfl, HK2, HB2⟩ := hrel
              by_cases hk2 : k2 < X
              · have hkt : k2 < T.length := by rw [HTX.out]; exact hk2
                have HFW : Hid (FS w w1' b lb S' X (some ⟨gg, of1, none⟩) (some ⟨gh, of1, none⟩) T (mny S' T) wr) := HFT.out.below HB2.out
                obtain ⟨gr3, off3, eo3, c0⟩ := row_at HFW.out.row k2 hkt
                injection eo3 with eo3
                injection eo3 with eo3 eo4
                subst eo3 eo4
                obtain ⟨gr4, off4, eo4, c1⟩ := many_at HFW.out.many k2 hkt
                injection eo4 with eo4
                injection eo4 with eo4 eo5
                subst eo4 eo5
                have hsz := HFNT.out.crd T[k2] (List.getElem_mem hkt)
                obtain ⟨s, hs⟩ : ∃ s, T[k2] = s := ⟨_, rfl⟩
                rw [hs] at c0 c1 hsz
                have HUS : ∀ y, Below wr.heap.size wr y → Calls Try.prog 14 #[.pointer (some ⟨b, 0, none⟩), .agg #[.int .i64 10, .int .i64 1000, .int .i64 100000, .int .i64 100000], .string s, .int .i64 (i : Int)] y fun e z => e = .returned (.tuple #[.int .i64 ((lc S'.G s).length : Int), .int .i64 ((lc S'.G s).length : Int)]) ∧ Below y.heap.size y z := fun y hy => (HFW.out.below hy).used HF2.out.one s (by omega) (i : Int) ⟨by omega, by have := HLT.out; omega⟩
                generalize ((lc S'.G s).length : Int) = A2 at c1 HUS
                have hli := HFW.out.kn.li
                simp only [lF] at hli
                have klt := World.block_lt_of_cell? _ _ c0
                have klt1 := World.block_lt_of_cell? _ _ c1
                have qk0 : (k2 : Int) < (X : Int) := by omega
                have qk1 : (0 : Int) ≤ (k2 : Int) := by omega
                have qk2 : (k2 : Int) + 1 ≤ 9223372036854775807 := by have := HXB.out; omega
                have HKX : Hid (k2 < X) := hk2
                clear hs hsz hkt hk2
                go_wp2_with fail
                refine Ql.region_cl (by kernel_rfl) (by kernel_rfl) ?_
                repeat (first | go_big_quiet_skip | (go_big_quiet_want; go_big_quiet_op; first | go_big_quiet_on | (refine ⟨_, fun _ _ => rfl, ?_⟩; go_big_quiet_on) | (refine ⟨_, fun _ _ => ⟨rfl, rfl⟩, ?_⟩; go_big_quiet_on)) | (refine wpQuiet_step (fun K hK => ?_); first
                  | (refine Ql.q_cell (by rfl) 9 _ rfl _ _ rfl _ c0 klt (fun y => Try.isAgg9 y) (hK _ ?_); clear hK K; simp only [Act.put, List.setIfInBounds_toArray, List.set_cons_succ, List.set_cons_zero])
                  | (refine Ql.q_row (by rfl) 36 _ rfl lb rfl _ _ _ _ hli Try.underlying36 rfl infoL (hK _ ?_); clear hK K; simp only [Act.put, List.setIfInBounds_toArray, List.set_cons_succ, List.set_cons_zero])
                  | (go_simp; apply Exists.intro; refine ⟨fun y hy => ?_, hK _ ?_⟩; (go_at_call 14; exact Ql.cl_of hy (HUS _ hy)); clear hK K)
                  | fail))
                refine wpQuiet_nil ?_
                intro y9 hy9
                have HB9 : Hid (Below y8.heap.size y8 y9) := keepB HB2.out hy9
                have c2 : y9.cell? ⟨gh, of1 + k2, none⟩ = some (.int .i64 A2) := (hy9.cell klt1).trans c1
                clear hli c0 c1 klt klt1 hy9 HUS
                go_wp2_with fail
                refine ⟨⟨k2 + 1, by simp, (by have := HKX.out; show k2 + 1 ≤ X; omega), HB9.out⟩, ?_⟩
                have := HKX.out
                simp only [intOf]; omega
              · have HFE : Hid (FS w w1' b lb S' T.length (some ⟨gg, of1, none⟩) (some ⟨gh, of1, none⟩) T (mny S' T) wr) := by have h1 := HFT.out.below HB2.out; rw [← HTX.out] at h1; exact h1
                obtain rfl : k2 = X := by have := HK2.out; omega
                have qz : decide ((k2 : Int) < (k2 : Int)) = false := decide_eq_false (by omega)
                clear hk2
                go_wp2_with fail
                refine ⟨⟨i + 1, S', T, some ⟨gg, of1, none⟩, some ⟨gh, of1, none⟩, _, _, by simp, by rw [HTX.out], by rw [HTX.out], ⟨by have := HLT.out; omega, by have := HLT.out; omega⟩, HFE.out, HFNT.out⟩, ?_⟩
                have := HLT.out
                simp only [intOf]; omega
          · have HBIG : Hid (¬ KM < LL + 1) := hbig
            have q31 : decide ((KM : Int) < ((LL : Int) + 1)) = false := decide_eq_false (by omega)
            clear hbig
            go_wp2_with (first | (at_builtin; refine wpList_append_lies _ rfl _ _ _ rfl y2.heap.size tSt iS _ 1 16 Try.underlying61 hiS hzS hsS hbS rfl (by omega) _ LL (sv (fk R c k)) rfl HRA.out.1 ⟨wr.heap.size, 0, none⟩ 1 1 [.string c] rfl (by rfl) (World.news_of_block (h1_0 wr _)) (by simp [Value.oneCell']) (by omega) (by have := HLEN.out; unfold maxLen; omega) (by have := HLEN.out; omega) HRA.out.2 _ rfl ?_; intro gg cap2 z5 hown5 hgrow5 hat5 hlt5; have H5 : Hid (z5.ownsRow y2.heap.size tSt 1 (.slice (some ⟨gg, 0, none⟩) (LL + 1) cap2) (LL + 1) (sv L) ∧ z5.ownsRow y2.heap.size tIt 1 (.slice so LL scap) LL (iv (mny S (fk R c k))) ∧ Below y2.heap.size y2 z5 ∧ y2.heap.size ≤ z5.heap.size) := ⟨by rw [← HL.out, ← HFL.out.1, show sv (fk R c k ++ [c]) = sv (fk R c k) ++ [.string c] by simp [sv]]; exact hown5, grow_other (by decide) HIL.out.left HIL.out.rest hgrow5, grow_below HIL.out.bel HIL.out.size HIL.out.left hgrow5, (grow_below HIL.out.bel HIL.out.size HIL.out.left hgrow5).size⟩; have HRB2 : Hid ((z5.alloc (.cells #[.int .i64 n] tIt)).ownsRow y2.heap.size tIt 1 (.slice so LL scap) LL (iv (mny S (fk R c k))) ∧ y2.heap.size ≤ (z5.alloc (.cells #[.int .i64 n] tIt)).heap.size) := ⟨H5.out.2.1.alloc _, by have := H5.out.2.2.2; simp; omega⟩; clear hown5 hgrow5 hat5 hlt5) | (at_builtin; refine wpList_append_lies _ rfl _ _ _ rfl y2.heap.size tIt iI _ 1 8 Try.underlying60 hiI hzI hsI hbI rfl (by omega) _ LL (iv (mny S (fk R c k))) rfl HRB2.out.1 ⟨z5.heap.size, 0, none⟩ 1 1 [.int .i64 n] rfl (by rfl) (World.news_of_block (h1_0 z5 _)) (by simp [Value.oneCell']) (by omega) (by have := HLEN.out; unfold maxLen; omega) (by have := HLEN.out; omega) HRB2.out.2 _ rfl ?_; intro gh cap3 z6 hown6 hgrow6 hat6 hlt6; have H6 : Hid (z6.ownsRow y2.heap.size tSt 1 (.slice (some ⟨gg, 0, none⟩) (LL + 1) cap2) (LL + 1) (sv L) ∧ z6.ownsRow y2.heap.size tIt 1 (.slice (some ⟨gh, 0, none⟩) (LL + 1) cap3) (LL + 1) (iv (mny S (fk R c k) ++ [n])) ∧ Below y2.heap.size y2 z6) := ⟨grow_other (by decide) H5.out.2.1 H5.out.1 hgrow6, by rw [show iv (mny S (fk R c k) ++ [n]) = iv (mny S (fk R c k)) ++ [.int .i64 n] by simp [iv]]; exact hown6, grow_below H5.out.2.2.1 H5.out.2.2.2 H5.out.2.1 hgrow6⟩; clear hown6 hgrow6 hat6 hlt6) | fail)
            obtain ⟨T, HT⟩ : ∃ T, Hid (cut KM L = T) := ⟨_, rfl⟩
            have HT2 : Hid (L = T) := (by
              show L = T
              have h1 := HT.out
              unfold cut at h1
              rw [if_neg (by rw [HLL.out]; exact HBIG.out)] at h1
              exact h1)
            have HTL : Hid (T.length = LL + 1) := by show T.length = LL + 1; rw [← HT2.out]; exact HLL.out
            have HFNT : Hid (FN KM (i + 1) S' T) := by have h1 := HF2.out; rw [HT.out] at h1; exact h1
            have HFT : Hid (FS w w1' b lb S' (LL + 1) (some ⟨gg, 0, none⟩) (some ⟨gh, 0, none⟩) T (mny S' T) z6) := (by
              have h2 := HM2.out
              rw [HT.out, if_neg (by rw [HLL.out]; exact HBIG.out), ← HFL.out.1, ← HFL.out.2] at h2
              have h0 := HS2.out.kn.below H6.out.2.2
              rw [HT.out, HTL.out] at h0
              rw [h2, ← HT2.out]
              exact ⟨h0, Rd.own H6.out.1, Rd.own H6.out.2.1, keepB HS2.out.bel H6.out.2.2, HS2.out.le⟩)
            refine (len_any HFT.out.kn.bk).mono ?_
            rintro e y8 ⟨rfl, rfl⟩
            obtain ⟨of1, HOF⟩ : ∃ o, Hid ((⟨gg, 0, none⟩ : Addr) = ⟨gg, o, none⟩ ∧ (⟨gh, 0, none⟩ : Addr) = ⟨gh, o, none⟩) := ⟨0, rfl, rfl⟩
            rw [HOF.out.1, HOF.out.2] at HFT
            rw [HOF.out.1, HOF.out.2]
            obtain ⟨X, HX⟩ : ∃ X, Hid (LL + 1 = X) := ⟨_, rfl⟩
            have HTX : Hid (T.length = X) := by show T.length = X; rw [HTL.out]; exact HX.out
            rw [HX.out] at HFT
            rw [HX.out]
            have HXB : Hid (X ≤ 11) := by have := HX.out; have := HLEN.out; show X ≤ 11; omega
            obtain ⟨rca, hrca⟩ : ∃ x, cap2 = x := ⟨_, rfl⟩
            obtain ⟨mca, hmca⟩ : ∃ x, cap3 = x := ⟨_, rfl⟩
            clear hrca hmca
            go_wp2_with fail
            go_loopw [21, 22, 23] (fun kv _ _ wr => ∃ k2 : Nat, kv = .int .i64 (k2 : Int) ∧ Hid (k2 ≤ X) ∧ Hid (Below y8.heap.size y8 wr)) (fun kv _ _ _ => X + 1 - (intOf kv).toNat)
            case atStart => exact ⟨0, rfl, Nat.zero_le _, Below.refl _ _⟩
            case round =>
              obtain ⟨k2, rfl, HK2, HB2⟩ := hrel
              by_cases hk2 : k2 < X
              · have hkt : k2 < T.length := by rw [HTX.out]; exact hk2
                have HFW : Hid (FS w w1' b lb S' X (some ⟨gg, of1, none⟩) (some ⟨gh, of1, none⟩) T (mny S' T) wr) := HFT.out.below HB2.out
                obtain ⟨gr3, off3, eo3, c0⟩ := row_at HFW.out.row k2 hkt
                injection eo3 with eo3
                injection eo3 with eo3 eo4
                subst eo3 eo4
                obtain ⟨gr4, off4, eo4, c1⟩ := many_at HFW.out.many k2 hkt
                injection eo4 with eo4
                injection eo4 with eo4 eo5
                subst eo4 eo5
                have hsz := HFNT.out.crd T[k2] (List.getElem_mem hkt)
                obtain ⟨s, hs⟩ : ∃ s, T[k2] = s := ⟨_, rfl⟩
                rw [hs] at c0 c1 hsz
                have HUS : ∀ y, Below wr.heap.size wr y → Calls Try.prog 14 #[.pointer (some ⟨b, 0, none⟩), .agg #[.int .i64 10, .int .i64 1000, .int .i64 100000, .int .i64 100000], .string s, .int .i64 (i : Int)] y fun e z => e = .returned (.tuple #[.int .i64 ((lc S'.G s).length : Int), .int .i64 ((lc S'.G s).length : Int)]) ∧ Below y.heap.size y z := fun y hy => (HFW.out.below hy).used HF2.out.one s (by omega) (i : Int) ⟨by omega, by have := HLT.out; omega⟩
                generalize ((lc S'.G s).length : Int) = A2 at c1 HUS
                have hli := HFW.out.kn.li
                simp only [lF] at hli
                have klt := World.block_lt_of_cell? _ _ c0
                have klt1 := World.block_lt_of_cell? _ _ c1
                have qk0 : (k2 : Int) < (X : Int) := by omega
                have qk1 : (0 : Int) ≤ (k2 : Int) := by omega
                have qk2 : (k2 : Int) + 1 ≤ 9223372036854775807 := by have := HXB.out; omega
                have HKX : Hid (k2 < X) := hk2
                clear hs hsz hkt hk2
                go_wp2_with fail
                refine Ql.region_cl (by kernel_rfl) (by kernel_rfl) ?_
                repeat (first | go_big_quiet_skip | (go_big_quiet_want; go_big_quiet_op; first | go_big_quiet_on | (refine ⟨_, fun _ _ => rfl, ?_⟩; go_big_quiet_on) | (refine ⟨_, fun _ _ => ⟨rfl, rfl⟩, ?_⟩; go_big_quiet_on)) | (refine wpQuiet_step (fun K hK => ?_); first
                  | (refine Ql.q_cell (by rfl) 9 _ rfl _ _ rfl _ c0 klt (fun y => Try.isAgg9 y) (hK _ ?_); clear hK K; simp only [Act.put, List.setIfInBounds_toArray, List.set_cons_succ, List.set_cons_zero])
                  | (refine Ql.q_row (by rfl) 36 _ rfl lb rfl _ _ _ _ hli Try.underlying36 rfl infoL (hK _ ?_); clear hK K; simp only [Act.put, List.setIfInBounds_toArray, List.set_cons_succ, List.set_cons_zero])
                  | (go_simp; apply Exists.intro; refine ⟨fun y hy => ?_, hK _ ?_⟩; (go_at_call 14; exact Ql.cl_of hy (HUS _ hy)); clear hK K)
                  | fail))
                refine wpQuiet_nil ?_
                intro y9 hy9
                have HB9 : Hid (Below y8.heap.size y8 y9) := keepB HB2.out hy9
                have c2 : y9.cell? ⟨gh, of1 + k2, none⟩ = some (.int .i64 A2) := (hy9.cell klt1).trans c1
                clear hli c0 c1 klt klt1 hy9 HUS
                go_wp2_with fail
                refine ⟨⟨k2 + 1, by simp, (by have := HKX.out; show k2 + 1 ≤ X; omega), HB9.out⟩, ?_⟩
                have := HKX.out
                simp only [intOf]; omega
              · have HFE : Hid (FS w w1' b lb S' T.length (some ⟨gg, of1, none⟩) (some ⟨gh, of1, none⟩) T (mny S' T) wr) := by have h1 := HFT.out.below HB2.out; rw [← HTX.out] at h1; exact h1
                obtain rfl : k2 = X := by have := HK2.out; omega
                have qz : decide ((k2 : Int) < (k2 : Int)) = false := decide_eq_false (by omega)
                clear hk2
                go_wp2_with fail
                refine ⟨⟨i + 1, S', T, some ⟨gg, of1, none⟩, some ⟨gh, of1, none⟩, _, _, by simp, by rw [HTX.out], by rw [HTX.out], ⟨by have := HLT.out; omega, by have := HLT.out; omega⟩, HFE.out, HFNT.out⟩, ?_⟩
                have := HLT.out
                simp only [intOf]; omega
    · have HNL : Hid (¬ (i < N ∧ i < 150)) := hlt
      have q2 : (0 : Int) ≤ (i : Int) := by omega
      by_cases hN : i < N
      · have b1 : (i : Int) < (N : Int) := by omega
        have b2 : decide ((i : Int) < 150) = false := decide_eq_false (by omega)
        clear hlt hN
        go_wp2_with fail
        go_ret
        exact ⟨rfl, HST.out.bel⟩
      · have b1 : decide ((i : Int) < (N : Int)) = false := decide_eq_false (by omega)
        have b2 : ¬ (i : Int) < (N : Int) := by omega
        clear hlt hN
        go_wp2_with fail
        all_goals first | (exfalso; have := HNL.out; omega) | (go_ret; exact ⟨rfl, HST.out.bel⟩)
end Go.Proofs.Ytmaikkhemhonhaa.Ep
