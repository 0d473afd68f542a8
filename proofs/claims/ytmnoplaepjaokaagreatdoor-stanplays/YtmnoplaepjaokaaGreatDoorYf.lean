/- Numbers: the document's. -/
import Derived.Test.YtmnoplaepjaokaaGreatDoorYd
namespace Go.Proofs.YtmnoplaepjaokaaGreatDoor.Yf
set_option linter.unusedVariables false
set_option linter.unusedSimpArgs false
open Go.RowKit Lib0 Kb Xp Ya Yb Yc Yd
abbrev tR : TypeId := 88
abbrev tB : TypeId := 4
def oC (n : Nat) (f : Nat → Bool) : Array Value := ((List.range n).map fun i => Value.bool (f i)).toArray
theorem oC_size (n : Nat) (v : Nat → Bool) : (oC n v).size = n := by simp [oC]
theorem oC_get (n : Nat) (v : Nat → Bool) (i : Nat) (h : i < n) : (oC n v)[i]? = some (.bool (v i)) := by simp [oC, h]
theorem oC_set (n : Nat) (v : Nat → Bool) (k : Nat) (b : Bool) (h : k < n) : (oC n v).setIfInBounds k (.bool b) = oC n (upd v k b) := by
  apply Array.ext_getElem?
  intro i
  by_cases hi : i < n
  · rw [oC_get _ _ _ hi, Array.getElem?_setIfInBounds]
    by_cases e : k = i
    · subst e; simp [upd, oC_size, h]
    · rw [if_neg e, oC_get _ _ _ hi, upd_ne _ _ (fun x => e x.symm)]
  · rw [Array.getElem?_eq_none (by simp [oC_size]; omega), Array.getElem?_eq_none (by simp [oC_size]; omega)]
theorem oC_made (n : Nat) : madeCells #[Value.bool false] n = oC n (fun _ => false) := by
  apply Array.ext
  · simp [madeCells, oC]
  · intro i a1 a2; simp [madeCells, oC, Nat.mod_one]
structure Rm (w : World) (b d : Nat) (S : St) : Prop where
  blk : w.heap[b]? = some (.cells #[.int .i64 (S.mo : Int), .int .i64 (S.last : Int), .slice (some ⟨d, 0, none⟩) (S.mo + 1) (S.mo + 1), .int .i64 (S.many : Int)] tR)
  row : w.heap[d]? = some (.cells (oC (S.mo + 1) S.out) tB)
theorem Rm.ne {w : World} {b d : Nat} {S : St} (h : Rm w b d S) : b ≠ d := ty_ne h.blk h.row (by decide)
theorem Rm.lt {w : World} {b d : Nat} {S : St} (h : Rm w b d S) : b < w.heap.size ∧ d < w.heap.size := ⟨(Array.getElem?_eq_some_iff.1 h.blk).1, (Array.getElem?_eq_some_iff.1 h.row).1⟩
theorem Rm.keep {w x : World} {b d : Nat} {S : St} (h : Rm w b d S) (hb : x.heap[b]? = w.heap[b]?) (hd : x.heap[d]? = w.heap[d]?) : Rm x b d S := ⟨hb.trans h.blk, hd.trans h.row⟩
theorem Rm.below {w x : World} {b d : Nat} {S : St} (h : Rm w b d S) (hb : Below w.heap.size w x) : Rm x b d S := h.keep (hb.block _ h.lt.1) (hb.block _ h.lt.2)
theorem Rm.c {w : World} {b d : Nat} {S : St} (h : Rm w b d S) : w.cell? ⟨b, 0, none⟩ = some (.int .i64 (S.mo : Int)) ∧ w.cell? ⟨b, 1, none⟩ = some (.int .i64 (S.last : Int)) ∧ w.cell? ⟨b, 2, none⟩ = some (.slice (some ⟨d, 0, none⟩) (S.mo + 1) (S.mo + 1)) ∧ w.cell? ⟨b, 3, none⟩ = some (.int .i64 (S.many : Int)) := by
  have := h.blk
  refine ⟨?_, ?_, ?_, ?_⟩ <;> simp [World.cell?, this]
theorem Rm.at {w : World} {b d : Nat} {S : St} (h : Rm w b d S) {k : Nat} (hk : k ≤ S.mo) : w.cell? ⟨d, k, none⟩ = some (.bool (S.out k)) := by
  rw [cell_of_row _ _ _ _ _ _ h.row]; exact oC_get _ _ _ (by omega)
theorem Rm.fz {w : World} {b d : Nat} {S : St} (h : Rm w b d S) (k : Nat) : w.frozen? ⟨b, k, none⟩ = false ∧ w.frozen? ⟨d, k, none⟩ = false := ⟨frozen_of_row w _ _ _ _ h.blk, frozen_of_row w _ _ _ _ h.row⟩
theorem Rm.many {w : World} {b d : Nat} {S : St} (h : Rm w b d S) (n : Nat) : Rm (w.setCell ⟨b, 3, none⟩ (.int .i64 (n : Int))) b d ⟨S.mo, S.last, n, S.out⟩ :=
  ⟨setCell_heap h.blk 3 _, (setCell_ne (p := ⟨b, 3, none⟩) h.ne _).trans h.row⟩
theorem Rm.last {w : World} {b d : Nat} {S : St} (h : Rm w b d S) (n : Nat) : Rm (w.setCell ⟨b, 1, none⟩ (.int .i64 (n : Int))) b d ⟨S.mo, n, S.many, S.out⟩ :=
  ⟨setCell_heap h.blk 1 _, (setCell_ne (p := ⟨b, 1, none⟩) h.ne _).trans h.row⟩
theorem Rm.put {w : World} {b d : Nat} {S : St} (h : Rm w b d S) {k : Nat} (hk : k ≤ S.mo) (x : Bool) : Rm (w.setCell ⟨d, k, none⟩ (.bool x)) b d ⟨S.mo, S.last, S.many, upd S.out k x⟩ :=
  ⟨(setCell_ne (p := ⟨d, k, none⟩) (fun e => h.ne e.symm) _).trans h.blk, by rw [setCell_heap h.row, oC_set _ _ _ _ (by omega)]⟩
theorem newr_bad (n : Int) (w : World) (h : isNum n = false) : Calls Tryz.prog 11 #[.int .i64 n] w fun e w' => e = .returned (.tuple #[.pointer none, .int .i64 1]) ∧ w' = w := by
  by_cases h1 : n < 1
  · clear h
    go_enter Tryz.func11, Tryz.ntmps11
    go_wp2
    go_ret2
    exact ⟨rfl, rfl⟩
  · have h2 : 999999 < n := by simp [isNum] at h; omega
    clear h
    go_enter Tryz.func11, Tryz.ntmps11
    go_wp2
    go_ret2
    exact ⟨rfl, rfl⟩
theorem infoB : (Tryz.prog.info? tB).map (fun i => (i.zero, i.size, i.bytes)) = some (some (.bool false), 1, 1) := by kernel_rfl
set_option maxRecDepth 100000 in
theorem newr_good (mo : Nat) (w : World) (h1 : 1 ≤ mo) (h2 : mo ≤ 999999) : Calls Tryz.prog 11 #[.int .i64 (mo : Int)] w fun e w' => ∃ b d, e = .returned (.tuple #[.pointer (some ⟨b, 0, none⟩), .int .i64 0]) ∧ Rm w' b d (fresh mo) ∧ Below w.heap.size w w' ∧ w.heap.size ≤ b ∧ w.heap.size ≤ d := by
  have hmk := run_make_row' (P := Tryz.prog) 61 tB (.bool false) 1 Tryz.underlying61 infoB rfl .i64 .i64 (mo + 1) (by omega) (by omega)
  have q1 : ¬ (mo : Int) < 1 := by omega
  have q2 : ¬ 999999 < (mo : Int) := by omega
  rw [show ((mo + 1 : Nat) : Int) = (mo : Int) + 1 from rfl] at hmk
  go_enter Tryz.func11, Tryz.ntmps11
  go_wp2_with fail
  go_ret2
  refine ⟨w.heap.size + 1, rfl, w.heap.size, ⟨h2_1 _ _ _, ?_⟩, below_two _ _ _, by omega, Nat.le_refl _⟩
  rw [h2_0, oC_made]
  rfl
set_option maxRecDepth 100000 in
theorem takenr_any {w : World} {b d : Nat} {S : St} (h : Rm w b d S) (k : Int) : Calls Tryz.prog 42 #[.pointer (some ⟨b, 0, none⟩), .int .i64 k] w fun e w' => e = .returned (.bool (isOut S k)) ∧ w' = w := by
  obtain ⟨c0, c1, c2, c3⟩ := h.c
  by_cases h1 : k < 1
  · have e : isOut S k = false := by simp [isOut]; omega
    have h1' : ¬ 1 ≤ k := by omega
    rw [e]
    clear h e c2 c3 c1
    generalize (S.mo : Int) = M at *
    go_enter Tryz.func42, Tryz.ntmps42
    go_wp2
    go_ret
    exact ⟨rfl, rfl⟩
  · by_cases h2 : (S.mo : Int) < k
    · have e : isOut S k = false := by simp [isOut]; omega
      have h1' : 1 ≤ k := by omega
      have h2' : ¬ k ≤ (S.mo : Int) := by omega
      rw [e]
      clear h e c2 c3 c1
      generalize (S.mo : Int) = M at *
      go_enter Tryz.func42, Tryz.ntmps42
      go_wp2
      go_ret
      exact ⟨rfl, rfl⟩
    · obtain ⟨K, rfl⟩ : ∃ K : Nat, k = (K : Int) := ⟨k.toNat, by omega⟩
      have hK : K ≤ S.mo := by omega
      have x0 := h.at hK
      have h1' : (1 : Int) ≤ (K : Int) := by omega
      have h2' : (K : Int) ≤ (S.mo : Int) := by omega
      have e : isOut S (K : Int) = S.out K := by simp [isOut, h2']; omega
      have q : (K : Int) < ((S.mo + 1 : Nat) : Int) := by omega
      rw [e]
      clear h e c3 c1 hK h1 h2
      generalize S.mo + 1 = L at *
      generalize (S.mo : Int) = M at *
      generalize S.out K = x at *
      go_enter Tryz.func42, Tryz.ntmps42
      go_wp2
      go_ret
      exact ⟨rfl, rfl⟩
theorem freer_any {w : World} {b d : Nat} {S : St} (h : Rm w b d S) (ho : OK S) (k : Int) : Calls Tryz.prog 41 #[.pointer (some ⟨b, 0, none⟩), .int .i64 k] w fun e w' => e = .returned (.int .i64 (frE S k)) ∧ Rm w' b d (fr S k) ∧ FrP (fun g => g = b ∨ g = d) w w' := by
  have HC := takenr_any h k
  by_cases ht : isOut S k = true
  · have e1 : frE S k = 0 := by simp [frE, ht]
    have e2 : fr S k = ⟨S.mo, S.last, S.many - 1, upd S.out k.toNat false⟩ := by simp [fr, ht]
    rw [ht] at HC
    rw [e1, e2]
    obtain ⟨h1, h2, h3⟩ := isOut_at ht
    obtain ⟨K, rfl⟩ : ∃ K : Nat, k = (K : Int) := ⟨k.toNat, by omega⟩
    have hK : K ≤ S.mo := by omega
    rw [show ((K : Int).toNat) = K by omega] at h3 ⊢
    obtain ⟨c0, c1, c2, c3⟩ := h.c
    have x0 := h.at hK
    have fd := (h.fz K).2
    have fb := (h.fz 3).1
    have HR := h.put hK false
    have HM : Hid (1 ≤ S.many) := ho.pos ht
    have HM2 : Hid (S.many ≤ 999999) := Nat.le_trans ho.many_le ho.mo2
    have HH2 : Hid (Rm ((w.setCell ⟨d, K, none⟩ (.bool false)).setCell ⟨b, 3, none⟩ (.int .i64 ((S.many - 1 : Nat) : Int))) b d ⟨S.mo, S.last, S.many - 1, upd S.out K false⟩) := HR.many _
    have HNE : Hid (b ≠ d) := h.ne
    have c3' : (w.setCell ⟨d, K, none⟩ (.bool false)).cell? ⟨b, 3, none⟩ = some (.int .i64 (S.many : Int)) := HR.c.2.2.2
    have f3' : (w.setCell ⟨d, K, none⟩ (.bool false)).frozen? ⟨b, 3, none⟩ = false := (HR.fz 3).1
    have q : (K : Int) < ((S.mo + 1 : Nat) : Int) := by omega
    have q1 : (S.many : Int) ≤ 999999 := by have := HM2.out; omega
    have q0 : (1 : Int) ≤ (S.many : Int) := by have := HM.out; omega
    have HE : Hid ((S.many : Int) - 1 = ((S.many - 1 : Nat) : Int)) := by have := HM.out; show (S.many : Int) - 1 = _; omega
    clear h ho h1 h2 h3 hK e1 e2 ht HR HM HM2
    generalize S.mo + 1 = L at *
    obtain ⟨M, HMM⟩ : ∃ M : Int, Hid ((S.many : Int) = M) := ⟨_, rfl⟩
    rw [HMM.out] at c3 c3' q1 q0 HE
    go_enter Tryz.func41, Tryz.ntmps41
    go_wp2_with fail
    refine HC.mono ?_
    rintro e y ⟨rfl, hy⟩
    rw [hy]
    clear hy HC
    go_wp2_with fail
    go_ret
    rw [HE.out]
    exact ⟨rfl, HH2.out, FrP.set (B := fun g => g = b ∨ g = d) (p := ⟨b, 3, none⟩) (FrP.set (B := fun g => g = b ∨ g = d) (p := ⟨d, K, none⟩) (FrP.refl _ w) (.inl (.inr rfl)) _) (.inl (.inl rfl)) _⟩
  · have ht2 : isOut S k = false := by simpa using ht
    have e1 : frE S k = 181 := by simp [frE, ht2]
    have e2 : fr S k = S := by simp [fr, ht2]
    rw [ht2] at HC
    rw [e1, e2]
    have HH : Hid (Rm w b d S) := h
    clear h ho e1 e2 ht ht2
    go_enter Tryz.func41, Tryz.ntmps41
    go_wp2_with fail
    refine HC.mono ?_
    rintro e y ⟨rfl, hy⟩
    rw [hy]
    clear hy HC
    go_wp2_with fail
    go_ret
    exact ⟨rfl, HH.out, FrP.refl _ _⟩
set_option maxRecDepth 100000 in
set_option maxHeartbeats 1600000 in
theorem taker_any {w : World} {b d : Nat} {S : St} (h : Rm w b d S) (ho : OK S) : Calls Tryz.prog 75 #[.pointer (some ⟨b, 0, none⟩)] w fun e w' => e = .returned (.tuple #[.int .i64 ((nxt S : Nat) : Int), .int .i64 (tkE S)]) ∧ Rm w' b d (tk S) ∧ FrP (fun g => g = b ∨ g = d) w w' := by
  obtain ⟨c0, c1, c2, c3⟩ := h.c
  have hsp := spent ho
  have HL : Hid (S.mo ≤ 999999) := ho.mo2
  by_cases hs : S.many = S.mo
  · have hn := hsp.2 hs
    have e1 : tkE S = 180 := by rw [tkE, if_pos hn]
    have e2 : tk S = S := by rw [tk, if_pos hn]
    rw [e1, e2, hn]
    rw [hs] at c3
    have HH : Hid (∀ n, Rm (w.drewN n) b d S ∧ Below w.heap.size w (w.drewN n)) := fun n => ⟨h.below (Kb.below_drewN (Below.refl _ w) n), Kb.below_drewN (Below.refl _ w) n⟩
    clear h ho hsp hs hn e1 e2
    generalize S.mo + 1 = L at *
    generalize (S.mo : Int) = M at *
    go_enter Tryz.func75, Tryz.ntmps75
    go_wp2_with fail
    go_quiet (fail)
    go_wp2_with fail
    go_ret2
    exact ⟨rfl, (HH.out _).1, FrP.of (HH.out _).2⟩
  · have hn : nxt S ≠ 0 := fun e => hs (hsp.1 e)
    have hx : Nx S (nxt S) := (nxt_spec ho).resolve_left (fun e => hn e.1)
    have e1 : tkE S = 0 := by rw [tkE, if_neg hn]
    have e2 : tk S = ⟨S.mo, nxt S, S.many + 1, upd S.out (nxt S) true⟩ := by rw [tk, if_neg hn]
    rw [e1, e2]
    have HX : Hid (Nx S (nxt S)) := hx
    have HO : Hid (OK S) := ho
    have HIV : Hid (Iv S (nxt S) S.last) := hx.iv ho
    have hs2 : ((S.many : Int) == (S.mo : Int)) = false := by simp; omega
    have HH : Hid (∀ n, Rm (w.drewN n) b d S ∧ Below w.heap.size w (w.drewN n)) := fun n => ⟨h.below (Kb.below_drewN (Below.refl _ w) n), Kb.below_drewN (Below.refl _ w) n⟩
    obtain ⟨m2, HM2⟩ : ∃ m : Int, Hid ((S.many : Int) = m) := ⟨_, rfl⟩
    have HMB : Hid (S.many ≤ S.mo) := ho.many_le
    rw [HM2.out] at c3 hs2
    clear h ho hsp hs hn e1 e2 hx
    generalize nxt S = t at *
    obtain ⟨L, HLL⟩ : ∃ L, Hid (S.mo + 1 = L) := ⟨_, rfl⟩
    rw [HLL.out] at c2
    go_enter Tryz.func75, Tryz.ntmps75
    go_wp2_with fail
    go_quiet (fail)
    obtain ⟨HR, HB⟩ : Hid (Rm (w.drewN nq) b d S) ∧ Hid (Below w.heap.size w (w.drewN nq)) := HH.out nq
    obtain ⟨c0', c1', c2', c3'⟩ := HR.out.c
    rw [HLL.out] at c2'
    rw [HM2.out] at c3'
    generalize w.drewN nq = y at *
    go_wp2_with fail
    go_loopw [4] (fun kv wr => ∃ K : Nat, kv = .int .i64 (K : Int) ∧ Hid (Iv S t K) ∧ wr = y) (fun kv _ => far S t (intOf kv).toNat)
    case atStart => exact ⟨S.last, rfl, HIV, rfl⟩
    case round =>
      obtain ⟨K, rfl, HI, rfl⟩ := hrel
      have hK := HI.out.le
      have r0 : (0 : Int) ≤ (K : Int) := by omega
      have r1 : (K : Int) + 1 ≤ 1000000 := by have := HL.out; omega
      have hst : Hid (∀ K2 : Nat, stp S K = K2 → 1 ≤ K2 ∧ K2 ≤ S.mo) := fun K2 e => ⟨e ▸ stp_pos S K, e ▸ HI.out.stp_le HO.out⟩
      by_cases hm : S.mo ≤ K
      · have hs2' : stp S K = 1 := by rw [stp, if_pos hm]
        have rq : (S.mo : Int) < (K : Int) + 1 := by omega
        have hle : 1 ≤ S.mo := hs2' ▸ HI.out.stp_le HO.out
        have rL : (1 : Int) < (L : Int) := by have := HLL.out; omega
        have x0 := HR.out.at hle
        by_cases ht : 1 = t
        · have hf : S.out (1) = false := by rw [ht]; exact HX.out.free
          rw [hf] at x0
          have fd : wr.frozen? ⟨d, 1, none⟩ = false := (HR.out.fz _).2
          have h1 := HR.out.put hle true
          have k3 : (wr.setCell ⟨d, 1, none⟩ (.bool true)).cell? ⟨b, 3, none⟩ = some (.int .i64 m2) := by rw [← HM2.out]; exact h1.c.2.2.2
          have k3f : (wr.setCell ⟨d, 1, none⟩ (.bool true)).frozen? ⟨b, 3, none⟩ = false := (h1.fz 3).1
          have h2 := h1.many (S.many + 1)
          rw [show ((S.many + 1 : Nat) : Int) = m2 + 1 by rw [← HM2.out]; rfl] at h2
          have k1 : ((wr.setCell ⟨d, 1, none⟩ (.bool true)).setCell ⟨b, 3, none⟩ (.int .i64 (m2 + 1))).cell? ⟨b, 1, none⟩ = some (.int .i64 (S.last : Int)) := h2.c.2.1
          have k1f : ((wr.setCell ⟨d, 1, none⟩ (.bool true)).setCell ⟨b, 3, none⟩ (.int .i64 (m2 + 1))).frozen? ⟨b, 1, none⟩ = false := (h2.fz 1).1
          have HEND : Hid (Rm (((wr.setCell ⟨d, 1, none⟩ (.bool true)).setCell ⟨b, 3, none⟩ (.int .i64 (m2 + 1))).setCell ⟨b, 1, none⟩ (.int .i64 ((1 : Nat) : Int))) b d ⟨S.mo, 1, S.many + 1, upd S.out (1) true⟩) := h2.last _
          have HNE : Hid (b ≠ d) := HR.out.ne
          have HFR : Hid (FrP (fun g => g = b ∨ g = d) w (((wr.setCell ⟨d, 1, none⟩ (.bool true)).setCell ⟨b, 3, none⟩ (.int .i64 (m2 + 1))).setCell ⟨b, 1, none⟩ (.int .i64 ((1 : Nat) : Int)))) := FrP.set (B := fun g => g = b ∨ g = d) (p := ⟨b, 1, none⟩) (FrP.set (B := fun g => g = b ∨ g = d) (p := ⟨b, 3, none⟩) (FrP.set (B := fun g => g = b ∨ g = d) (p := ⟨d, 1, none⟩) (FrP.of HB.out) (.inl (.inr rfl)) _) (.inl (.inl rfl)) _) (.inl (.inl rfl)) _
          have rm0 : 0 ≤ m2 := by rw [← HM2.out]; omega
          have rm1 : m2 + 1 ≤ 1000000 := by rw [← HM2.out]; have := HMB.out; have := HL.out; omega
          subst ht
          clear h1 h2 hf hm hs2' hle HI hst hK HX HIV
          go_wp2_with fail
          go_ret2
          exact ⟨rfl, HEND.out, HFR.out⟩
        · have hne : stp S K ≠ t := by rw [hs2']; exact ht
          have ho2 := HI.out.out HX.out hne
          have HI2 : Hid (Iv S t (stp S K)) := HI.out.next HO.out HX.out hne
          have HFA : Hid (far S t (stp S K) < far S t K) := HI.out.near HO.out HX.out hne
          rw [hs2'] at ho2 HI2 HFA
          rw [ho2] at x0
          clear hm hs2' hle HI hst hK hne ho2 ht
          go_wp2_with fail
          refine ⟨⟨1, by first | rfl | simp, HI2, trivial⟩, ?_⟩
          have := HFA.out
          simpa [intOf] using this
      · have hs2' : stp S K = K + 1 := by rw [stp, if_neg hm]
        have rq : ¬ (S.mo : Int) < (K : Int) + 1 := by omega
        have hle : K + 1 ≤ S.mo := hs2' ▸ HI.out.stp_le HO.out
        have rL : ((K : Int) + 1) < (L : Int) := by have := HLL.out; omega
        have x0 := HR.out.at hle
        by_cases ht : K + 1 = t
        · have hf : S.out (K + 1) = false := by rw [ht]; exact HX.out.free
          rw [hf] at x0
          have fd : wr.frozen? ⟨d, K + 1, none⟩ = false := (HR.out.fz _).2
          have h1 := HR.out.put hle true
          have k3 : (wr.setCell ⟨d, K + 1, none⟩ (.bool true)).cell? ⟨b, 3, none⟩ = some (.int .i64 m2) := by rw [← HM2.out]; exact h1.c.2.2.2
          have k3f : (wr.setCell ⟨d, K + 1, none⟩ (.bool true)).frozen? ⟨b, 3, none⟩ = false := (h1.fz 3).1
          have h2 := h1.many (S.many + 1)
          rw [show ((S.many + 1 : Nat) : Int) = m2 + 1 by rw [← HM2.out]; rfl] at h2
          have k1 : ((wr.setCell ⟨d, K + 1, none⟩ (.bool true)).setCell ⟨b, 3, none⟩ (.int .i64 (m2 + 1))).cell? ⟨b, 1, none⟩ = some (.int .i64 (S.last : Int)) := h2.c.2.1
          have k1f : ((wr.setCell ⟨d, K + 1, none⟩ (.bool true)).setCell ⟨b, 3, none⟩ (.int .i64 (m2 + 1))).frozen? ⟨b, 1, none⟩ = false := (h2.fz 1).1
          have HEND : Hid (Rm (((wr.setCell ⟨d, K + 1, none⟩ (.bool true)).setCell ⟨b, 3, none⟩ (.int .i64 (m2 + 1))).setCell ⟨b, 1, none⟩ (.int .i64 ((K + 1 : Nat) : Int))) b d ⟨S.mo, K + 1, S.many + 1, upd S.out (K + 1) true⟩) := h2.last _
          have HNE : Hid (b ≠ d) := HR.out.ne
          have HFR : Hid (FrP (fun g => g = b ∨ g = d) w (((wr.setCell ⟨d, K + 1, none⟩ (.bool true)).setCell ⟨b, 3, none⟩ (.int .i64 (m2 + 1))).setCell ⟨b, 1, none⟩ (.int .i64 ((K + 1 : Nat) : Int)))) := FrP.set (B := fun g => g = b ∨ g = d) (p := ⟨b, 1, none⟩) (FrP.set (B := fun g => g = b ∨ g = d) (p := ⟨b, 3, none⟩) (FrP.set (B := fun g => g = b ∨ g = d) (p := ⟨d, K + 1, none⟩) (FrP.of HB.out) (.inl (.inr rfl)) _) (.inl (.inl rfl)) _) (.inl (.inl rfl)) _
          have rm0 : 0 ≤ m2 := by rw [← HM2.out]; omega
          have rm1 : m2 + 1 ≤ 1000000 := by rw [← HM2.out]; have := HMB.out; have := HL.out; omega
          subst ht
          clear h1 h2 hf hm hs2' hle HI hst hK HX HIV
          go_wp2_with fail
          go_ret2
          exact ⟨rfl, HEND.out, HFR.out⟩
        · have hne : stp S K ≠ t := by rw [hs2']; exact ht
          have ho2 := HI.out.out HX.out hne
          have HI2 : Hid (Iv S t (stp S K)) := HI.out.next HO.out HX.out hne
          have HFA : Hid (far S t (stp S K) < far S t K) := HI.out.near HO.out HX.out hne
          rw [hs2'] at ho2 HI2 HFA
          rw [ho2] at x0
          clear hm hs2' hle HI hst hK hne ho2 ht
          go_wp2_with fail
          refine ⟨⟨K + 1, by first | rfl | simp, HI2, trivial⟩, ?_⟩
          have := HFA.out
          simpa [intOf] using this
end Go.Proofs.YtmnoplaepjaokaaGreatDoor.Yf
