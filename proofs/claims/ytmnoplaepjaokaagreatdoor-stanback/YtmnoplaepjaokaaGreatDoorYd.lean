/- Numbers: the program's New, Taken, flip, take, Free, Len. -/
import Derived.Test.YtmnoplaepjaokaaGreatDoorYc
import Derived.Test.YtmnoplaepjaokaaGreatDoorQt
namespace Go.Proofs.YtmnoplaepjaokaaGreatDoor.Yd
set_option linter.unusedVariables false
set_option linter.unusedSimpArgs false
open Go.RowKit Lib0 Kb Xp Ya Yb Yc
theorem Nm.keep {w x : World} {b d : Nat} {S : St} {W : Nat → Nat} (h : Nm w b d S W) (hb : x.heap[b]? = w.heap[b]?) (hd : x.heap[d]? = w.heap[d]?) : Nm x b d S W := ⟨hb.trans h.blk, hd.trans h.row, h.wd⟩
theorem Nm.below {w x : World} {b d : Nat} {S : St} {W : Nat → Nat} (h : Nm w b d S W) (hb : Below w.heap.size w x) : Nm x b d S W := Nm.keep h (hb.block _ h.lt.1) (hb.block _ h.lt.2)
theorem new_bad (n : Int) (w : World) (h : isNum n = false) : Calls Tryz.prog 10 #[.int .i64 n] w fun e w' => e = .returned (.tuple #[.pointer none, .int .i64 1]) ∧ w' = w := by
  have HC := isNumber_any n w
  rw [h] at HC
  go_enter Tryz.func10, Tryz.ntmps10
  go_wp2_with fail
  refine HC.mono ?_
  rintro e y ⟨rfl, rfl⟩
  go_wp2_with fail
  go_ret2
  exact ⟨rfl, rfl⟩
theorem new_good (mo : Nat) (w : World) (h1 : 1 ≤ mo) (h2 : mo ≤ 999999) : Calls Tryz.prog 10 #[.int .i64 (mo : Int)] w fun e w' => ∃ b d, e = .returned (.tuple #[.pointer (some ⟨b, 0, none⟩), .int .i64 0]) ∧ Nm w' b d (fresh mo) (new mo) ∧ Below w.heap.size w w' ∧ w.heap.size ≤ b ∧ w.heap.size ≤ d := by
  have HC := isNumber_any (mo : Int) w
  rw [show isNum (mo : Int) = true by simp [isNum]; omega] at HC
  obtain ⟨L, HL⟩ : ∃ L, Hid (mo / 64 + 1 = L) := ⟨_, rfl⟩
  go_enter Tryz.func10, Tryz.ntmps10
  go_wp2_with fail
  refine HC.mono ?_
  rintro e y ⟨rfl, rfl⟩
  go_wp2_with fail
  refine (newMarks_any mo h1 h2 _).mono ?_
  rintro e z ⟨he, hz, hb⟩
  rw [HL.out] at he hz
  subst he
  have HZ : Hid (z.heap[y.heap.size + 1]? = some (.cells (uC L (new mo)) tU)) := hz
  have HB : Hid (Below y.heap.size y z) := hb
  clear hz hb HC
  go_wp2_with fail
  go_ret2
  refine ⟨z.heap.size, y.heap.size + 1, rfl, ⟨?_, ?_, wd_new mo⟩, HB.out.alloc HB.out.size _, HB.out.size, by omega⟩
  · rw [h1_0]
    show _ = some (Obj.cells #[.slice (some ⟨y.heap.size + 1, 0, none⟩) (mo / 64 + 1) (mo / 64 + 1), .int .i64 (mo : Int), .int .i64 0, .int .i64 0] tN)
    rw [HL.out]
  · rw [Below.heap_alloc _ _ _ (Array.getElem?_eq_some_iff.1 HZ.out).1, HZ.out]
    show _ = some (Obj.cells (uC (mo / 64 + 1) (new mo)) tU)
    rw [HL.out]
theorem len_any {w : World} {b d : Nat} {S : St} {W : Nat → Nat} (h : Nm w b d S W) : Calls Tryz.prog 27 #[.pointer (some ⟨b, 0, none⟩)] w fun e w' => e = .returned (.int .i64 (S.many : Int)) ∧ w' = w := by
  have hb := h.blk
  have c2 : w.cell? ⟨b, 2, none⟩ = some (.int .i64 (S.many : Int)) := by simp [World.cell?, hb]
  clear hb
  go_enter Tryz.func27, Tryz.ntmps27
  go_wp2
  go_ret
  exact ⟨rfl, rfl⟩
/-- a number's word, its bit -/
structure Wo (w : World) (b d : Nat) (S : St) (W : Nat → Nat) (k J X Y : Nat) (L : Nat) : Prop where
  eJ : k / 64 = J
  eX : W J = X
  eY : 2 ^ (k % 64) = Y
  eL : S.mo / 64 + 1 = L
  lt : J < L
  top : L ≤ 15626
  c0 : w.cell? ⟨b, 0, none⟩ = some (.slice (some ⟨d, 0, none⟩) L L)
  c1 : w.cell? ⟨b, 1, none⟩ = some (.int .i64 (S.mo : Int))
  x : w.cell? ⟨d, J, none⟩ = some (.int .u64 (X : Int))
  xl : X < 18446744073709551616
  yl : Y < 18446744073709551616
theorem Nm.wo {w : World} {b d : Nat} {S : St} {W : Nat → Nat} (h : Nm w b d S W) (ho : OK S) {k : Nat} (hk : k ≤ S.mo) : Wo w b d S W k (k / 64) (W (k / 64)) (2 ^ (k % 64)) (S.mo / 64 + 1) := by
  have hj : k / 64 ≤ S.mo / 64 := Nat.div_le_div_right hk
  have hb := h.blk
  have := ho.mo2
  refine ⟨rfl, rfl, rfl, rfl, by omega, by omega, by simp [World.cell?, hb], by simp [World.cell?, hb], ?_, h.wd.lt _ hj, pow_lt _ (Nat.mod_lt _ (by decide))⟩
  rw [cell_of_row _ _ _ _ _ _ h.row]
  exact uC_get _ _ _ (by omega)
set_option maxRecDepth 100000 in
theorem taken_any {w : World} {b d : Nat} {S : St} {W : Nat → Nat} (h : Nm w b d S W) (ho : OK S) (k : Int) : Calls Tryz.prog 24 #[.pointer (some ⟨b, 0, none⟩), .int .i64 k] w fun e w' => e = .returned (.bool (isOut S k)) ∧ ∃ m, w' = w.drewN m := by
  have c1 : w.cell? ⟨b, 1, none⟩ = some (.int .i64 (S.mo : Int)) := by have hb := h.blk; simp [World.cell?, hb]
  by_cases h1 : k < 1
  · have e : isOut S k = false := by simp [isOut]; omega
    rw [e]
    go_enter Tryz.func24, Tryz.ntmps24
    go_wp2
    go_ret
    exact ⟨rfl, 0, rfl⟩
  · by_cases h2 : (S.mo : Int) < k
    · have e : isOut S k = false := by simp [isOut]; omega
      rw [e]
      generalize (S.mo : Int) = M at *
      go_enter Tryz.func24, Tryz.ntmps24
      go_wp2
      go_ret
      exact ⟨rfl, 0, rfl⟩
    · obtain ⟨K, rfl⟩ : ∃ K : Nat, k = (K : Int) := ⟨k.toNat, by omega⟩
      have hK : K ≤ S.mo := by omega
      have hW := Nm.wo h ho hK
      have hiff := wd_is h.wd hK
      have HE : Hid (isOut S (K : Int) = !decide (W (K / 64) &&& 2 ^ (K % 64) = 0)) := by
        show isOut S (K : Int) = _
        have a1 : (1 : Int) ≤ (K : Int) := by omega
        have a2 : ((K : Int) ≤ (S.mo : Int)) := by omega
        simp only [isOut, a1, a2, hiff]
        cases ho2 : S.out K <;> simp [ho2]
      rw [HE.out]
      have HBO : Hid (∀ y, Calls Tryz.prog 60 #[.int .i64 (K : Int)] y fun e y' => e = .returned (.int .u64 ((2 ^ (K % 64) : Nat) : Int)) ∧ y' = y) := fun y => bitOf_any K (by have := ho.mo2; omega) y
      have hJ : (K : Int) / 64 = ((K / 64 : Nat) : Int) := by omega
      clear HE hiff
      generalize W (K / 64) = X at *
      generalize 2 ^ (K % 64) = Y at *
      generalize K / 64 = J at *
      generalize S.mo / 64 + 1 = L at *
      have hz := bits_and_u64_nat X Y hW.xl hW.yl
      have c0 := hW.c0
      have x0 := hW.x
      have q1 : (J : Int) < (L : Int) := by have := hW.lt; omega
      have q2 : (0 : Int) ≤ (K : Int) := by omega
      have q3 : (K : Int) ≤ 999999 := by have := ho.mo2; omega
      have hlt : Hid _ := h.lt
      clear hW h
      generalize (K : Int) = k at *
      generalize (S.mo : Int) = M at *
      go_enter Tryz.func24, Tryz.ntmps24
      go_wp2_with fail
      go_quiet ((go_at_call 60; exact Calls.quiet_of_same (HBO.out _)))
      go_wp2_with fail
      go_ret
      exact ⟨by congr 2; cases hd : decide (X &&& Y = 0) <;> simp at hd <;> simp [hd], _, rfl⟩
set_option maxRecDepth 100000 in
theorem flip_any {w : World} {b d : Nat} {S : St} {W : Nat → Nat} (h : Nm w b d S W) (ho : OK S) (K : Nat) (hK : K ≤ S.mo) : Calls Tryz.prog 61 #[.pointer (some ⟨b, 0, none⟩), .int .i64 (K : Int)] w fun e w' => e = .returned (.tuple #[]) ∧ Nm w' b d ⟨S.mo, S.last, S.many, upd S.out K (!S.out K)⟩ (upN W (K / 64) (W (K / 64) ^^^ 2 ^ (K % 64))) ∧ FrP (fun g => g = d) w w' := by
  have hW := Nm.wo h ho hK
  have HE : Hid (∀ w', w'.heap[b]? = w.heap[b]? → w'.heap[d]? = some (.cells (uC (S.mo / 64 + 1) (upN W (K / 64) (W (K / 64) ^^^ 2 ^ (K % 64)))) tU) → Nm w' b d ⟨S.mo, S.last, S.many, upd S.out K (!S.out K)⟩ (upN W (K / 64) (W (K / 64) ^^^ 2 ^ (K % 64)))) := fun w' e1 e2 => ⟨e1.trans h.blk, e2, wd_flip h.wd hK⟩
  have HBO : Hid (∀ y, Calls Tryz.prog 60 #[.int .i64 (K : Int)] y fun e y' => e = .returned (.int .u64 ((2 ^ (K % 64) : Nat) : Int)) ∧ y' = y) := fun y => bitOf_any K (by have := ho.mo2; omega) y
  have hJ : (K : Int) / 64 = ((K / 64 : Nat) : Int) := by omega
  have HR : Hid _ := h.row
  have HNE : Hid (b ≠ d) := h.ne
  obtain ⟨Q, HQ⟩ : ∃ Q : (World → Prop), Hid (∀ w', Nm w' b d ⟨S.mo, S.last, S.many, upd S.out K (!S.out K)⟩ (upN W (K / 64) (W (K / 64) ^^^ 2 ^ (K % 64))) = Q w') := ⟨fun w' => Nm w' b d ⟨S.mo, S.last, S.many, upd S.out K (!S.out K)⟩ (upN W (K / 64) (W (K / 64) ^^^ 2 ^ (K % 64))), fun _ => rfl⟩
  simp only [HQ.out] at HE ⊢
  clear HQ
  have hx0 : W (K / 64) = W (K / 64) := rfl
  generalize hX : W (K / 64) = X at *
  generalize 2 ^ (K % 64) = Y at *
  generalize K / 64 = J at *
  generalize S.mo / 64 + 1 = L at *
  have hz := bits_xor_u64_nat X Y hW.xl hW.yl
  have c0 := hW.c0
  have x0 := hW.x
  have q1 : (J : Int) < (L : Int) := by have := hW.lt; omega
  have q2 : (0 : Int) ≤ (K : Int) := by omega
  have q3 : (K : Int) ≤ 999999 := by have := ho.mo2; omega
  have f0 : w.frozen? ⟨d, J, none⟩ = false := frozen_of_row w _ _ _ _ h.row
  have hlt : Hid _ := h.lt
  have HL : Hid (J < L) := hW.lt
  clear hW h hx0 hX
  generalize (K : Int) = k at *
  obtain ⟨Z, HZ⟩ : ∃ Z, Hid (X ^^^ Y = Z) := ⟨_, rfl⟩
  rw [HZ.out] at hz HE
  go_enter Tryz.func61, Tryz.ntmps61
  go_wp2_with fail
  refine Qt.region_tail 12 0 (C := fun w' => ∃ n, w' = w.drewN n) (by kernel_rfl) rfl (by kernel_rfl) (by kernel_rfl) (by kernel_rfl) ⟨1, rfl⟩ ?_
  dsimp only [List.take, List.drop]
  repeat (go_big_quiet_step ((go_at_call 60; exact Calls.quiet_of_same (HBO.out _))))
  refine wpQuiet_nil ?_
  rintro y0 ⟨nq, rfl⟩
  go_wp2_with fail
  refine bodyPost_end (results_none rfl _ _ _) rfl ?_
  have hb := Kb.below_drewN (Below.refl w.heap.size w) nq
  have r1 : (w.drewN nq).heap[d]? = some (.cells (uC L W) tU) := (hb.block _ hlt.out.2).trans HR.out
  refine ⟨rfl, HE.out _ ?_ ?_, ?_⟩
  · rw [setCell_ne (p := ⟨d, J, none⟩) (fun e : d = b => HNE.out e.symm)]
    exact hb.block _ hlt.out.1
  · rw [setCell_heap r1, uC_set _ _ _ _ HL.out]
  · exact FrP.set (B := fun g => g = d) (p := ⟨d, J, none⟩) (FrP.of hb) (.inl rfl) _
theorem Nm.many {w : World} {b d : Nat} {S : St} {W : Nat → Nat} (h : Nm w b d S W) (n : Nat) : Nm (w.setCell ⟨b, 2, none⟩ (.int .i64 (n : Int))) b d ⟨S.mo, S.last, n, S.out⟩ W :=
  ⟨setCell_heap h.blk 2 _, (setCell_ne (p := ⟨b, 2, none⟩) h.ne _).trans h.row, h.wd⟩
theorem Nm.last {w : World} {b d : Nat} {S : St} {W : Nat → Nat} (h : Nm w b d S W) (n : Nat) : Nm (w.setCell ⟨b, 3, none⟩ (.int .i64 (n : Int))) b d ⟨S.mo, n, S.many, S.out⟩ W :=
  ⟨setCell_heap h.blk 3 _, (setCell_ne (p := ⟨b, 3, none⟩) h.ne _).trans h.row, h.wd⟩
theorem Nm.c2 {w : World} {b d : Nat} {S : St} {W : Nat → Nat} (h : Nm w b d S W) : w.cell? ⟨b, 2, none⟩ = some (.int .i64 (S.many : Int)) := by have := h.blk; simp [World.cell?, this]
theorem Nm.c3 {w : World} {b d : Nat} {S : St} {W : Nat → Nat} (h : Nm w b d S W) : w.cell? ⟨b, 3, none⟩ = some (.int .i64 (S.last : Int)) := by have := h.blk; simp [World.cell?, this]
theorem Nm.fz {w : World} {b d : Nat} {S : St} {W : Nat → Nat} (h : Nm w b d S W) (k : Nat) : w.frozen? ⟨b, k, none⟩ = false := frozen_of_row w _ _ _ _ h.blk
theorem take_any {w : World} {b d : Nat} {S : St} {W : Nat → Nat} (h : Nm w b d S W) (ho : OK S) (K : Nat) (hK : K ≤ S.mo) (hf : S.out K = false) : Calls Tryz.prog 63 #[.pointer (some ⟨b, 0, none⟩), .int .i64 (K : Int)] w fun e w' => e = .returned (.tuple #[]) ∧ (∃ W', Nm w' b d ⟨S.mo, S.last, S.many + 1, upd S.out K true⟩ W') ∧ FrP (fun g => g = b ∨ g = d) w w' := by
  have HC := flip_any h ho K hK
  rw [hf, Bool.not_false] at HC
  have HM : Hid (S.many ≤ 999999) := Nat.le_trans ho.many_le ho.mo2
  generalize upN W (K / 64) (W (K / 64) ^^^ 2 ^ (K % 64)) = W' at *
  obtain ⟨mo, last, many, out⟩ := S
  dsimp only at HC HM ⊢
  clear h ho hK hf
  generalize upd out K true = out' at *
  go_enter Tryz.func63, Tryz.ntmps63
  go_wp2_with fail
  refine HC.mono ?_
  rintro e y ⟨rfl, hn, hfr⟩
  have c2 : y.cell? ⟨b, 2, none⟩ = some (.int .i64 (many : Int)) := Nm.c2 hn
  have f2 : y.frozen? ⟨b, 2, none⟩ = false := Nm.fz hn 2
  have HN : Hid _ := Nm.many hn (many + 1)
  have HF : Hid (FrP (fun g => g = b ∨ g = d) w y) := hfr.mono (fun g hg => .inr hg)
  have q1 : (many : Int) + 1 ≤ 9223372036854775807 := by have := HM.out; omega
  have q0 : (0 : Int) ≤ (many : Int) := by omega
  clear hn hfr HC
  go_wp2_with fail
  refine bodyPost_end (results_none rfl _ _ _) rfl ?_
  exact ⟨rfl, ⟨_, HN.out⟩, HF.out.set (.inl (.inl rfl)) _⟩
theorem free_any {w : World} {b d : Nat} {S : St} {W : Nat → Nat} (h : Nm w b d S W) (ho : OK S) (k : Int) : Calls Tryz.prog 25 #[.pointer (some ⟨b, 0, none⟩), .int .i64 k] w fun e w' => e = .returned (.int .i64 (frE S k)) ∧ (∃ W', Nm w' b d (fr S k) W') ∧ FrP (fun g => g = b ∨ g = d) w w' := by
  have HC := taken_any h ho k
  by_cases ht : isOut S k = true
  · have e1 : frE S k = 0 := by simp [frE, ht]
    have e2 : fr S k = ⟨S.mo, S.last, S.many - 1, upd S.out k.toNat false⟩ := by simp [fr, ht]
    rw [ht] at HC
    rw [e1, e2]
    obtain ⟨h1, h2, h3⟩ := isOut_at ht
    obtain ⟨K, rfl⟩ : ∃ K : Nat, k = (K : Int) := ⟨k.toNat, by omega⟩
    have hK : K ≤ S.mo := by omega
    rw [show ((K : Int).toNat) = K by omega] at h3 ⊢
    have HF : Hid (∀ y, Nm y b d S W → Calls Tryz.prog 61 #[.pointer (some ⟨b, 0, none⟩), .int .i64 (K : Int)] y fun e w' => e = .returned (.tuple #[]) ∧ (∃ W', Nm w' b d ⟨S.mo, S.last, S.many, upd S.out K false⟩ W') ∧ FrP (fun g => g = d) y w') := fun y hy => (flip_any hy ho K hK).mono (by
      rintro e z ⟨he, hn, hfr⟩
      rw [h3] at hn
      exact ⟨he, ⟨_, hn⟩, hfr⟩)
    have HM : Hid (1 ≤ S.many) := ho.pos ht
    have HM2 : Hid (S.many ≤ 999999) := Nat.le_trans ho.many_le ho.mo2
    have HH : Hid _ := h
    clear h ho h1 h2 h3 hK e1 e2 ht
    obtain ⟨mo, last, many, out⟩ := S
    dsimp only at HF HM HM2 HH HC ⊢
    generalize upd out K false = out' at *
    go_enter Tryz.func25, Tryz.ntmps25
    go_wp2_with fail
    refine HC.mono ?_
    rintro e y ⟨rfl, m, rfl⟩
    have HB : Hid (Below w.heap.size w (w.drewN m)) := Kb.below_drewN (Below.refl _ w) m
    have HH2 : Hid _ := Nm.below HH.out HB.out
    generalize w.drewN m = y at *
    clear HC
    go_wp2_with fail
    refine (HF.out y HH2.out).mono ?_
    rintro e z ⟨rfl, ⟨W', hn⟩, hfr⟩
    have c2 : z.cell? ⟨b, 2, none⟩ = some (.int .i64 (many : Int)) := Nm.c2 hn
    have f2 : z.frozen? ⟨b, 2, none⟩ = false := Nm.fz hn 2
    have HN : Hid _ := Nm.many hn (many - 1)
    have HFF : Hid (FrP (fun g => g = b ∨ g = d) w z) := (FrP.of HB.out).trans (hfr.mono (fun g hg => .inr hg)) (fun g hg => .inl hg)
    have q1 : (many : Int) ≤ 999999 := by have := HM2.out; omega
    have q0 : (1 : Int) ≤ (many : Int) := by have := HM.out; omega
    have HE : Hid ((many : Int) - 1 = ((many - 1 : Nat) : Int)) := by have := HM.out; show (many : Int) - 1 = _; omega
    clear hn hfr HF HH HH2 HB
    go_wp2_with fail
    go_ret
    rw [HE.out]
    exact ⟨rfl, ⟨W', HN.out⟩, HFF.out.set (.inl (.inl rfl)) _⟩
  · have ht2 : isOut S k = false := by simpa using ht
    have e1 : frE S k = 181 := by simp [frE, ht2]
    have e2 : fr S k = S := by simp [fr, ht2]
    rw [ht2] at HC
    rw [e1, e2]
    have HH : Hid _ := h
    clear h ho e1 e2 ht ht2
    go_enter Tryz.func25, Tryz.ntmps25
    go_wp2_with fail
    refine HC.mono ?_
    rintro e y ⟨rfl, m, rfl⟩
    have HB : Hid (Below w.heap.size w (w.drewN m)) := Kb.below_drewN (Below.refl _ w) m
    have HH2 : Hid _ := Nm.below HH.out HB.out
    generalize w.drewN m = y at *
    clear HC
    go_wp2_with fail
    go_ret
    exact ⟨rfl, ⟨W, HH2.out⟩, FrP.of HB.out⟩
end Go.Proofs.YtmnoplaepjaokaaGreatDoor.Yd
