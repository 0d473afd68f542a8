/- The document's reader: nodes. -/
import Derived.Test.YtgidjfhlooggkaaRz
import Derived.Test.YtgidjfhlooggkaaMv
namespace Go.Proofs.Ytgidjfhlooggkaa.Ry
set_option linter.unusedVariables false
set_option linter.unusedSimpArgs false
open Go.RowKit Kb Ga Gb Gc Gd Nt Gf Gg Nb Rr Np Gj
theorem Rk.row {w x y : World} {g : Nat} {s : ByteArray} {a m e b : Int} (h : Rk w g s a m e b x) (hg : g < w.heap.size) (k : Below w.heap.size x y) : Rk w g s a m e b y := by
  refine ⟨(k.block g hg).trans h.1, ⟨k.os.trans h.2.os, k.tape.trans h.2.tape, k.output.trans h.2.output, Nat.le_trans h.2.size k.size, fun i hi hne => (k.block i hi).trans (h.2.block i hi hne)⟩⟩
theorem blk3 {x : World} {g : Nat} {a b c : Value} {t : TypeId} (h : x.heap[g]? = some (.cells #[a, b, c] t)) :
    (x.cell? ⟨g, 0, none⟩ = some a ∧ x.cell? ⟨g, 1, none⟩ = some b ∧ x.cell? ⟨g, 2, none⟩ = some c) ∧ ∀ o, x.frozen? ⟨g, o, none⟩ = false := by
  refine ⟨⟨?_, ?_, ?_⟩, fun o => ?_⟩ <;> simp [World.cell?, World.frozen?, h]
theorem bset {B : Nat} {a x : World} (h : Below B a x) {q : Nat} (hq : B ≤ q) (o : Nat) (v : Value) : Below B a (x.setCell ⟨q, o, none⟩ v) :=
  ⟨h.os, h.tape, h.output, by have := h.size; simpa [World.setCell] using this, fun k hk => (setCell_ne (by omega) o v).trans (h.block k hk)⟩
theorem tagR_bad {s : ByteArray} {k : Nat} {e y a : Int} (h : tagR s k e = .bad y a) : y ≠ 0 := by
  unfold tagR at h
  repeat' split at h
  all_goals first
    | (injection h with h1 h2; omega)
    | cases h
theorem lenR_bad {s : ByteArray} {k : Nat} {e y a : Int} (h : lenR s k e = .bad y a) : y ≠ 0 := by
  unfold lenR at h
  repeat' split at h
  all_goals first
    | (injection h with h1 h2; omega)
    | cases h
def numAt (x : World) (b o : Nat) : Int := intOf ((x.cell? ⟨b, o, none⟩).getD undef)
theorem numAt_rb {x : World} {g : Nat} {s : ByteArray} {a m e b : Int} (h : Rb x g s a m e b) : numAt x g 1 = a ∧ numAt x g 3 = e := by
  obtain ⟨⟨c0, c1, c2, c3, c4⟩, _⟩ := h.at
  unfold numAt
  rw [c1, c3]
  exact ⟨rfl, rfl⟩
theorem halt {p : Prop} (h : True → p) : p := h trivial
/-- what is told as wrong is no 0 -/
def NBad (s : ByteArray) (f k e d b : Nat) : Prop := ∀ y a, nodesR s f k e d b = .bad y a → y ≠ 0
theorem nbad_all (s : ByteArray) : ∀ f k e d b, NBad s f k e d b
  | 0, k, e, d, b, y, a, h => by simp [nodesR] at h
  | f + 1, k, e, d, b, y, a, h => by
    by_cases hk : k < e
    · rw [nodesR_step hk] at h
      cases ho : oneR (nodesR s f) s k e d b with
      | ok t k2 b2 =>
        rw [ho] at h
        simp only [thenR] at h
        cases hr : nodesR s f k2 e d b2 with
        | ok ts k3 b3 => rw [hr] at h; simp [andR] at h
        | bad y2 a2 =>
          rw [hr] at h
          simp only [andR] at h
          injection h with h1 h2
          subst h1; subst h2
          exact nbad_all s f k2 e d b2 _ _ hr
      | bad y2 a2 =>
        rw [ho] at h
        simp only [thenR] at h
        injection h with h1 h2
        subst h1; subst h2
        unfold oneR headR conR at ho
        split at ho
        · split at ho
          · cases hT : tagR s k e with
            | bad y3 a3 =>
              rw [hT] at ho
              simp only at ho
              injection ho with h1 h2
              subst h1
              exact tagR_bad hT
            | ok t k1 =>
              rw [hT] at ho
              simp only at ho
              cases hL : lenR s k1 e with
              | bad y3 a3 =>
                rw [hL] at ho
                simp only at ho
                injection ho with h1 h2
                subst h1
                exact lenR_bad hL
              | ok n k2 =>
                rw [hL] at ho
                simp only at ho
                split at ho
                · split at ho
                  · cases hr : nodesR s f k2 (k2 + n.toNat) (d + 1) (b + 1) with
                    | bad y3 a3 =>
                      rw [hr] at ho
                      simp only at ho
                      injection ho with h1 h2
                      subst h1
                      exact nbad_all s f _ _ _ _ _ _ hr
                    | ok ts k3 b3 => rw [hr] at ho; simp at ho
                  · simp at ho
                · injection ho with h1 h2; omega
          · injection ho with h1 h2; omega
        · injection ho with h1 h2; omega
    · rw [nodesR_done hk] at h
      simp at h
def PostD (w : World) (g : Nat) (s : ByteArray) (R : NR) (x : Ending) (w' : World) : Prop := ∃ v ats, x = .returned v ∧ Nt.Own w' w.heap.size v ats ∧ match R with
  | .ok ts k b => er ats = ts ∧ Rk w g s (k : Int) (b : Int) 0 0 w'
  | .bad y a => ∃ k m : Int, Rk w g s k m y a w'
def NodesD (s : ByteArray) (f : Nat) : Prop := ∀ (w : World) (g k e d b : Nat), Rk w g s (k : Int) (b : Int) 0 0 w → k ≤ e → e ≤ s.size → b ≤ 500 → e - k ≤ f → d ≤ 9 →
  Calls Try.prog 36 #[.pointer (some ⟨g, 0, none⟩), .int .i64 (e : Int), .int .i64 (d : Int)] w (PostD w g s (nodesR s f k e d b))
/-- the state of a round -/
def St (w : World) (g : Nat) (s : ByteArray) (e d f : Nat) (R0 : NR) (ats : List AT) (wr : World) : Prop :=
  (∃ k' b' f' : Nat, Rk w g s (k' : Int) (b' : Int) 0 0 wr ∧ k' ≤ e ∧ b' ≤ 500 ∧ ats.length ≤ b' ∧ e - k' ≤ f' ∧ f' ≤ f ∧ R0 = preR (er ats) (nodesR s f' k' e d b')) ∨
  (∃ k' m' y a : Int, Rk w g s k' m' y a wr ∧ y ≠ 0 ∧ ats.length ≤ 501 ∧ R0 = .bad y a)
set_option maxRecDepth 100000 in
set_option maxHeartbeats 6400000 in
theorem nodesd_step {s : ByteArray} {f : Nat} (ih : ∀ m, m < f → NodesD s m) (hs : s.size ≤ 1048576) : NodesD s f := by
  intro w g k e d b h hk he hb hf hd
  have hgw : g < w.heap.size := (Array.getElem?_eq_some_iff.1 h.1).1
  obtain ⟨R0, HR⟩ : ∃ R0, Hid (nodesR s f k e d b = R0) := ⟨_, rfl⟩
  rw [HR.out]
  go_enter Try.func36, Try.ntmps36
  go_wp2_with fail
  go_loopw [7] (fun lv wr => ∃ ats, Nt.Own wr w.heap.size lv ats ∧ Hid (St w g s e d f R0 ats wr)) (fun _ wr => if numAt wr g 3 = 0 then ((e : Int) - numAt wr g 1 + 1).toNat else 0)
  case atStart => exact ⟨[], own_nil _ _, .inl ⟨k, b, f, h, hk, hb, Nat.zero_le _, hf, Nat.le_refl _, by rw [← HR.out]; simp only [er]; rw [preR_nil]⟩⟩
  case round =>
    obtain ⟨ats, ho, HST⟩ := hrel
    rename World => wr
    obtain ⟨o, cap, rfl⟩ := ho.form
    obtain ⟨LN, HLN⟩ : ∃ LN, Hid (ats.length = LN) := ⟨_, rfl⟩
    have HO : Hid (Nt.Own wr w.heap.size (.slice o LN cap) ats) := by rw [← HLN.out]; exact ho
    rw [HLN.out]
    clear ho
    rcases HST.out with ⟨k', b', f', hl, hk', hb', hlen, hf', hff, hP⟩ | ⟨k', m', yy, aa, hl, hy0, hlen, hP⟩
    case inr =>
      have hy' : (yy == 0) = false := by simpa using hy0
      have HQ : Hid (R0 = .bad yy aa) := hP
      obtain ⟨⟨c0, c1, c2, c3, c4⟩, fz⟩ := hl.1.at
      clear c0 c2 c4 fz HST hy0 hP
      go_wp2
      go_ret
      rw [HQ.out]
      exact ⟨_, ats, rfl, HO.out, _, _, hl⟩
    have hnum := numAt_rb hl.1
    replace hP : Hid (R0 = preR (er ats) (nodesR s f' k' e d b')) := hP
    rw [HLN.out] at hlen
    clear HST
    obtain ⟨⟨c0, c1, c2, c3, c4⟩, fz⟩ := hl.1.at
    have f2 := fz 2
    by_cases hlt : k' < e
    case neg =>
      have hlt' : ¬ (k' : Int) < (e : Int) := by omega
      have HQ : Hid (R0 = .ok (er ats) k' b') := by show _ = _; rw [hP.out, nodesR_done hlt]; simp only [preR, List.append_nil]
      clear c0 c2 c4 fz f2
      go_wp2
      go_ret
      rw [HQ.out]
      exact ⟨_, ats, rfl, HO.out, rfl, hl⟩
    have hlt' : (k' : Int) < (e : Int) := by omega
    obtain ⟨q2, rfl⟩ : ∃ q2, f' = q2 + 1 := ⟨f' - 1, by omega⟩
    have HQ : Hid (R0 = preR (er ats) (thenR (oneR (nodesR s q2) s k' e d b') (fun k2 b2 => nodesR s q2 k2 e d b2))) := by show _ = _; rw [hP.out, nodesR_step hlt]
    clear hP HR
    by_cases g5 : b' < 500
    case neg =>
      have g5' : 500 ≤ (b' : Int) := by omega
      have HT : Hid (R0 = .bad 93 (k' : Int)) := by show _ = _; rw [HQ.out]; unfold oneR; rw [if_neg g5]; rfl
      clear c4 fz f2
      go_wp2_with fail
      refine (wrong_doc hl.again 93 (k' : Int)).mono ?_
      rintro _ yb ⟨rfl, hyb⟩
      have hy := hl.then hyb
      have HO2 : Hid (Nt.Own yb w.heap.size (.slice o LN cap) ats) := HO.out.grown hyb.2 hgw
      clear c0 c1 c2 c3 hl hyb HO
      obtain ⟨⟨c0, c1, c2, c3, c4⟩, fz⟩ := hy.1.at
      go_wp2
      go_ret
      rw [HT.out]
      exact ⟨_, ats, rfl, HO2.out, _, _, hy⟩
    have g5' : ¬ 500 ≤ (b' : Int) := by omega
    by_cases g8 : d ≤ 8
    case neg =>
      have g8' : 8 < (d : Int) := by omega
      have HT : Hid (R0 = .bad 92 (k' : Int)) := by show _ = _; rw [HQ.out]; unfold oneR; rw [if_pos g5, if_neg g8]; rfl
      clear c4 fz f2
      go_wp2_with fail
      refine (wrong_doc hl.again 92 (k' : Int)).mono ?_
      rintro _ yb ⟨rfl, hyb⟩
      have hy := hl.then hyb
      have HO2 : Hid (Nt.Own yb w.heap.size (.slice o LN cap) ats) := HO.out.grown hyb.2 hgw
      clear c0 c1 c2 c3 hl hyb HO
      obtain ⟨⟨c0, c1, c2, c3, c4⟩, fz⟩ := hy.1.at
      go_wp2
      go_ret
      rw [HT.out]
      exact ⟨_, ats, rfl, HO2.out, _, _, hy⟩
    have g8' : ¬ 8 < (d : Int) := by omega
    have HQ2 : Hid (R0 = preR (er ats) (thenR (headR (nodesR s q2) s k' e d b') (fun k2 b2 => nodesR s q2 k2 e d b2))) := by show _ = _; rw [HQ.out]; unfold oneR; rw [if_pos g5, if_pos g8]
    clear HQ c0 c4 fz
    -- many
    have h1 := hl.set2 ((b' : Int) + 1)
    have HO1 : Hid (Nt.Own (wr.setCell ⟨g, 2, none⟩ (.int .i64 ((b' : Int) + 1))) w.heap.size (.slice o LN cap) ats) := HO.out.keep fun q hq => setCell_ne (by have := (HO.out.lt q hq).1; omega) _ _
    -- a node
    have hR := h1_0 (wr.setCell ⟨g, 2, none⟩ (.int .i64 ((b' : Int) + 1))) (.cells zn 40)
    have hz1 : (wr.setCell ⟨g, 2, none⟩ (.int .i64 ((b' : Int) + 1))).heap.size = wr.heap.size := by simp [World.setCell]
    rw [hz1] at hR
    have BW : Below wr.heap.size (wr.setCell ⟨g, 2, none⟩ (.int .i64 ((b' : Int) + 1))) (((wr.setCell ⟨g, 2, none⟩ (.int .i64 ((b' : Int) + 1))).alloc (.cells zn 40)).setRow wr.heap.size zn) := ⟨rfl, rfl, rfl, by simp [World.setRow, World.setCell], fun q hq => (setRow_ne (by omega) _).trans (Below.heap_alloc _ _ q (by rw [hz1]; exact hq))⟩
    have hW := setRow_at hR zn
    have h2 := Rr.Rk.below h1 (by rw [hz1]; exact BW)
    have HO2 : Hid (Nt.Own (((wr.setCell ⟨g, 2, none⟩ (.int .i64 ((b' : Int) + 1))).alloc (.cells zn 40)).setRow wr.heap.size zn) w.heap.size (.slice o LN cap) ats) := HO1.out.below (by rw [hz1]; exact BW)
    have HLT : Hid (∀ q ∈ (Value.slice o LN cap).ownBlock.toList ++ fp ats, q < wr.heap.size) := fun q hq => (HO.out.lt q hq).2
    have hsW : (((wr.setCell ⟨g, 2, none⟩ (.int .i64 ((b' : Int) + 1))).alloc (.cells zn 40)).setRow wr.heap.size zn).heap.size = wr.heap.size + 1 := by simp [World.setRow, World.setCell]
    have hsw : w.heap.size ≤ wr.heap.size := hl.2.size
    obtain ⟨b1, HB1⟩ : ∃ b1 : Nat, Hid (b1 = b' + 1) := ⟨_, rfl⟩
    clear h1 HO1 BW
    go_wp2_with (refine wpList_store_row rfl 40 _ _ rfl wr.heap.size _ rfl rfl _ _ hR infoN rfl (by simp [Value.oneCell']) ?_)
    obtain ⟨BX, HBX⟩ : ∃ BX, Hid (wr.heap.size = BX) := ⟨_, rfl⟩
    obtain ⟨Y0, HY0⟩ : ∃ Y0, Hid (Y0 = (((wr.setCell ⟨g, 2, none⟩ (.int .i64 ((b' : Int) + 1))).alloc (.cells zn 40)).setRow wr.heap.size zn)) := ⟨_, rfl⟩
    rw [← HY0.out] at h2 hW hsW HO2 ⊢
    rw [HBX.out] at hW HLT hsW hsw ⊢
    have HNUM : Hid (numAt wr g 1 = (k' : Int) ∧ numAt wr g 3 = 0) := hnum
    clear HY0 hR hz1 c1 c2 c3 f2 HO hnum hl
    have hgB : g < BX := by omega
    refine (tag_doc h2.again (by omega) he hs).mono ?_
    intro en z hz
    cases hT : tagR s k' (e : Int) with
    | bad yy a =>
      rw [hT] at hz
      obtain ⟨rfl, kk, hz⟩ := hz
      have HT : Hid (R0 = .bad yy a) := by show _ = _; rw [HQ2.out]; unfold headR; rw [hT]; rfl
      have hy' : (yy == 0) = false := by have := tagR_bad hT; simpa using this
      have hX : z.heap[BX]? = some (.cells zn 40) := (hz.2.block BX (by omega) (by intro e; injection e with e; omega)).trans hW
      have hzz := h2.then hz
      have hs1 := Rk.row hzz hgw (bset (Below.refl w.heap.size z) hsw 0 (.int .i64 0))
      have HO3 : Hid (Nt.Own (z.setCell ⟨BX, 0, none⟩ (.int .i64 0)) w.heap.size (.slice o LN cap) ats) := (HO2.out.grown hz.2 hgw).keep fun q hq => setCell_ne (by have := HLT.out q hq; omega) _ _
      obtain ⟨⟨x0, x1, x2⟩, xf⟩ := blk3 hX
      have xf0 := xf 0
      obtain ⟨⟨c0, c1, c2, c3, c4⟩, fz⟩ := hs1.1.at
      clear hT xf fz c0 c1 c2 c4 hX hW hzz hz HQ2
      go_wp2
      go_ret
      rw [HT.out]
      exact ⟨_, ats, rfl, HO3.out, _, _, hs1⟩
    | ok t k1 =>
      rw [hT] at hz
      obtain ⟨rfl, hz⟩ := hz
      have aT := tagR_ok hT
      have HT : Hid (tagR s k' (e : Int) = .ok t k1) := hT
      have hX : z.heap[BX]? = some (.cells zn 40) := (hz.2.block BX (by omega) (by intro e; injection e with e; omega)).trans hW
      have hs1 := Rk.row (h2.then hz) hgw (bset (Below.refl w.heap.size z) hsw 0 (.int .i64 t))
      have HO3 : Hid (Nt.Own (z.setCell ⟨BX, 0, none⟩ (.int .i64 t)) w.heap.size (.slice o LN cap) ats) := (HO2.out.grown hz.2 hgw).keep fun q hq => setCell_ne (by have := HLT.out q hq; omega) _ _
      have hX1 : (z.setCell ⟨BX, 0, none⟩ (.int .i64 t)).heap[BX]? = some (.cells #[.int .i64 t, .string ⟨#[]⟩, .slice none 0 0] 40) := by rw [setCell_heap hX]; rfl
      have hsz : BX < (z.setCell ⟨BX, 0, none⟩ (.int .i64 t)).heap.size := (Array.getElem?_eq_some_iff.1 hX1).1
      have HX1 : Hid ((z.setCell ⟨BX, 0, none⟩ (.int .i64 t)).heap[BX]? = some (.cells #[.int .i64 t, .string ⟨#[]⟩, .slice none 0 0] 40)) := hX1
      obtain ⟨⟨x0, x1, x2⟩, xf⟩ := blk3 hX
      have xf0 := xf 0
      obtain ⟨⟨c0, c1, c2, c3, c4⟩, fz⟩ := hs1.1.at
      clear hT xf fz c0 c1 c2 c4 hX hW hz HO2 hX1 h2
      have HS1 : Hid (Rk w g s (k1 : Int) ((b' : Int) + 1) 0 0 (z.setCell ⟨BX, 0, none⟩ (.int .i64 t))) := hs1
      clear hs1
      go_wp2_with fail
      clear x0 x1 x2 xf0 c3
      generalize z.setCell ⟨BX, 0, none⟩ (.int .i64 t) = Z1 at *
      refine (Rz.size_doc HS1.out.again (by omega) he hs).mono ?_
      intro en z2 hz
      cases hL : lenR s k1 (e : Int) with
      | bad yy a =>
        rw [hL] at hz
        obtain ⟨rfl, kk, hz⟩ := hz
        have HD : Hid (R0 = .bad yy a) := by show _ = _; rw [HQ2.out]; unfold headR; rw [HT.out]; simp only; rw [hL]; rfl
        have hy' : (yy == 0) = false := by have := lenR_bad hL; simpa using this
        have hzz := HS1.out.then hz
        have HO4 : Hid (Nt.Own z2 w.heap.size (.slice o LN cap) ats) := HO3.out.grown hz.2 hgw
        obtain ⟨⟨c0, c1, c2, c3, c4⟩, fz⟩ := hzz.1.at
        clear hL fz c0 c1 c2 c4 hz HQ2 HT
        go_wp2
        go_ret
        rw [HD.out]
        exact ⟨_, ats, rfl, HO4.out, _, _, hzz⟩
      | ok n k2 =>
        rw [hL] at hz
        obtain ⟨rfl, hz⟩ := hz
        have aL := lenR_ok hL
        obtain ⟨N, rfl⟩ : ∃ N : Nat, n = (N : Int) := ⟨n.toNat, by omega⟩
        have HC : Hid (R0 = preR (er ats) (thenR (conR (nodesR s q2) s t (N : Int) k2 e d b') (fun k2 b2 => nodesR s q2 k2 e d b2))) := by show _ = _; rw [HQ2.out]; unfold headR; rw [HT.out]; simp only; rw [hL]
        have hzz := HS1.out.then hz
        have HO4 : Hid (Nt.Own z2 w.heap.size (.slice o LN cap) ats) := HO3.out.grown hz.2 hgw
        have hX2 : z2.heap[BX]? = some (.cells #[.int .i64 t, .string ⟨#[]⟩, .slice none 0 0] 40) := (hz.2.block BX hsz (by intro e; injection e with e; omega)).trans HX1.out
        have HX2 : Hid (z2.heap[BX]? = some (.cells #[.int .i64 t, .string ⟨#[]⟩, .slice none 0 0] 40)) := hX2
        have hsz2 : BX < z2.heap.size := (Array.getElem?_eq_some_iff.1 hX2).1
        obtain ⟨⟨x0, x1, x2⟩, xf⟩ := blk3 hX2
        obtain ⟨⟨c0, c1, c2, c3, c4⟩, fz⟩ := hzz.1.at
        have HZZ : Hid (Rk w g s (k2 : Int) ((b' : Int) + 1) 0 0 z2) := hzz
        have aT1 := aT.1
        have aT5 := aT.2.2.2
        have aL1 := aL.1
        have aL2 := aL.2.1
        have aL5 := aL.2.2.2.2
        have e6 : (e : Int) ≤ 1048576 := by omega
        clear hL hz HQ2 HT HS1 HO3 HX1 hX2 hzz aT aL
        by_cases hn : k2 + N ≤ e
        case neg =>
          have hn' : (e : Int) < (k2 : Int) + (N : Int) := by omega
          have HD : Hid (R0 = .bad 10 (e : Int)) := by show _ = _; rw [HC.out]; unfold conR; rw [if_neg (by omega)]; rfl
          go_wp2_with fail
          refine (wrong_doc HZZ.out.again 10 (e : Int)).mono ?_
          rintro _ yb ⟨rfl, hyb⟩
          have hy := HZZ.out.then hyb
          have HO5 : Hid (Nt.Own yb w.heap.size (.slice o LN cap) ats) := HO4.out.grown hyb.2 hgw
          clear c0 c1 c2 c3 c4 fz x0 x1 x2 xf hyb
          obtain ⟨⟨c0, c1, c2, c3, c4⟩, fz⟩ := hy.1.at
          go_wp2
          go_ret
          rw [HD.out]
          exact ⟨_, ats, rfl, HO5.out, _, _, hy⟩
        have hn' : ¬ (e : Int) < (k2 : Int) + (N : Int) := by omega
        have cM := Mr.marked_ref t z2 (by omega) (by omega)
        clear c2 c4
        go_wp2_with fail
        refine cM.mono ?_
        rintro _ y0 ⟨rfl, hy0⟩
        rw [hy0]
        clear hy0 cM y0
        by_cases hm : mkd t = true
        case pos =>
          rw [hm]
          have HD : Hid (R0 = preR (er ats) (thenR (match nodesR s q2 k2 (k2 + N) (d + 1) (b' + 1) with
            | .bad y a => .bad y a
            | .ok ks _ b2 => .ok (.mk t mt ks) (k2 + N) b2) (fun k2 b2 => nodesR s q2 k2 e d b2))) := by show _ = _; rw [HC.out]; unfold conR; rw [if_pos (by omega), if_pos hm]; rfl
          have ck := ih q2 (by omega) z2 g k2 (k2 + N) (d + 1) (b' + 1) (by have := HZZ.out.again; rw [show ((b' + 1 : Nat) : Int) = (b' : Int) + 1 by omega]; exact this) (by omega) (by omega) (by omega) (by omega) (by omega)
          rw [show ((k2 + N : Nat) : Int) = (k2 : Int) + (N : Int) by omega, show ((d + 1 : Nat) : Int) = (d : Int) + 1 by omega] at ck
          have hEnd := fun ts k' b2 => nodesR_end (s := s) q2 k2 (k2 + N) (d + 1) (b' + 1) ts k' b2 (by omega) (by omega)
          have hOk := fun ts k' b2 => nodesR_ok (s := s) q2 k2 (k2 + N) (d + 1) (b' + 1) ts k' b2 (by omega)
          have HBD : Hid (NBad s q2 k2 (k2 + N) (d + 1) (b' + 1)) := nbad_all s q2 k2 (k2 + N) (d + 1) (b' + 1)
          clear hm HC
          go_wp2_with fail
          clear x0 x1 x2 xf c0 c1 c3 fz
          refine ck.mono ?_
          rintro _ z4 ⟨v, aks, rfl, hok, hpo⟩
          clear ck
          obtain ⟨ko, kc, rfl⟩ := hok.form
          obtain ⟨LK, HLK⟩ : ∃ LK, Hid (aks.length = LK) := ⟨_, rfl⟩
          rw [HLK.out] at hok ⊢
          obtain ⟨ak, am, ay, aa, hrk, HST⟩ : ∃ ak am ay aa : Int, Rk z2 g s ak am ay aa z4 ∧ Hid (∀ (t1 : AT), er [t1] = [.mk t mt (er aks)] → (ats ++ [t1]).length = LN + 1 → ∀ wn, Rk w g s ak am ay aa wn → St w g s e d f R0 (ats ++ [t1]) wn ∧ (if numAt wn g 3 = 0 then ((e : Int) - numAt wn g 1 + 1).toNat else 0) < ((e : Int) - (k' : Int) + 1).toNat) := by
            have hBD := HBD.out
            unfold NBad at hBD
            have hd := HD.out
            clear HBD HD
            generalize nodesR s q2 k2 (k2 + N) (d + 1) (b' + 1) = R at *
            cases R with
            | bad y a =>
              obtain ⟨ak, am, hrk⟩ := hpo
              have hy0 := hBD y a rfl
              refine ⟨ak, am, y, a, hrk, fun t1 ht1 hl1 wn hwn => ⟨.inr ⟨ak, am, y, a, hwn, hy0, by omega, by rw [hd]; rfl⟩, ?_⟩⟩
              have e3 := (numAt_rb hwn.1).2
              rw [if_neg (by rw [e3]; exact hy0)]
              omega
            | ok ts k3 b3 =>
              obtain ⟨hts, hrk⟩ := hpo
              obtain rfl := hEnd ts k3 b3 rfl
              have hb3 := hOk ts _ b3 rfl
              refine ⟨_, _, _, _, hrk, fun t1 ht1 hl1 wn hwn => ⟨.inl ⟨k2 + N, b3, q2, hwn, by omega, by omega, by omega, by omega, by omega, ?_⟩, ?_⟩⟩
              · rw [hd, er_append, ht1, ← hts]
                simp only [thenR]
                rw [preR_and]
              · have e3 := numAt_rb hwn.1
                rw [if_pos e3.2, e3.1]
                omega
          have hX4 : z4.heap[BX]? = some (.cells #[.int .i64 t, .string ⟨#[]⟩, .slice none 0 0] 40) := (hrk.2.block BX hsz2 (by intro e; injection e with e; omega)).trans HX2.out
          have hX5 : (z4.setCell ⟨BX, 2, none⟩ (.slice ko LK kc)).heap[BX]? = some (.cells #[.int .i64 t, .string ⟨#[]⟩, .slice ko LK kc] 40) := by rw [setCell_heap hX4]; rfl
          have HRK : Hid (Rk w g s ak am ay aa (z4.setCell ⟨BX, 2, none⟩ (.slice ko LK kc))) := Rk.row (HZZ.out.then hrk) hgw (bset (Below.refl w.heap.size z4) hsw 2 (.slice ko LK kc))
          have HOX : Hid (Nt.Own (z4.setCell ⟨BX, 2, none⟩ (.slice ko LK kc)) w.heap.size (.slice o ats.length cap) ats) := by
            rw [HLN.out]
            exact (HO4.out.grown hrk.2 hgw).keep fun q hq => setCell_ne (by have := HLT.out q hq; omega) _ _
          have HOK : Hid (Nt.Own (z4.setCell ⟨BX, 2, none⟩ (.slice ko LK kc)) z2.heap.size (.slice ko LK kc) aks) := hok.keep fun q hq => setCell_ne (by have := (hok.lt q hq).1; omega) _ _
          have HVAL : Hid ((⟨#[]⟩ : ByteArray).size ≤ 1048576) := by show _ ≤ _; decide
          obtain ⟨⟨x0, x1, x2⟩, xf⟩ := blk3 hX4
          have xf2 := xf 2
          obtain ⟨⟨y0, y1, y2⟩, yf⟩ := blk3 hX5
          have hXs : (z4.setCell ⟨BX, 2, none⟩ (.slice ko LK kc)).heap.size = z4.heap.size := by simp [World.setCell]
          have HNW : ∀ ob, ((z4.setCell ⟨BX, 2, none⟩ (.slice ko LK kc)).alloc ob).heap[z4.heap.size]? = some ob := fun ob => by have := heap_alloc_new (z4.setCell ⟨BX, 2, none⟩ (.slice ko LK kc)) ob; rwa [hXs] at this
          have hsX : w.heap.size ≤ z4.heap.size := by have := HRK.out.2.size; rw [hXs] at this; exact this
          obtain ⟨ia, hia, hza0, hza1, hza2⟩ := info_parts infoNN
          have own1 := HOX.out.row
          rw [HLN.out] at own1
          have OWN1 : Hid (World.ownsRow (z4.setCell ⟨BX, 2, none⟩ (.slice ko LK kc)) w.heap.size 40 3 (.slice o LN cap) LN (cs ats)) := own1
          have hLN : LN ≤ 500 := by omega
          clear own1 hX4 hX5
          go_wp2_with (at_builtin; refine halt ?_)
          intro _
          refine wpList_append_lies _ rfl _ _ _ rfl w.heap.size 40 ia _ 3 48 Try.underlying23 hia hza0 hza1 hza2 rfl (by omega) _ LN _ rfl (OWN1.out.alloc _) ⟨z4.heap.size, 0, Option.none⟩ 1 1 _ rfl (by rfl) (World.news_of_block (HNW _)) (by simp [Value.oneCell']) (by omega) (by unfold maxLen; omega) (by omega) (by simp [World.setCell]; omega) (z4.heap.size + 1) (by simp [World.setCell]) ?_
          intro g1 c1 w1 own1 gr1 hat1 hlt1
          clear x0 x1 x2 xf xf2 y0 y1 y2 yf
          go_wp2_with fail
          have gr2 : ((z4.setCell ⟨BX, 2, none⟩ (.slice ko LK kc)).alloc (.cells #[.int .i64 t, .string ⟨#[]⟩, .slice ko LK kc] 40)).grownBy w1 (Value.slice o ats.length cap).ownBlock := by
            rw [HLN.out]
            exact gr1
          have gr3 : ((z4.setCell ⟨BX, 2, none⟩ (.slice ko LK kc)).alloc (.cells #[.int .i64 t, .string ⟨#[]⟩, .slice ko LK kc] 40)).grownBy w1 (Value.slice o LN cap).ownBlock := gr1
          have hat2 : (Value.slice o ats.length cap).ownBlock = some g1 ∨ g1 = (z4.setCell ⟨BX, 2, none⟩ (.slice ko LK kc)).heap.size + 1 := by
            rw [HLN.out, hXs]
            exact hat1
          have B1 := grow3 (by rw [hXs]; exact hsX) OWN1.out gr3
          have hp := own_push (t := t) HOX.out HOK.out (fun q hq => by have := HLT.out q (by rw [HLN.out] at hq; exact hq); omega) (by omega) HVAL.out ⟨by omega, by omega⟩ (by have := HLN.out; omega) gr2 (by rw [HLN.out]; exact own1) hat2
          have hwn := Rk.row HRK.out hgw B1
          have e1 : (ats ++ [AT.mk t ⟨#[]⟩ (.slice ko LK kc) aks]).length = LN + 1 := by rw [List.length_append, HLN.out]; rfl
          obtain ⟨s1, s2⟩ := HST.out (AT.mk t ⟨#[]⟩ (.slice ko LK kc) aks) (by simp [er, Np.mt]) e1 w1 hwn
          rw [e1] at hp
          rw [if_pos HNUM.out.2, HNUM.out.1]
          exact ⟨⟨_, hp, s1⟩, s2⟩
        have hm' : mkd t = false := by simpa using hm
        rw [hm']
        have HD : Hid (R0 = preR (er ats) (thenR (.ok (.mk t (s.extract k2 (k2 + N)) []) (k2 + N) (b' + 1)) (fun k2 b2 => nodesR s q2 k2 e d b2))) := by show _ = _; rw [HC.out]; unfold conR; rw [if_pos (by omega), if_neg hm]; rfl
        have xf1 := xf 1
        have kn1 : (k2 : Int) ≤ (k2 : Int) + (N : Int) := by omega
        have kn2 : (k2 : Int) + (N : Int) ≤ (s.size : Int) := by omega
        clear hm hm' HC fz xf
        go_wp2_with fail
        go_region
        obtain ⟨V, HV, hV⟩ : ∃ V, Hid (s.extract k2 (k2 + N) = V) ∧ V.size ≤ 1048576 := ⟨_, rfl, by rw [ByteArray.size_extract]; omega⟩
        rw [HV.out] at HD ⊢
        have hX3 : (z2.setCell ⟨BX, 1, none⟩ (.string V)).drew.heap[BX]? = some (.cells #[.int .i64 t, .string V, .slice none 0 0] 40) := by
          show (z2.setCell ⟨BX, 1, none⟩ (.string V)).heap[BX]? = _
          rw [setCell_heap HX2.out]; rfl
        have hrk : Rk w g s (k2 : Int) ((b' : Int) + 1) 0 0 (z2.setCell ⟨BX, 1, none⟩ (.string V)).drew := Rk.row HZZ.out hgw ((bset (Below.refl w.heap.size z2) hsw 1 (.string V)).drew)
        have ho3 : Nt.Own (z2.setCell ⟨BX, 1, none⟩ (.string V)).drew w.heap.size (.slice o LN cap) ats := HO4.out.keep fun q hq => by
          show (z2.setCell ⟨BX, 1, none⟩ (.string V)).heap[q]? = _
          exact setCell_ne (by have := HLT.out q hq; omega) _ _
        clear x0 x1 x2 c0 c1 c3 xf1 kn1 kn2 HX2 HO4
        generalize (z2.setCell ⟨BX, 1, none⟩ (.string V)).drew = A1 at *
        have hX4 := hX3
        have HST : Hid (∀ (t1 : AT), er [t1] = [.mk t V (er [])] → (ats ++ [t1]).length = LN + 1 → ∀ wn, Rk w g s ((k2 : Int) + (N : Int)) ((b' : Int) + 1) 0 0 wn → St w g s e d f R0 (ats ++ [t1]) wn ∧ (if numAt wn g 3 = 0 then ((e : Int) - numAt wn g 1 + 1).toNat else 0) < ((e : Int) - (k' : Int) + 1).toNat) := by
          intro t1 ht1 hl1 wn hwn
          refine ⟨.inl ⟨k2 + N, b' + 1, q2, by rw [show ((k2 + N : Nat) : Int) = (k2 : Int) + (N : Int) by omega, show ((b' + 1 : Nat) : Int) = (b' : Int) + 1 by omega]; exact hwn, by omega, by omega, by omega, by omega, by omega, ?_⟩, ?_⟩
          · rw [HD.out, er_append, ht1]
            simp only [thenR, er]
            rw [preR_and]
          · have e3 := numAt_rb hwn.1
            rw [if_pos e3.2, e3.1]
            omega
        have HVAL : Hid (V.size ≤ 1048576) := hV
        have HRK : Hid (Rk w g s ((k2 : Int) + (N : Int)) ((b' : Int) + 1) 0 0 (A1.setCell ⟨g, 1, none⟩ (.int .i64 ((k2 : Int) + (N : Int))))) := hrk.set1 _
        have hgA : g < A1.heap.size := (Array.getElem?_eq_some_iff.1 hrk.1).1
        have hX5 : (A1.setCell ⟨g, 1, none⟩ (.int .i64 ((k2 : Int) + (N : Int)))).heap[BX]? = some (.cells #[.int .i64 t, .string V, .slice none 0 0] 40) := (setCell_ne (by omega) _ _).trans hX3
        have hBA : BX < A1.heap.size := (Array.getElem?_eq_some_iff.1 hX3).1
        have HOX : Hid (Nt.Own (A1.setCell ⟨g, 1, none⟩ (.int .i64 ((k2 : Int) + (N : Int)))) w.heap.size (.slice o ats.length cap) ats) := by
          rw [HLN.out]
          exact ho3.keep fun q hq => setCell_ne (by have := (ho3.lt q hq).1; omega) _ _
        have HOK : Hid (Nt.Own (A1.setCell ⟨g, 1, none⟩ (.int .i64 ((k2 : Int) + (N : Int)))) A1.heap.size (.slice none 0 0) []) := own_nil _ _
        obtain ⟨⟨x0, x1, x2⟩, -⟩ := blk3 hX4
        obtain ⟨⟨y0, y1, y2⟩, -⟩ := blk3 hX5
        obtain ⟨⟨c0, c1, c2, c3, c4⟩, fz⟩ := hrk.1.at
        have fz1 := fz 1
        clear hX3 ho3 hrk hV HV fz c0 c2 c3 c4 HD HZZ
        have hXs : (A1.setCell ⟨g, 1, none⟩ (.int .i64 ((k2 : Int) + (N : Int)))).heap.size = A1.heap.size := by simp [World.setCell]
        have HNW : ∀ ob, ((A1.setCell ⟨g, 1, none⟩ (.int .i64 ((k2 : Int) + (N : Int)))).alloc ob).heap[A1.heap.size]? = some ob := fun ob => by have := heap_alloc_new (A1.setCell ⟨g, 1, none⟩ (.int .i64 ((k2 : Int) + (N : Int)))) ob; rwa [hXs] at this
        have hsX : w.heap.size ≤ A1.heap.size := by have := HRK.out.2.size; rw [hXs] at this; exact this
        obtain ⟨ia, hia, hza0, hza1, hza2⟩ := info_parts infoNN
        have own1 := HOX.out.row
        rw [HLN.out] at own1
        have OWN1 : Hid (World.ownsRow (A1.setCell ⟨g, 1, none⟩ (.int .i64 ((k2 : Int) + (N : Int)))) w.heap.size 40 3 (.slice o LN cap) LN (cs ats)) := own1
        have hLN : LN ≤ 500 := by omega
        clear own1 hX4 hX5
        go_wp2_with (at_builtin; refine halt ?_)
        intro _
        refine wpList_append_lies _ rfl _ _ _ rfl w.heap.size 40 ia _ 3 48 Try.underlying23 hia hza0 hza1 hza2 rfl (by omega) _ LN _ rfl (OWN1.out.alloc _) ⟨A1.heap.size, 0, Option.none⟩ 1 1 _ rfl (by rfl) (World.news_of_block (HNW _)) (by simp [Value.oneCell']) (by omega) (by unfold maxLen; omega) (by omega) (by simp [World.setCell]; omega) (A1.heap.size + 1) (by simp [World.setCell]) ?_
        intro g1 c1 w1 own1 gr1 hat1 hlt1
        clear x0 x1 x2 y0 y1 y2 fz1
        go_wp2_with fail
        have gr2 : ((A1.setCell ⟨g, 1, none⟩ (.int .i64 ((k2 : Int) + (N : Int)))).alloc (.cells #[.int .i64 t, .string V, .slice none 0 0] 40)).grownBy w1 (Value.slice o ats.length cap).ownBlock := by
          rw [HLN.out]
          exact gr1
        have gr3 : ((A1.setCell ⟨g, 1, none⟩ (.int .i64 ((k2 : Int) + (N : Int)))).alloc (.cells #[.int .i64 t, .string V, .slice none 0 0] 40)).grownBy w1 (Value.slice o LN cap).ownBlock := gr1
        have hat2 : (Value.slice o ats.length cap).ownBlock = some g1 ∨ g1 = (A1.setCell ⟨g, 1, none⟩ (.int .i64 ((k2 : Int) + (N : Int)))).heap.size + 1 := by
          rw [HLN.out, hXs]
          exact hat1
        have B1 := grow3 (by rw [hXs]; exact hsX) OWN1.out gr3
        have hp := own_push (t := t) HOX.out HOK.out (fun q hq => by have := HLT.out q (by rw [HLN.out] at hq; exact hq); omega) (by omega) HVAL.out ⟨by omega, by omega⟩ (by have := HLN.out; omega) gr2 (by rw [HLN.out]; exact own1) hat2
        have hwn := Rk.row HRK.out hgw B1
        have e1 : (ats ++ [AT.mk t V (.slice none 0 0) []]).length = LN + 1 := by rw [List.length_append, HLN.out]; rfl
        obtain ⟨s1, s2⟩ := HST.out (AT.mk t V (.slice none 0 0) []) (by simp [er, Np.mt]) e1 w1 hwn
        rw [e1] at hp
        rw [if_pos HNUM.out.2, HNUM.out.1]
        exact ⟨⟨_, hp, s1⟩, s2⟩
theorem nodesd_all (s : ByteArray) (hs : s.size ≤ 1048576) : ∀ f, NodesD s f := by
  intro f
  induction f using Nat.strongRecOn with
  | ind f ih => exact nodesd_step ih hs
end Go.Proofs.Ytgidjfhlooggkaa.Ry
