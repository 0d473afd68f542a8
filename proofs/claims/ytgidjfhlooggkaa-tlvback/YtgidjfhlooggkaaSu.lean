/- The laws' sub-elements. -/
import Derived.Test.YtgidjfhlooggkaaMd
namespace Go.Proofs.Ytgidjfhlooggkaa.Su
set_option linter.unusedVariables false
set_option linter.unusedSimpArgs false
open Go.RowKit Kb Ga Gb Gc Gd Nt Mk Mv Gj Ag Ml Md
theorem fine_app : ∀ (xs ys : List Tr), fineL xs → fineL ys → fineL (xs ++ ys)
  | [], ys, _, h => by simpa using h
  | .mk t v ks :: xs, ys, h, k => by
    unfold fineL at h
    simp only [List.cons_append]
    unfold fineL
    exact ⟨h.1, fine_app xs ys h.2 k⟩
theorem fu_all : ∀ (p : UInt8 → Bool) (l : List UInt8), l.all p = true → Lib0.fuL p l = l.length
  | p, [], _ => rfl
  | p, c :: l, h => by
    rw [List.all_cons, Bool.and_eq_true] at h
    unfold Lib0.fuL
    rw [fu_all p l h.2, h.1]
    simp
theorem seen_all (E : List UInt8) (h : E.all Go_.vis = true) : Go_.seen ⟨E.toArray⟩ = (⟨E.toArray⟩ : ByteArray).size := by
  show Lib0.fuL Go_.vis E.toArray.toList = E.length
  exact fu_all _ E h
/-- what made sub-elements are like -/
structure PS (w : World) (v : Value) (ats : List AT) (w' : World) : Prop where
  own : Nt.Own w' w.heap.size v ats
  fine : fineL (er ats)
  few : ats.length ≤ 19
  below : Below w.heap.size w w'
def PostS (w : World) (e : Ending) (w' : World) : Prop := ∃ v ats, e = .returned v ∧ PS w v ats w'
set_option maxRecDepth 100000 in
set_option maxHeartbeats 6400000 in
theorem subs_any (w : World) (o : Option Addr) (n cap : Nat) (hr : Raw w w.heap.size o n) :
    Calls Try.prog 33 #[.slice o n cap] w (PostS w) := by
  have h0 : Mb (w.alloc (.cells #[.slice o n cap, .int .i64 0, .int .i64 0] 101)) w.heap.size (.slice o n cap) ((0 : Nat) : Int) ((0 : Nat) : Int) := h1_0 w _
  have B0 := below_one w (.cells #[.slice o n cap, .int .i64 0, .int .i64 0] 101)
  have h1 := Lm.of h0 (hr.grown (gr_below B0 _))
  have sW : (w.alloc (.cells #[.slice o n cap, .int .i64 0, .int .i64 0] 101)).heap.size = w.heap.size + 1 := by simp
  obtain ⟨ia, hia, hza0, hza1, hza2⟩ := info_parts infoB
  clear h0
  go_enter Try.func33, Try.ntmps33
  go_wp2_with fail
  generalize w.alloc (.cells #[.slice o n cap, .int .i64 0, .int .i64 0] 101) = X at *
  generalize hg0 : w.heap.size = g at *
  replace hg0 : Hid (w.heap.size = g) := hg0
  replace B0 : Hid (Below g w X) := B0
  have hgX := Lm.lt h1
  have hlen := h1.2.len
  refine (next_any h1 20 (by omega) (by omega) (by omega)).mono ?_
  rintro _ x ⟨r, rfl, r0, r1, hx⟩
  go_wp2_with fail
  go_loopw [4, 5] (fun lv vi wr => ∃ (z : Int) (ats : List AT) (a' : Nat), vi = .int .i64 z ∧ 0 ≤ z ∧ z < 20 ∧ Nt.Own wr X.heap.size lv ats ∧ Hid (fineL (er ats)) ∧ (ats.length : Int) + z ≤ 19 ∧ a' ≤ 1 + 200 * ats.length ∧ Lm X g o n cap (a' : Int) ((0 : Nat) : Int) wr) (fun _ vi _ => (intOf vi).toNat)
  case atStart => exact ⟨r, [], 1, rfl, r0, r1, own_nil _ _, by unfold er fineL; trivial, by simp; omega, by simp, hx⟩
  case round =>
    obtain ⟨z, ats, a', rfl, z0, z1, ho, HG, hz, ha, hl⟩ := hrel
    rename World => wr
    obtain ⟨lo, lc, rfl⟩ := ho.form
    obtain ⟨LN, HLN⟩ : ∃ LN, Hid (ats.length = LN) := ⟨_, rfl⟩
    have HO : Hid (Nt.Own wr X.heap.size (.slice lo LN lc) ats) := by rw [← HLN.out]; exact ho
    rw [HLN.out] at hz ha ⊢
    have hLN : LN ≤ 19 := by omega
    have HZ : Hid ((LN : Int) + z ≤ 19) := hz
    have HA : Hid (a' ≤ 1 + 200 * LN) := ha
    have ha4 : a' ≤ 4000 := by omega
    clear ho hz ha
    by_cases g1 : 0 < z
    · go_wp2_with fail
      refine (next_any hl.again 100 (by omega) (by omega) (by omega)).mono ?_
      rintro _ y2 ⟨t, rfl, t0, t1, h5⟩
      have HO5 : Hid (Nt.Own y2 X.heap.size (.slice lo LN lc) ats) := HO.out.grown h5.3 hgX
      replace h5 := hl.then h5
      have hs2 : X.heap.size ≤ y2.heap.size := h5.3.size
      have HTB : Hid (tagB t) := ⟨by omega, by omega⟩
      clear hl HO
      have hR := h1_0 y2 (.cells zn 40)
      have BW : Below y2.heap.size y2 ((y2.alloc (.cells zn 40)).setRow y2.heap.size #[.int .i64 t, .string ⟨#[]⟩, .slice none 0 0]) := ⟨rfl, rfl, rfl, by simp [World.setRow], fun k hk => (setRow_ne (by omega) _).trans (Below.heap_alloc y2 _ k hk)⟩
      have hW := setRow_at hR #[.int .i64 t, .string ⟨#[]⟩, .slice none 0 0]
      have sW2 : ((y2.alloc (.cells zn 40)).setRow y2.heap.size #[.int .i64 t, .string ⟨#[]⟩, .slice none 0 0]).heap.size = y2.heap.size + 1 := by simp [World.setRow]
      have h6 := h5.below BW
      have HO6 : Hid (Nt.Own ((y2.alloc (.cells zn 40)).setRow y2.heap.size #[.int .i64 t, .string ⟨#[]⟩, .slice none 0 0]) X.heap.size (.slice lo LN lc) ats) := HO5.out.below BW
      have HB : Hid (∀ q ∈ (Value.slice lo LN lc).ownBlock.toList ++ fp ats, q < y2.heap.size) := fun q hq => (HO5.out.lt q hq).2
      clear h5 HO5 BW
      go_wp2_with (refine wpList_store_row rfl 40 _ _ rfl y2.heap.size _ rfl rfl _ _ hR infoN rfl (by simp [Value.oneCell']) ?_)
      clear hR
      generalize (y2.alloc (.cells zn 40)).setRow y2.heap.size #[.int .i64 t, .string ⟨#[]⟩, .slice none 0 0] = W at *
      refine (next_any h6.again 100 (by omega) (by omega) (by omega)).mono ?_
      rintro _ y3 ⟨r3, rfl, e0, e1, h7⟩
      obtain ⟨M, rfl⟩ : ∃ M : Nat, r3 = (M : Int) := ⟨r3.toNat, by omega⟩
      have hN3 := (h7.3.block _ (Array.getElem?_eq_some_iff.1 hW).1 (by intro e; injection e with e; omega)).trans hW
      have HO7 : Hid (Nt.Own y3 X.heap.size (.slice lo LN lc) ats) := HO6.out.grown h7.3 hgX
      replace h7 := h6.then h7
      have hgy : g < y3.heap.size := Lm.lt h7
      clear h6 HO6 hW
      go_wp2_with fail
      go_loopw [8, 9] (fun vb vi wr => ∃ (i : Nat) (E : List UInt8), i ≤ M ∧ vi = .int .i64 (i : Int) ∧ E.length = i ∧ Hid (E.all Go_.vis = true) ∧ wr.ownsRow y3.heap.size 5 1 vb E.length (Lib.byteCells E) ∧ Lm y3 g o n cap ((a' + 2 + i : Nat) : Int) ((0 : Nat) : Int) wr) (fun _ vi _ => M - (intOf vi).toNat)
      case atStart => exact ⟨0, [], Nat.zero_le _, rfl, rfl, rfl, World.ownsRow_nil _ _ _ _, h7.again⟩
      case round =>
        obtain ⟨i, E, hi, rfl, hE, HV, ho, hl2⟩ := hrel
        rename World => wr2
        rw [hE] at ho
        obtain ⟨uo, uc, rfl⟩ := own_form ho
        have HO : Hid (World.ownsRow wr2 y3.heap.size 5 1 (.slice uo i uc) i (Lib.byteCells E)) := ho
        clear ho
        obtain ⟨⟨c0, c1, c2⟩, fz⟩ := hl2.1.at
        by_cases hlt : i < M
        · have hlt' : (i : Int) < (M : Int) := by omega
          by_cases g3 : a' + 2 + i < n
          · have g3' : ((a' + 2 + i : Nat) : Int) < (n : Int) := by omega
            go_wp2_with fail
            have hl6 := hl2
            have HO5 := HO
            clear c0 c1 c2 fz HO hl2
            refine (next_any hl6.again 95 (by omega) (by omega) (by omega)).mono ?_
            rintro _ y ⟨c, rfl, d0, d1, hy⟩
            have hl8 := hl6.then hy
            have HY : Hid (World.ownsRow y y3.heap.size 5 1 (.slice uo i uc) i (Lib.byteCells E)) := owns_keep HO5.out fun q hq => hy.3.block q (HO5.out.lt q hq).2 (by have := (HO5.out.lt q hq).1; intro e; injection e with e; omega)
            have hsy : y3.heap.size ≤ y.heap.size := hl8.3.size
            clear HO5 hl6 hy
            go_wp2_with (at_builtin; refine wpList_append_lies _ rfl _ _ _ rfl y3.heap.size 5 ia _ 1 1 Try.underlying81 hia hza0 hza1 hza2 rfl (by omega) _ i _ rfl (HY.out.alloc _) ⟨y.heap.size, 0, Option.none⟩ 1 1 _ rfl (by rfl) (World.news_of_block (heap_alloc_new y _)) (by simp [Value.oneCell']) (by omega) (by unfold maxLen; omega) (by omega) (by first | omega | (simp <;> omega)) (y.heap.size + 1) (by simp) ?_; intro g1 c1 w1 own1 gr1 hat1 hlt1)
            have B1 := grow3 hsy HY.out gr1
            have hl9 := Lm.row hl8 h7.2 hgy B1
            have hb8 := b8_val (32 + c)
            refine ⟨⟨i + 1, E ++ [b8 (32 + c)], by omega, by go_num, by simp [hE], ?_, ?_, hl9⟩, by simp [intOf]; omega⟩
            · show _ = true
              rw [List.all_append, HV.out]
              simp only [List.all_cons, List.all_nil, Bool.and_true, Bool.true_and]
              unfold Go_.vis
              exact decide_eq_true (by omega)
            rw [List.length_append, hE, Lib.byteCells_append, byte_one (b8 (32 + c)) (32 + c) (by omega)]
            exact own1
          · have g3' : ¬ ((a' + 2 + i : Nat) : Int) < (n : Int) := by omega
            have hl6 := hl2
            have HO5 := HO
            clear HO hl2
            rename World => y5
            have hcv : (convert 81 9 (.slice uo i uc)).run Try.prog y5 = .ok (.string ⟨E.toArray⟩) y5 := by
              have := HO5.out
              subst hE
              exact Lib0.run_str Try.underlying81 Try.underlying5 Try.underlying9 this
            obtain ⟨sv, HSV⟩ : ∃ sv : ByteArray, Hid (⟨E.toArray⟩ = sv) := ⟨_, rfl⟩
            rw [HSV.out] at hcv
            have hsv : sv.size < 100 := by rw [← HSV.out]; show E.length < 100; omega
            have HFN : Hid (fineT t sv) := by rw [← HSV.out]; exact ⟨t0, by omega, by show E.length ≤ 99; omega, seen_all E HV.out⟩
            have h9 := hl6
            have hn3 := (h9.3.block _ (Array.getElem?_eq_some_iff.1 hN3).1 (by intro e; injection e with e; omega)).trans hN3
            have hn4 : (y5.setCell ⟨y2.heap.size, 1, none⟩ (.string sv)).heap[y2.heap.size]? = some (.cells #[.int .i64 t, .string sv, .slice none 0 0] 40) := setCell_heap hn3 1 _
            have HO9 : Hid (Nt.Own (y5.setCell ⟨y2.heap.size, 1, none⟩ (.string sv)) X.heap.size (.slice lo LN lc) ats) := (HO7.out.grown h9.3 hgX).keep fun q hq => setCell_ne (by have := HB.out q hq; omega) _ _
            have HOK : Hid (Nt.Own (y5.setCell ⟨y2.heap.size, 1, none⟩ (.string sv)) y2.heap.size (.slice none 0 0) []) := own_nil _ _
            have h10 := h7.then h9
            replace h10 := Lm.row h10 h1.2 hgX ((Below.refl X.heap.size y5).setCell (p := ⟨y2.heap.size, 1, none⟩) hs2 (.string sv))
            have HF : Hid (a' + 2 + i ≤ 1 + 200 * (LN + 1) ∧ (LN : Int) + 1 + (z - 1) ≤ 19) := ⟨by have := HA.out; omega, by have := HZ.out; omega⟩
            obtain ⟨⟨n0, n1, n2⟩, fz⟩ := blk3 hn3
            have f2 := fz 1
            obtain ⟨⟨m0, m1, m2⟩, fm⟩ := blk3 hn4
            clear h9 h7 hl6 HO7 HO5 fz fm hn3 hn4 hN3 HSV HV
            have own1 := HO9.out.row
            rw [HLN.out] at own1
            have OWN1 : Hid (World.ownsRow (y5.setCell ⟨y2.heap.size, 1, none⟩ (.string sv)) X.heap.size 40 3 (.slice lo LN lc) LN (cs ats)) := own1
            have hsX : X.heap.size ≤ (y5.setCell ⟨y2.heap.size, 1, none⟩ (.string sv)).heap.size := h10.3.size
            obtain ⟨ja, hja, hzb0, hzb1, hzb2⟩ := info_parts infoNN
            have hXs : (y5.setCell ⟨y2.heap.size, 1, none⟩ (.string sv)).heap.size = y5.heap.size := by simp [World.setCell, World.setRow]
            have HNW : ∀ ob, ((y5.setCell ⟨y2.heap.size, 1, none⟩ (.string sv)).alloc ob).heap[y5.heap.size]? = some ob := fun ob => by have := heap_alloc_new (y5.setCell ⟨y2.heap.size, 1, none⟩ (.string sv)) ob; rwa [hXs] at this
            rw [hXs] at hsX
            clear own1
            go_wp2_with (at_builtin; refine wpList_append_lies _ rfl _ _ _ rfl X.heap.size 40 ja _ 3 48 Try.underlying23 hja hzb0 hzb1 hzb2 rfl (by omega) _ LN _ rfl (OWN1.out.alloc _) ⟨y5.heap.size, 0, Option.none⟩ 1 1 _ rfl (by rfl) (World.news_of_block (HNW _)) (by simp [Value.oneCell']) (by omega) (by unfold maxLen; omega) (by omega) (by first | omega | (simp <;> omega)) (y5.heap.size + 1) (by first | (simp; done) | (simp [World.setCell, World.setRow]; done)) ?_; intro g1 c1 w1 own1 gr1 hat1 hlt1)
            have B1 := grow3 (by rw [hXs]; exact hsX) OWN1.out gr1
            have hl5 := Lm.row h10 h1.2 hgX B1
            have hp := own_push HO9.out HOK.out HB.out (by omega) (show sv.size ≤ 1048576 by omega) HTB.out (by have := HLN.out; omega) gr1 (by rw [HLN.out]; exact own1) (by rw [hXs]; exact hat1)
            have e : (ats ++ [AT.mk t sv (.slice none 0 0) []]).length = LN + 1 := by rw [List.length_append, HLN.out]; rfl
            refine ⟨⟨z - 1, ats ++ [AT.mk t sv (.slice none 0 0) []], a' + 2 + i, rfl, by omega, by omega, ?_, ?_, ?_, ?_, ?_⟩, ?_⟩
            · rw [e] at hp
              exact hp
            · rw [er_append]
              exact fine_app _ _ HG.out (by simp only [er, fineL]; exact ⟨⟨HFN.out, trivial⟩, trivial⟩)
            · rw [e]; have := HF.out.2; omega
            · rw [e]; exact HF.out.1
            · exact hl5
            · simp [intOf]; omega
        · have hlt' : ¬ (i : Int) < (M : Int) := by omega
          have hl6 := hl2
          have HO5 := HO
          clear HO hl2
          rename World => y5
          have hcv : (convert 81 9 (.slice uo i uc)).run Try.prog y5 = .ok (.string ⟨E.toArray⟩) y5 := by
            have := HO5.out
            subst hE
            exact Lib0.run_str Try.underlying81 Try.underlying5 Try.underlying9 this
          obtain ⟨sv, HSV⟩ : ∃ sv : ByteArray, Hid (⟨E.toArray⟩ = sv) := ⟨_, rfl⟩
          rw [HSV.out] at hcv
          have hsv : sv.size < 100 := by rw [← HSV.out]; show E.length < 100; omega
          have HFN : Hid (fineT t sv) := by rw [← HSV.out]; exact ⟨t0, by omega, by show E.length ≤ 99; omega, seen_all E HV.out⟩
          have h9 := hl6
          have hn3 := (h9.3.block _ (Array.getElem?_eq_some_iff.1 hN3).1 (by intro e; injection e with e; omega)).trans hN3
          have hn4 : (y5.setCell ⟨y2.heap.size, 1, none⟩ (.string sv)).heap[y2.heap.size]? = some (.cells #[.int .i64 t, .string sv, .slice none 0 0] 40) := setCell_heap hn3 1 _
          have HO9 : Hid (Nt.Own (y5.setCell ⟨y2.heap.size, 1, none⟩ (.string sv)) X.heap.size (.slice lo LN lc) ats) := (HO7.out.grown h9.3 hgX).keep fun q hq => setCell_ne (by have := HB.out q hq; omega) _ _
          have HOK : Hid (Nt.Own (y5.setCell ⟨y2.heap.size, 1, none⟩ (.string sv)) y2.heap.size (.slice none 0 0) []) := own_nil _ _
          have h10 := h7.then h9
          replace h10 := Lm.row h10 h1.2 hgX ((Below.refl X.heap.size y5).setCell (p := ⟨y2.heap.size, 1, none⟩) hs2 (.string sv))
          have HF : Hid (a' + 2 + i ≤ 1 + 200 * (LN + 1) ∧ (LN : Int) + 1 + (z - 1) ≤ 19) := ⟨by have := HA.out; omega, by have := HZ.out; omega⟩
          obtain ⟨⟨n0, n1, n2⟩, fz⟩ := blk3 hn3
          have f2 := fz 1
          obtain ⟨⟨m0, m1, m2⟩, fm⟩ := blk3 hn4
          clear h9 h7 hl6 HO7 HO5 fz fm hn3 hn4 hN3 HSV HV
          have own1 := HO9.out.row
          rw [HLN.out] at own1
          have OWN1 : Hid (World.ownsRow (y5.setCell ⟨y2.heap.size, 1, none⟩ (.string sv)) X.heap.size 40 3 (.slice lo LN lc) LN (cs ats)) := own1
          have hsX : X.heap.size ≤ (y5.setCell ⟨y2.heap.size, 1, none⟩ (.string sv)).heap.size := h10.3.size
          obtain ⟨ja, hja, hzb0, hzb1, hzb2⟩ := info_parts infoNN
          have hXs : (y5.setCell ⟨y2.heap.size, 1, none⟩ (.string sv)).heap.size = y5.heap.size := by simp [World.setCell, World.setRow]
          have HNW : ∀ ob, ((y5.setCell ⟨y2.heap.size, 1, none⟩ (.string sv)).alloc ob).heap[y5.heap.size]? = some ob := fun ob => by have := heap_alloc_new (y5.setCell ⟨y2.heap.size, 1, none⟩ (.string sv)) ob; rwa [hXs] at this
          rw [hXs] at hsX
          clear own1
          go_wp2_with (at_builtin; refine wpList_append_lies _ rfl _ _ _ rfl X.heap.size 40 ja _ 3 48 Try.underlying23 hja hzb0 hzb1 hzb2 rfl (by omega) _ LN _ rfl (OWN1.out.alloc _) ⟨y5.heap.size, 0, Option.none⟩ 1 1 _ rfl (by rfl) (World.news_of_block (HNW _)) (by simp [Value.oneCell']) (by omega) (by unfold maxLen; omega) (by omega) (by first | omega | (simp <;> omega)) (y5.heap.size + 1) (by first | (simp; done) | (simp [World.setCell, World.setRow]; done)) ?_; intro g1 c1 w1 own1 gr1 hat1 hlt1)
          have B1 := grow3 (by rw [hXs]; exact hsX) OWN1.out gr1
          have hl5 := Lm.row h10 h1.2 hgX B1
          have hp := own_push HO9.out HOK.out HB.out (by omega) (show sv.size ≤ 1048576 by omega) HTB.out (by have := HLN.out; omega) gr1 (by rw [HLN.out]; exact own1) (by rw [hXs]; exact hat1)
          have e : (ats ++ [AT.mk t sv (.slice none 0 0) []]).length = LN + 1 := by rw [List.length_append, HLN.out]; rfl
          refine ⟨⟨z - 1, ats ++ [AT.mk t sv (.slice none 0 0) []], a' + 2 + i, rfl, by omega, by omega, ?_, ?_, ?_, ?_, ?_⟩, ?_⟩
          · rw [e] at hp
            exact hp
          · rw [er_append]
            exact fine_app _ _ HG.out (by simp only [er, fineL]; exact ⟨⟨HFN.out, trivial⟩, trivial⟩)
          · rw [e]; have := HF.out.2; omega
          · rw [e]; exact HF.out.1
          · exact hl5
          · simp [intOf]; omega
    · go_wp2
      go_ret
      have hB := B0.out
      have B1 : Below w.heap.size w wr := by
        rw [hg0.out]
        exact ⟨hl.3.os.trans hB.os, hl.3.tape.trans hB.tape, hl.3.output.trans hB.output, Nat.le_trans hB.size hl.3.size, fun k hk => (hl.3.block k (by omega) (by intro e; injection e with e; omega)).trans (hB.block k hk)⟩
      exact ⟨_, ats, rfl, HO.out.base (by rw [hg0.out]; omega), HG.out, by have := HLN.out; omega, B1⟩
end Go.Proofs.Ytgidjfhlooggkaa.Su
