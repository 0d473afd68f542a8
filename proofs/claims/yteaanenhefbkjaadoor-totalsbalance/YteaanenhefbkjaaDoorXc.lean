/- totals: Fields, Settle. -/
import Derived.Test.YteaanenhefbkjaaDoorXa
import Derived.Test.YteaanenhefbkjaaDoorTn
namespace Go.Proofs.YteaanenhefbkjaaDoor.Xc
set_option linter.unusedVariables false
set_option linter.unusedSimpArgs false
open Go.RowKit Lib0 Kb Xp Ic Ta Hp Hr Ht Hu Tb Tc Td Te Tf Tn Xa
attribute [local go_sem] Oper.semAt_some
theorem bytes_ext {p q : ByteArray} (h : p.toList = q.toList) : p = q := by
  rw [ByteArray.toList_eq, ByteArray.toList_eq] at h
  obtain ⟨⟨x⟩⟩ := p
  obtain ⟨⟨y⟩⟩ := q
  have : x = y := h
  rw [this]
set_option maxRecDepth 100000 in
set_option maxHeartbeats 3200000 in
theorem fieldsOf_any {x : World} {base b g n : Nat} {F : Nat → Nat → Int} (h : BkT x base b g n F) (k : Nat) (hk : k < n) (hb : ∀ j, j < 12 → 0 ≤ F k j ∧ F k j ≤ mostK j) (hT : Xa.Tb x) : Calls Tryd.prog 7 #[.pointer (some ⟨b, 0, none⟩), .int .i64 (k : Int)] x fun e w' => ∃ v, e = .returned (.tuple #[v, .int .i64 0]) ∧ w'.ownsRow x.heap.size tF 3 v 8 (fc (FL (F k) 8)) ∧ Below x.heap.size x w' := by
  have HH : Hid (Calls Tryd.prog 12 #[.pointer (some ⟨b, 0, none⟩), .int .i64 (k : Int)] x fun e w' => e = .returned (.bool true) ∧ w' = x) := has_yes h k hk
  have HF : Hid (Calls Tryd.prog 14 #[.agg (ta (F k))] x fun e w' => ∃ v, e = .returned v ∧ w'.ownsRow x.heap.size tF 3 v 8 (fc (FL (F k) 8)) ∧ Below x.heap.size x w') := fields_any (F k) hb x hT
  have c0 := h.cell
  have hrow := h.rows k hk
  have q0 : (k : Int) < (n : Int) := by omega
  have q1 : (0 : Int) ≤ (k : Int) := by omega
  clear h hb hT
  generalize F k = f at *
  go_enter Tryd.func7, Tryd.ntmps7
  go_wp2_with fail
  refine HH.out.mono ?_
  rintro e y ⟨rfl, rfl⟩
  go_wp2_with (first
    | (refine wpList_load_mid rfl tTa _ rfl g (k * 12) (by rfl) (ta f).toList _ hrow Tryd.underlying53 rfl infoTa ?_)
    | fail)
  refine HF.out.mono ?_
  rintro e y2 ⟨v, rfl, ho, hy2⟩
  have HFIN : Hid _ := And.intro ho hy2
  clear ho hy2 hrow c0
  go_wp2_with fail
  go_ret2
  exact ⟨v, rfl, HFIN.out.1, HFIN.out.2⟩
theorem settle_err {x : World} {base b g n : Nat} {F : Nat → Nat → Int} (h : BkT x base b g n F) (k : Nat) (hk : k < n) (mti : ByteArray) (hm : mti.size ≤ 1000) (he : (dg mti 1 == 5 && dg mti 2 == 0) = false) (o : Option Addr) (l c : Nat) : Calls Tryd.prog 8 #[.pointer (some ⟨b, 0, none⟩), .int .i64 (k : Int), .agg #[.string mti, .slice o l c]] x fun e w' => e = .returned (.tuple #[.bool false, .int .i64 111]) ∧ Below x.heap.size x w' := by
  obtain ⟨W1, HW1⟩ : ∃ W1, Hid (x.alloc (.cells #[.string mti, .slice o l c] tMs) = W1) := ⟨_, rfl⟩
  have hb1 : Below x.heap.size x W1 := HW1.out ▸ below_one _ _
  have hx1 : W1.heap[x.heap.size]? = some (.cells #[.string mti, .slice o l c] tMs (0, 0)) := HW1.out ▸ h1_0 _ _
  have HH : Hid (Calls Tryd.prog 12 #[.pointer (some ⟨b, 0, none⟩), .int .i64 (k : Int)] W1 fun e w' => e = .returned (.bool true) ∧ w' = W1) := has_yes (h.below hb1) k hk
  have HR : Hid (Calls Tryd.prog 15 #[.string mti] W1 fun e w' => e = .returned (.bool false) ∧ Below W1.heap.size W1 w') := isRec_any mti hm false he W1
  have HB1 : Hid (Below x.heap.size x W1) := hb1
  have m0 : W1.cell? ⟨x.heap.size, 0, none⟩ = some (.string mti) := by simp [World.cell?, hx1]
  clear h hb1 hx1 he hm
  go_enter Tryd.func8, Tryd.ntmps8
  go_wp2_with (first | (rw [HW1.out]) | fail)
  refine HH.out.mono ?_
  rintro e y ⟨rfl, rfl⟩
  go_wp2_with fail
  refine HR.out.mono ?_
  rintro e y2 ⟨rfl, hy2⟩
  have HY2 : Hid (Below x.heap.size x y2) := keepB HB1.out hy2
  clear hy2
  go_wp2_with fail
  go_ret2
  exact ⟨rfl, HY2.out⟩
/-- is the i-th thing told otherwise? -/
def mism (M : List Fl) (f : Nat → Int) (i : Nat) : Bool := getB M (fldN i) && !((getV M (fldN i)).toList == (valN f i).toList)
theorem FL_at (f : Nat → Int) (i : Nat) (hi : i < (FL f 8).length) : (FL f 8)[i] = (fldN i, valN f i) := by
  have h : (FL f 8)[i]? = some (fldN i, valN f i) := by
    rw [FL_len] at hi
    unfold FL
    rw [List.getElem?_map, List.getElem?_range hi]; rfl
  rw [List.getElem?_eq_getElem hi] at h
  exact Option.some.inj h
theorem bk_zero {x : World} {base b g n : Nat} {F : Nat → Nat → Int} (h : BkT x base b g n F) (k : Nat) (hk : k < n) : BkT (x.setCells g (k * 12) (ta fun _ => 0).toList) base b g n (updF F k fun _ => 0) := bk_store h k hk _
structure Sz (x : World) (base b g n : Nat) (F : Nat → Nat → Int) (m0 : Nat) (mti : ByteArray) (v : Value) (M : List Fl) (lv : Value) (f : Nat → Int) (y : World) : Prop where
  bk : BkT y base b g n F
  box : y.heap[m0]? = some (.cells #[.string mti, v] tMs (0, 0))
  row : RowF y v M
  lst : RowF y lv (FL f 8)
  bel : Below x.heap.size x y
theorem Sz.below {x : World} {base b g n : Nat} {F : Nat → Nat → Int} {m0 : Nat} {mti : ByteArray} {v : Value} {M : List Fl} {lv : Value} {f : Nat → Int} {y z : World} (h : Sz x base b g n F m0 mti v M lv f y) (k : Below y.heap.size y z) : Sz x base b g n F m0 mti v M lv f z :=
  ⟨h.bk.below k, kept k h.box, rowf_below h.row k, rowf_below h.lst k, keepB h.bel k⟩
set_option maxRecDepth 100000 in
set_option maxHeartbeats 6400000 in
theorem settle_any {x : World} {base b g n : Nat} {F : Nat → Nat → Int} (h : BkT x base b g n F) (hbase : base ≤ x.heap.size) (k : Nat) (hk : k < n) (hb : ∀ j, j < 12 → 0 ≤ F k j ∧ F k j ≤ mostK j) (hT : Xa.Tb x) (mti : ByteArray) (hm : mti.size ≤ 1000) (he : (dg mti 1 == 5 && dg mti 2 == 0) = true) (v : Value) (M : List Fl) (hr : RowF x v M) (hl : M.length ≤ 1000) (hs : ∀ q ∈ M, q.2.size ≤ 1000000) (B : Bool) (hB : (∀ i, i < 8 → mism M (F k) i = false) ↔ B = true) :
    Calls Tryd.prog 8 #[.pointer (some ⟨b, 0, none⟩), .int .i64 (k : Int), .agg #[.string mti, v]] x fun e w' => e = .returned (.tuple #[.bool B, .int .i64 0]) ∧ BkT w' base b g n (if B then updF F k (fun _ => 0) else F) ∧ Below base x w' ∧ (∀ q, q < x.heap.size → q ≠ g → w'.heap[q]? = x.heap[q]?) ∧ x.heap.size ≤ w'.heap.size := by
  obtain ⟨G2, HG2⟩ : ∃ G2, Hid ((if B then updF F k (fun _ => 0) else F) = G2) := ⟨_, rfl⟩
  rw [HG2.out]
  obtain ⟨o, cap, ev, -⟩ := id hr
  obtain ⟨W1, HW1⟩ : ∃ W1, Hid (x.alloc (.cells #[.string mti, .slice o M.length cap] tMs) = W1) := ⟨_, rfl⟩
  have hb1 : Below x.heap.size x W1 := HW1.out ▸ below_one _ _
  have hx1 : W1.heap[x.heap.size]? = some (.cells #[.string mti, v] tMs (0, 0)) := by rw [ev]; exact HW1.out ▸ h1_0 _ _
  have HH : Hid (Calls Tryd.prog 12 #[.pointer (some ⟨b, 0, none⟩), .int .i64 (k : Int)] W1 fun e w' => e = .returned (.bool true) ∧ w' = W1) := has_yes (h.below hb1) k hk
  have HR : Hid (Calls Tryd.prog 15 #[.string mti] W1 fun e w' => e = .returned (.bool true) ∧ Below W1.heap.size W1 w') := isRec_any mti hm true he W1
  have HFS : Hid (∀ y, Below x.heap.size x y → Calls Tryd.prog 14 #[.agg (ta (F k))] y fun e w' => ∃ v, e = .returned v ∧ w'.ownsRow y.heap.size tF 3 v 8 (fc (FL (F k) 8)) ∧ Below y.heap.size y w') := fun y hy => fields_any (F k) hb y (hT.next hy)
  have HGT : Hid (∀ y, RowF y v M → ∀ i : Nat, Calls Tryd.prog 16 #[.agg #[.string mti, v], .int .i64 (fldN i)] y fun e w' => e = .returned (.tuple #[.string (getV M (fldN i)), .bool (getB M (fldN i))]) ∧ Below y.heap.size y w') := fun y hy i => get_any mti v M (fldN i) y hy hl hs
  have HB1 : Hid (BkT W1 base b g n F ∧ Below x.heap.size x W1 ∧ W1.heap[x.heap.size]? = some (.cells #[.string mti, v] tMs (0, 0)) ∧ RowF W1 v M) := ⟨h.below hb1, hb1, hx1, rowf_below hr hb1⟩
  have m0 : W1.cell? ⟨x.heap.size, 0, none⟩ = some (.string mti) := by simp [World.cell?, hx1]
  have HKN : Hid (k < n ∧ base ≤ x.heap.size ∧ base ≤ g) := ⟨hk, hbase, h.lowg⟩
  have HMB : Hid ((∀ i, i < 8 → mism M (F k) i = false) ↔ B = true) := hB
  have q0 : (k : Int) < (n : Int) := by omega
  have q1 : (0 : Int) ≤ (k : Int) := by omega
  subst ev
  obtain ⟨N, HN⟩ : ∃ N, Hid (M.length = N) := ⟨_, rfl⟩
  rw [HN.out] at HW1 hx1 HGT HB1
  rw [HN.out]
  clear h hb1 hx1 he hm hr hl hs hT hB hb
  obtain ⟨f, hf⟩ : ∃ f, F k = f := ⟨_, rfl⟩
  have HFK : Hid (F k = f) := hf
  rw [hf] at HFS HMB
  clear hf
  go_enter Tryd.func8, Tryd.ntmps8
  go_wp2_with (first | (rw [HW1.out]) | fail)
  refine HH.out.mono ?_
  rintro e y ⟨rfl, rfl⟩
  go_wp2_with fail
  refine HR.out.mono ?_
  rintro e y2 ⟨rfl, hy2⟩
  have hbk2 := HB1.out.1.below hy2
  have HB2 : Hid (BkT y2 base b g n F ∧ Below x.heap.size x y2 ∧ y2.heap[x.heap.size]? = some (.cells #[.string mti, .slice o N cap] tMs (0, 0)) ∧ RowF y2 (.slice o N cap) M) := ⟨hbk2, keepB HB1.out.2.1 hy2, kept hy2 HB1.out.2.2.1, rowf_below HB1.out.2.2.2 hy2⟩
  have c2 := hbk2.cell
  have hrow := hbk2.rows k HKN.out.1
  rw [HFK.out] at hrow
  have hu : Tryd.prog.underlying tTa = _ := Tryd.underlying53
  clear hy2 hbk2 m0
  go_wp2_with (first
    | (refine wpList_load_mid rfl tTa _ rfl g (k * 12) (by rfl) (ta f).toList _ hrow hu rfl infoTa ?_)
    | fail)
  refine (HFS.out _ HB2.out.2.1).mono ?_
  rintro e y3 ⟨lv, rfl, ho, hy3⟩
  have HS3 : Hid (Sz x base b g n F x.heap.size mti (.slice o N cap) M lv f y3) := ⟨HB2.out.1.below hy3, kept hy3 HB2.out.2.2.1, rowf_below HB2.out.2.2.2 hy3, rowf_own (by simpa [FL_len] using ho), keepB HB2.out.2.1 hy3⟩
  obtain ⟨ol, cl, rfl, -⟩ := id HS3.out.lst
  rw [FL_len] at HS3
  rw [FL_len]
  clear ho hy3 c2 hrow
  go_wp2_with fail
  go_loopw [9, 10, 11, 31] (fun _ _ _ iv wr => ∃ i : Nat, iv = .int .i64 (i : Int) ∧ Hid (i ≤ 8 ∧ ∀ j, j < i → mism M f j = false) ∧ Hid (Sz x base b g n F x.heap.size mti (.slice o N cap) M (.slice ol 8 cl) f wr)) (fun _ _ _ iv _ => 9 - (intOf iv).toNat)
  case atStart => exact ⟨0, rfl, ⟨Nat.zero_le _, fun j hj => absurd hj (Nat.not_lt_zero _)⟩, HS3.out⟩
  case round =>
    obtain ⟨i, rfl, HI, HS⟩ := hrel
    by_cases hi : i < 8
    · obtain ⟨o', c', e', hc⟩ := HS.out.lst
      rw [FL_len] at e'
      cases e'
      obtain ⟨a, rfl, c0, c1, c3⟩ := hc i (by rw [FL_len]; exact hi)
      rw [FL_at f i (by rw [FL_len]; exact hi)] at c0 c1
      dsimp only at c0 c1
      have HG : Hid (∀ y, RowF y (.slice o N cap) M → Calls Tryd.prog 16 #[.agg #[.string mti, .slice o N cap], .int .i64 (fldN i)] y fun e w' => e = .returned (.tuple #[.string (getV M (fldN i)), .bool (getB M (fldN i))]) ∧ Below y.heap.size y w') := fun y hy => HGT.out y hy i
      have hmm : mism M f i = (getB M (fldN i) && !((getV M (fldN i)).toList == (valN f i).toList)) := rfl
      have HI8 : Hid (i < 8) := hi
      obtain ⟨FN, hFN⟩ : ∃ FN, fldN i = FN := ⟨_, rfl⟩
      obtain ⟨VL, hVL⟩ : ∃ VL, valN f i = VL := ⟨_, rfl⟩
      rw [hFN] at c0 HG hmm
      rw [hVL] at c1 hmm
      obtain ⟨GV, hGV⟩ : ∃ GV, getV M FN = GV := ⟨_, rfl⟩
      obtain ⟨GB, hGB⟩ : ∃ GB, getB M FN = GB := ⟨_, rfl⟩
      rw [hGV, hGB] at HG hmm
      obtain ⟨W4, HW4⟩ : ∃ W4, Hid (wr.alloc (.cells #[.int .i64 FN, .string VL, .slice none 0 0] tF) = W4) := ⟨_, rfl⟩
      have hx4 : W4.heap[wr.heap.size]? = some (.cells #[.int .i64 FN, .string VL, .slice none 0 0] tF (0, 0)) := HW4.out ▸ h1_0 _ _
      have HS4 : Hid (Sz x base b g n F x.heap.size mti (.slice o N cap) M (.slice (some a) 8 cl) f W4) := HW4.out ▸ HS.out.below (below_one _ _)
      have hbox := HS4.out.box
      have d0 : W4.cell? ⟨wr.heap.size, 0, none⟩ = some (.int .i64 FN) := by simp [World.cell?, hx4]
      have HX4 : Hid (W4.heap[wr.heap.size]? = some (.cells #[.int .i64 FN, .string VL, .slice none 0 0] tF (0, 0))) := hx4
      have q2 : (i : Int) < 8 := by omega
      have q3 : (0 : Int) ≤ (i : Int) := by omega
      have q4 : (i : Int) + 1 ≤ 9223372036854775807 := by omega
      clear hc hFN hVL hGV hGB hx4 hi
      go_wp2_with (first
        | (rw [HW4.out])
        | (refine wpList_load_row rfl tMs _ rfl x.heap.size rfl _ _ _ _ hbox Tryd.underlying42 rfl (by kernel_rfl) ?_)
        | fail)
      refine (HG.out _ HS4.out.row).mono ?_
      rintro e y5 ⟨rfl, hy5⟩
      have HS5 : Hid (Sz x base b g n F x.heap.size mti (.slice o N cap) M (.slice (some a) 8 cl) f y5) := HS4.out.below hy5
      have hx5 := kept hy5 HX4.out
      have d1 : y5.cell? ⟨wr.heap.size, 1, none⟩ = some (.string VL) := by simp [World.cell?, hx5]
      clear hy5 hx5 d0 hbox c0 c1 c3
      cases GB
      · have HNM : Hid (mism M f i = false) := by rw [hmm]; rfl
        clear hmm
        go_wp2_with fail
        refine ⟨⟨i + 1, by simp, ⟨by have := HI8.out; show i + 1 ≤ 8; omega, fun j hj => ?_⟩, HS5.out⟩, ?_⟩
        · rcases Nat.lt_succ_iff_lt_or_eq.1 hj with h | h
          · exact HI.out.2 j h
          · subst h; exact HNM.out
        · have := HI8.out
          simp only [intOf]; omega
      · cases hq : (GV.toList == VL.toList)
        · rw [hq] at hmm
          have hBf : B = false := by
            cases B
            · rfl
            · have := HMB.out.2 rfl i HI8.out
              rw [hmm] at this; cases this
          subst hBf
          clear hmm
          go_wp2_with fail
          go_ret2
          exact ⟨rfl, by rw [← HG2.out]; simpa using HS5.out.bk, HS5.out.bel.mono HKN.out.2.1, fun q hq _ => HS5.out.bel.block q hq, HS5.out.bel.size⟩
        · rw [hq] at hmm
          have HNM : Hid (mism M f i = false) := by rw [hmm]; rfl
          obtain rfl : GV = VL := bytes_ext (beq_iff_eq.1 hq)
          clear hmm hq
          go_wp2_with fail
          refine ⟨⟨i + 1, by simp, ⟨by have := HI8.out; show i + 1 ≤ 8; omega, fun j hj => ?_⟩, HS5.out⟩, ?_⟩
          · rcases Nat.lt_succ_iff_lt_or_eq.1 hj with h | h
            · exact HI.out.2 j h
            · subst h; exact HNM.out
          · have := HI8.out
            simp only [intOf]; omega
    · obtain rfl : i = 8 := by have := HI.out.1; omega
      have hBt : B = true := HMB.out.1 HI.out.2
      subst hBt
      have c4 := HS.out.bk.cell
      have hth : wr.there g (k * 12) (ta fun _ => 0).size := HS.out.bk.there k HKN.out.1
      have HFIN : Hid (BkT (wr.setCells g (k * 12) (ta fun _ => 0).toList) base b g n (updF F k fun _ => 0) ∧ Below base x (wr.setCells g (k * 12) (ta fun _ => 0).toList) ∧ (∀ q, q < x.heap.size → q ≠ g → (wr.setCells g (k * 12) (ta fun _ => 0).toList).heap[q]? = x.heap[q]?) ∧ x.heap.size ≤ (wr.setCells g (k * 12) (ta fun _ => 0).toList).heap.size) := ⟨bk_zero HS.out.bk k HKN.out.1, setCells_below HKN.out.2.2 _ _ _ (HS.out.bel.mono HKN.out.2.1), fun q hq hne => (setCells_heap_ne (Ne.symm hne) _ _ _).trans (HS.out.bel.block q hq), Nat.le_trans HS.out.bel.size (setCells_size ..)⟩
      clear hi
      go_wp2_with (first
        | (refine wpList_store_mid rfl tTa _ _ rfl g (k * 12) (ta fun _ => 0) (by rfl) (by rfl) hth infoTa (by simp [ta, Value.oneCell']) ?_)
        | fail)
      go_ret2
      exact ⟨rfl, by rw [← HG2.out]; simpa using HFIN.out.1, HFIN.out.2⟩
end Go.Proofs.YteaanenhefbkjaaDoor.Xc
