/- totals: the table toldIn; digitsOf, isReconciliation, fields. -/
import Derived.Test.YteaanenhefbkjaaDoorTf
import Derived.Test.YteaanenhefbkjaaDoorWd
import Derived.Deep.MidRow
import Derived.BigQuiet
import Derived.OwnWalk
import Derived.Deep.AppendLies
namespace Go.Proofs.YteaanenhefbkjaaDoor.Xa
set_option linter.unusedVariables false
set_option linter.unusedSimpArgs false
open Go.RowKit Lib0 Kb Xp Ic Ta Hp Hr Ht Hu Tb Tc Td Te Tf
attribute [local go_sem] Oper.semAt_some
abbrev gTo : Nat := 0
abbrev Pow (w : World) : Prop := Lib.TabIs Tryd.prog w "internal/strconv.uint64pow10" .u64 Lib.pow10Tab
theorem gPow : Tryd.prog.globalNamed "internal/strconv.uint64pow10" = some 1 := by kernel_rfl
theorem Pow.next {w w' : World} (h : Pow w) (hb : Below w.heap.size w w') : Pow w' := by
  unfold Pow Lib.TabIs World.var? at *
  rw [gPow] at *
  simp only [Option.bind_some] at *
  cases ho : w.heap[1]? with
  | none => rw [ho] at h; simp at h
  | some o => rw [hb.block _ (Array.getElem?_eq_some_iff.1 ho).1]; exact h
def toldC : List Value := [.int .i64 74, .int .i64 4, .int .i64 75, .int .i64 5, .int .i64 76, .int .i64 6, .int .i64 77, .int .i64 7, .int .i64 86, .int .i64 8, .int .i64 87, .int .i64 9, .int .i64 88, .int .i64 10, .int .i64 89, .int .i64 11]
/-- the tables that are laid -/
structure Tb (w : World) : Prop where
  pow : Pow w
  told : w.rangeAt gTo 0 toldC
theorem Tb.next {w x : World} (h : Tb w) (hb : Below w.heap.size w x) : Tb x :=
  ⟨h.pow.next hb, fun j v hv => (hb.cell (World.block_lt_of_cell? _ _ (h.told j v hv))).trans (h.told j v hv)⟩
def fldN (i : Nat) : Int := [74, 75, 76, 77, 86, 87, 88, 89].getD i 0
def widN (i : Nat) : Nat := if 4 ≤ i then 16 else 10
def valN (f : Nat → Int) (i : Nat) : ByteArray := ⟨(Wd.dgs (widN i) (f (4 + i)).toNat).toArray⟩
def FL (f : Nat → Int) (i : Nat) : List Fl := (List.range i).map fun j => (fldN j, valN f j)
theorem FL_succ (f : Nat → Int) (i : Nat) : FL f (i + 1) = FL f i ++ [(fldN i, valN f i)] := by
  unfold FL
  rw [List.range_succ, List.map_append]; rfl
theorem FL_len (f : Nat → Int) (i : Nat) : (FL f i).length = i := by unfold FL; simp
theorem eight {k : Nat} (h : k < 8) : k = 0 ∨ k = 1 ∨ k = 2 ∨ k = 3 ∨ k = 4 ∨ k = 5 ∨ k = 6 ∨ k = 7 := by omega
abbrev tAr : TypeId := 71
theorem told_ix (i : Nat) (hi : i < 8) (w : World) : (Instr.index tAr (.agg toldC.toArray) (.int .i64 (i : Int))).run Tryd.prog w = .ok (.agg #[.int .i64 (fldN i), .int .i64 ((4 + i : Nat) : Int)]) w := by
  rcases eight hi with rfl | rfl | rfl | rfl | rfl | rfl | rfl | rfl <;> kernel_rfl
theorem infoAr : (Tryd.prog.info? tAr).map (·.size) = some toldC.length := by kernel_rfl
theorem write_ok (f : Nat → Int) (i : Nat) (hi : i < 8) (hb : 0 ≤ f (4 + i) ∧ f (4 + i) ≤ mostK (4 + i)) : Wd.writeR (f (4 + i)) (widN i : Int) = (Wd.dgs (widN i) (f (4 + i)).toNat, 0) := by
  unfold mostK at hb
  unfold Wd.writeR widN
  by_cases h : 4 ≤ i
  · rw [if_pos h]
    rw [if_pos (by omega)] at hb
    rw [if_neg (by omega), if_pos (by show (f (4 + i)).toNat < 10 ^ 16; omega)]
    rfl
  · rw [if_neg h]
    rw [if_neg (by omega)] at hb
    rw [if_neg (by omega), if_pos (by show (f (4 + i)).toNat < 10 ^ 10; omega)]
    rfl
theorem digitsOf_any (i : Nat) (hi : i < 8) (w : World) : Calls Tryd.prog 25 #[.int .i64 ((4 + i : Nat) : Int)] w fun e w' => e = .returned (.int .i64 (widN i : Int)) ∧ w' = w := by
  obtain ⟨k, hk⟩ : ∃ k, 4 + i = k := ⟨_, rfl⟩
  have hw : (widN i : Int) = if 8 ≤ k then 16 else 10 := by
    unfold widN
    by_cases h : 4 ≤ i
    · rw [if_pos h, if_pos (by omega)]; rfl
    · rw [if_neg h, if_neg (by omega)]; rfl
  rw [hk, hw]
  clear hw hk hi
  have HS : Hid (∀ y, Calls Tryd.prog 36 #[.int .i64 (k : Int)] y fun e w' => e = .returned (.bool (decide (8 ≤ k))) ∧ w' = y) := fun y => by
    go_enter Tryd.func36, Tryd.ntmps36
    by_cases h : 8 ≤ k
    · have q : (8 : Int) ≤ (k : Int) := by omega
      have q2 : decide (8 ≤ k) = true := decide_eq_true h
      go_wp2_with fail
      go_ret
      exact ⟨by simp [h], rfl⟩
    · have q : decide ((8 : Int) ≤ (k : Int)) = false := decide_eq_false (by omega)
      go_wp2_with fail
      go_ret
      exact ⟨by simp [h], rfl⟩
  go_enter Tryd.func25, Tryd.ntmps25
  go_wp2_with fail
  refine (HS.out _).mono ?_
  rintro e y ⟨rfl, rfl⟩
  by_cases h : 8 ≤ k
  · rw [decide_eq_true h]
    go_wp2_with fail
    go_ret
    exact ⟨rfl, rfl⟩
  · rw [decide_eq_false h]
    go_wp2_with fail
    go_ret
    exact ⟨rfl, rfl⟩
theorem owns_keep {w w' : World} {b e s n : Nat} {v : Value} {xs : List Value} (h : w.ownsRow b e s v n xs) (hk : ∀ p, v.ownBlock = some p → w'.heap[p]? = w.heap[p]?) : w'.ownsRow b e s v n xs := by
  refine ⟨h.1, ?_⟩
  rcases h.2 with h2 | ⟨g, c, cur, rfl, hb, hg, r⟩
  · exact .inl h2
  · exact .inr ⟨g, c, cur, rfl, hb, (hk g rfl).trans hg, r⟩
theorem isRec_any (s : ByteArray) (hl : s.size ≤ 1000) (b : Bool) (hb : (dg s 1 == 5 && dg s 2 == 0) = b) (w : World) : Calls Tryd.prog 15 #[.string s] w fun e w' => e = .returned (.bool b) ∧ Below w.heap.size w w' := by
  have H : Hid (∀ y, Calls Tryd.prog 26 #[.string s] y fun e w' => e = .returned (.int .i64 (dg s 1)) ∧ Below y.heap.size y w') := fun y => class_b s hl y
  have H2 : Hid (∀ y, Calls Tryd.prog 27 #[.string s] y fun e w' => e = .returned (.int .i64 (dg s 2)) ∧ Below y.heap.size y w') := fun y => function_b s hl y
  generalize dg s 1 = C at *
  generalize dg s 2 = E at *
  go_enter Tryd.func15, Tryd.ntmps15
  go_wp2_with fail
  refine (H.out _).mono ?_
  rintro e y ⟨rfl, hy⟩
  have HY : Hid (Below w.heap.size w y) := hy
  clear hy
  cases h1 : (C == 5)
  · rw [h1, Bool.false_and] at hb
    subst hb
    go_wp2_with fail
    go_ret
    exact ⟨rfl, HY.out⟩
  · rw [h1, Bool.true_and] at hb
    go_wp2_with fail
    refine (H2.out _).mono ?_
    rintro e y2 ⟨rfl, hy2⟩
    have HY2 : Hid (Below w.heap.size w y2) := keepB HY.out hy2
    clear hy2
    go_wp2_with fail
    go_ret
    exact ⟨rfl, HY2.out⟩
theorem infoF : ∃ i, Tryd.prog.info? tF = some i ∧ i.zero = some (.agg #[.int .i64 0, .string ⟨#[]⟩, .slice none 0 0]) ∧ i.size = 3 ∧ i.bytes = 48 := by
  have h : (Tryd.prog.info? tF).map (fun i => (i.zero, i.size, i.bytes)) = some (some (.agg #[.int .i64 0, .string ⟨#[]⟩, .slice none 0 0]), 3, 48) := by kernel_rfl
  cases e : Tryd.prog.info? tF with
  | none => rw [e] at h; cases h
  | some i => rw [e] at h; simp at h; exact ⟨i, rfl, h.1, h.2.1, h.2.2⟩
/-- the list while it grows -/
structure Fz (w : World) (f : Nat → Int) (x : World) (v : Value) (i : Nat) : Prop where
  own : x.ownsRow w.heap.size tF 3 v i (fc (FL f i))
  box : x.heap[w.heap.size]? = some (.cells (ta f) tTa (0, 0))
  bel : Below w.heap.size w x
theorem own_ty2 {y : World} {B e s n : Nat} {v : Value} {xs : List Value} (h : y.ownsRow B e s v n xs) (q : Nat) (hq : v.ownBlock = some q) : ∃ c fr, y.heap[q]? = some (.cells c e fr) := by
  rcases h.2 with ⟨rfl, _⟩ | ⟨g, cap, cur, rfl, _, hg, _⟩
  · cases hq
  · cases hq; exact ⟨_, _, hg⟩
theorem Fz.below {w x y : World} {f : Nat → Int} {v : Value} {i : Nat} (h : Fz w f x v i) (k : Below x.heap.size x y) : Fz w f y v i :=
  ⟨owns_keep h.own fun q hq => k.block q (h.own.lt q hq).2, kept k h.box, keepB h.bel k⟩
theorem Fz.push {w x z : World} {f : Nat → Int} {v v2 : Value} {i : Nat} (h : Fz w f x v i) (hg : x.grownBy z v.ownBlock) (ho : z.ownsRow w.heap.size tF 3 v2 (i + 1) (fc (FL f i) ++ [.int .i64 (fldN i), .string (valN f i), .slice none 0 0])) : Fz w f z v2 (i + 1) := by
  have hlt : w.heap.size < x.heap.size := (Array.getElem?_eq_some_iff.1 h.box).1
  refine ⟨?_, ?_, h.bel.grown hg (by omega) (fun k hk => (h.own.lt k hk).1)⟩
  · rw [FL_succ, fc_append]; exact ho
  · rw [hg.block _ hlt (fun e => ?_)]
    · exact h.box
    · obtain ⟨c, fr, hc⟩ := own_ty2 h.own w.heap.size e.symm
      rw [h.box] at hc
      injection hc with hc; injection hc with _ hc; exact absurd hc (by decide)
set_option maxRecDepth 100000 in
set_option maxHeartbeats 6400000 in
theorem fields_any (f : Nat → Int) (hb : ∀ j, j < 12 → 0 ≤ f j ∧ f j ≤ mostK j) (w : World) (hT : Tb w) : Calls Tryd.prog 14 #[.agg (ta f)] w fun e w' => ∃ v, e = .returned v ∧ w'.ownsRow w.heap.size tF 3 v 8 (fc (FL f 8)) ∧ Below w.heap.size w w' := by
  obtain ⟨i0, hi0, hz0, hz1, hz2⟩ := infoF
  have HTW : Hid (∀ y, Below w.heap.size w y → Tb y) := fun y hy => hT.next hy
  have HD : Hid (∀ (i : Nat), i < 8 → ∀ y, Calls Tryd.prog 25 #[.int .i64 ((4 + i : Nat) : Int)] y fun e w' => e = .returned (.int .i64 (widN i : Int)) ∧ w' = y) := fun i hi y => digitsOf_any i hi y
  have HWR : Hid (∀ (i : Nat), i < 8 → ∀ y, Below w.heap.size w y → Calls Tryd.prog 24 #[.int .i64 (f (4 + i)), .int .i64 (widN i : Int)] y fun e w' => e = .returned (.tuple #[.string (valN f i), .int .i64 0]) ∧ Below y.heap.size y w') := fun i hi y hy => by
    have h8 := hb (4 + i) (by omega)
    have h9 := Wd.write_any (f (4 + i)) (widN i : Int) y (by have := h8.2; unfold mostK at this; split at this <;> omega) (hT.next hy).pow
    rw [write_ok f i hi h8] at h9
    exact h9
  have HS0 : Hid (Fz w f (w.alloc (.cells (ta f) tTa)) (.slice none 0 0) 0) := ⟨World.ownsRow_nil _ _ _ _, h1_0 _ _, below_one _ _⟩
  have htd := (hT.next (below_one w (.cells (ta f) tTa))).told
  have HIX : Hid (∀ (i : Nat), i < 8 → ∀ y, (Instr.index 71 (.agg toldC.toArray) (.int .i64 (i : Int))).run Tryd.prog y = .ok (.agg #[.int .i64 (fldN i), .int .i64 ((4 + i : Nat) : Int)]) y) := fun i hi y => told_ix i hi y
  have hiA := infoAr
  have HAG : Hid (∀ i, i < 8 → (ta f)[4 + i]? = some (.int .i64 (f (4 + i)))) := fun i hi => ta_at f (4 + i) (by omega)
  obtain ⟨TF, HTF⟩ : ∃ TF, Hid (ta f = TF) := ⟨_, rfl⟩
  obtain ⟨TC, HTC⟩ : ∃ TC, Hid (toldC = TC) := ⟨_, rfl⟩
  rw [HTC.out] at htd HIX hiA
  rw [HTF.out] at HS0 HAG htd
  rw [HTF.out]
  clear hb hT
  go_enter Tryd.func14, Tryd.ntmps14
  go_wp2_with (first
    | (refine wpList_load_mid rfl 71 _ rfl gTo 0 (by rfl) TC _ htd Tryd.underlying71 rfl hiA ?_)
    | fail)
  clear htd
  go_loopw [3, 5, 6, 7, 9] (fun lv _ _ _ kv wr => ∃ i : Nat, kv = .int .i64 (i : Int) ∧ Hid (i ≤ 8) ∧ Hid (Fz w f wr lv i)) (fun _ _ _ _ kv _ => 9 - (intOf kv).toNat)
  case atStart => exact ⟨0, rfl, Nat.zero_le _, HS0.out⟩
  case round =>
    obtain ⟨i, rfl, HI, HF⟩ := hrel
    by_cases hi : i < 8
    · have HI8 : Hid (i < 8) := hi
      have ht := fun y => HIX.out i hi y
      have hd : Hid (∀ y, Calls Tryd.prog 25 #[.int .i64 ((4 + i : Nat) : Int)] y fun e w' => e = .returned (.int .i64 (widN i : Int)) ∧ w' = y) := HD.out i hi
      have hw : Hid (∀ y, Below w.heap.size w y → Calls Tryd.prog 24 #[.int .i64 (f (4 + i)), .int .i64 (widN i : Int)] y fun e w' => e = .returned (.tuple #[.string (valN f i), .int .i64 0]) ∧ Below y.heap.size y w') := HWR.out i hi
      have hag := HAG.out i hi
      obtain ⟨k, hk⟩ : ∃ k, 4 + i = k := ⟨_, rfl⟩
      have hk12 : k < 12 := by omega
      obtain ⟨V, hV⟩ : ∃ V, f (4 + i) = V := ⟨_, rfl⟩
      obtain ⟨WN, hWN⟩ : ∃ WN, (widN i : Int) = WN := ⟨_, rfl⟩
      obtain ⟨VL, hVL⟩ : ∃ VL, valN f i = VL := ⟨_, rfl⟩
      obtain ⟨FN, hFN⟩ : ∃ FN, fldN i = FN := ⟨_, rfl⟩
      rw [hV, hWN, hVL] at hw
      rw [hWN, hk] at hd
      rw [hV, hk] at hag
      simp only [hFN, hk] at ht
      have HE : Hid (valN f i = VL ∧ fldN i = FN) := ⟨hVL, hFN⟩
      obtain ⟨W1, HW1⟩ : ∃ W1, Hid (wr.alloc (.cells #[.int .i64 FN, .int .i64 (k : Int)] 70) = W1) := ⟨_, rfl⟩
      have hx1 : W1.heap[wr.heap.size]? = some (.cells #[.int .i64 FN, .int .i64 (k : Int)] 70 (0, 0)) := HW1.out ▸ h1_0 _ _
      have HF1 : Hid (Fz w f W1 u3 i) := HW1.out ▸ HF.out.below (below_one _ _)
      have hbx := HF1.out.box
      rw [HTF.out] at hbx
      have d0 : W1.cell? ⟨wr.heap.size, 0, none⟩ = some (.int .i64 FN) := by simp [World.cell?, hx1]
      have d1 : W1.cell? ⟨wr.heap.size, 1, none⟩ = some (.int .i64 (k : Int)) := by simp [World.cell?, hx1]
      have b0 : W1.cell? ⟨w.heap.size, k, none⟩ = some (.int .i64 V) := by simp [World.cell?, hbx, hag]
      have ld : wr.heap.size < W1.heap.size := (Array.getElem?_eq_some_iff.1 hx1).1
      have lb : w.heap.size < W1.heap.size := (Array.getElem?_eq_some_iff.1 hbx).1
      have q0 : (i : Int) < 8 := by omega
      have q1 : (0 : Int) ≤ (i : Int) := by omega
      have q2 : (i : Int) + 1 ≤ 9223372036854775807 := by omega
      have q3 : (k : Int) < 12 := by omega
      have q4 : (0 : Int) ≤ (k : Int) := by omega
      clear hi hk hk12 hV hWN hVL hFN hag hbx hx1
      go_wp2_with (first | (rw [HW1.out]) | fail)
      refine Ql.region_cl (by kernel_rfl) (by kernel_rfl) ?_
      try dsimp only [Act.put]
      repeat (first | go_big_quiet_skip | (go_big_quiet_want; go_big_quiet_op; first | go_big_quiet_on | (refine ⟨_, fun _ _ => rfl, ?_⟩; go_big_quiet_on) | (refine ⟨_, fun _ _ => ⟨rfl, rfl⟩, ?_⟩; go_big_quiet_on)) | (refine wpQuiet_step (fun K hK => ?_); first
        | (refine Ql.q_cell (by rfl) 3 _ rfl wr.heap.size 1 rfl _ d1 ld (fun y => Tryd.isAgg3 y) (hK _ ?_); clear hK K; simp only [Act.put, List.setIfInBounds_toArray, List.set_cons_succ, List.set_cons_zero])
        | (refine Ql.q_cell (by rfl) 3 _ rfl w.heap.size k rfl _ b0 lb (fun y => Tryd.isAgg3 y) (hK _ ?_); clear hK K; simp only [Act.put, List.setIfInBounds_toArray, List.set_cons_succ, List.set_cons_zero])
        | (go_simp; apply Exists.intro; refine ⟨fun y hy => ?_, hK _ ?_⟩; (first | (go_at_call 25; exact Ql.cl_same hy (hd.out _)) | (go_at_call 24; exact Ql.cl_of hy (hw.out _ (keepB HF1.out.bel hy)))); clear hK K)
        | fail))
      refine wpQuiet_nil ?_
      intro y hy
      have HFy : Hid (Fz w f y u3 i) := HF1.out.below hy
      have d0' : y.cell? ⟨wr.heap.size, 0, none⟩ = some (.int .i64 FN) := (hy.cell ld).trans d0
      have HFa : Hid (Fz w f (y.alloc (.cells #[.int .i64 FN, .string VL, .slice none 0 0] tF)) u3 i) := HFy.out.below (below_one _ _)
      clear hy d0 d1 b0 ld lb
      go_wp2_with (first | (at_builtin; refine wpList_append_lies _ rfl _ _ _ rfl w.heap.size tF i0 _ 3 48 Tryd.underlying32 hi0 hz0 hz1 hz2 rfl (by decide) _ i (fc (FL f i)) rfl HFa.out.own ⟨y.heap.size, 0, none⟩ 1 1 [.int .i64 FN, .string VL, .slice none 0 0] rfl (by rfl) (World.news_of_block (h1_0 y _)) (by simp [Value.oneCell']) (by decide) (by have := HI8.out; unfold maxLen; omega) (by have := HI8.out; omega) HFa.out.bel.size _ rfl ?_; intro gg cap2 z1 hown hgrow hat hlt1; have HPU : Hid _ := HFa.out.push hgrow (by rw [HE.out.1, HE.out.2]; exact hown); clear hown hgrow hat hlt1) | fail)
      refine ⟨⟨i + 1, by simp, by have := HI8.out; show i + 1 ≤ 8; omega, HPU.out⟩, ?_⟩
      have := HI8.out
      simp only [intOf]; omega
    · obtain rfl : i = 8 := by have := HI.out; omega
      clear hi
      go_wp2_with fail
      go_ret
      exact ⟨_, rfl, HF.out.own, HF.out.bel⟩
end Go.Proofs.YteaanenhefbkjaaDoor.Xa
