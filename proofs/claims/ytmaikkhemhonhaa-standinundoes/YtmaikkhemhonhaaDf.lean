/- What of a record counts. -/
import Derived.Test.YtmaikkhemhonhaaDe
import Derived.Sort.OwnSorted
namespace Go.Proofs.Ytmaikkhemhonhaa.Df
set_option linter.unusedVariables false
set_option linter.unusedSimpArgs false
open Go.RowKit Go.Maps Lib0 Kb Xp Da Db Dc Dd De
attribute [local go_sem] Oper.semAt_some
theorem eg48 (args : Array Value) (w : World) : (callFunc 48 args).run Try.prog w = .ok (.enter 48 args) w := by kernel_rfl
theorem eg49 (args : Array Value) (w : World) : (callFunc 49 args).run Try.prog w = .ok (.enter 49 args) w := by kernel_rfl
abbrev tT : TypeId := 101
theorem ranges_keep {x y : World} {k : TypeId} {R : Value → Option (DataW Value × List MemPlace)} {b r n : Nat} {D : DataW Value} {left : Lit → Bool} {cnt : Nat} (h : x.ranges Try.prog k R b r n D left cnt) (hk : Below x.heap.size x y) : y.ranges Try.prog k R b r n D left cnt := by
  obtain ⟨es, clock, since, seen, c0, hb, F, hs, hD, hr, rest⟩ := h
  exact ⟨es, clock, since, seen, c0, (hk.block _ (Array.getElem?_eq_some_iff.1 hb).1).trans hb, F, hs, hD, (hk.block _ (Array.getElem?_eq_some_iff.1 hr).1).trans hr, rest⟩
set_option maxRecDepth 100000 in
set_option maxHeartbeats 3200000 in
theorem usedR_any {w : World} {base : Nat} {a : Rc} {pl : Int} (h : RM w base a pl) (t : Int) : Calls Try.prog 36 #[.pointer (some ⟨a.gr, 0, none⟩), .int .i64 t] w fun e w' => e = .returned (.tuple #[.int .i64 ((la a.L t).length : Int), .int .i64 (uS (la a.L t))]) ∧ Below w.heap.size w w' := by
  obtain ⟨c0, c1, c2, c3, c4, -⟩ := h.cells
  have HRM : Hid (RM w base a pl) := h
  obtain ⟨i0, hi, hz0, hz1, hz2⟩ := infoTy
  have hown := h.2.own
  have hbl := hown.lt
  have hsz := h.2.one.size
  have HC : Hid (∀ y, Below w.heap.size w y → Calls Try.prog 46 #[.pointer (some ⟨a.gs, 0, none⟩), .int .i64 t] y fun e w' => e = .returned (tlv ((la a.L t).length : Int) (uS (la a.L t))) ∧ Below y.heap.size y w') := fun y hy => usedS_any (h.below hy).2.sh t h.2.up (by have := h.2.len; omega) h.2.am
  have HONE : Hid (One1 a.D a.op a.gs) := h.2.one
  have HLE : Hid ((la a.L t).length ≤ 999 ∧ 0 ≤ uS (la a.L t) ∧ uS (la a.L t) ≤ 999999999999 * 999) := by
    have h1 : (la a.L t).length ≤ 999 := Nat.le_trans (List.length_filter_le _ _) h.2.len
    have h2 : Am (la a.L t) := fun x hx => h.2.am x (List.mem_filter.1 hx).1
    have h3 := h2.sum
    exact ⟨h1, h3.1, by omega⟩
  obtain ⟨C, hC⟩ : ∃ C : Int, ((la a.L t).length : Int) = C := ⟨_, rfl⟩
  obtain ⟨U, hU⟩ : ∃ U : Int, uS (la a.L t) = U := ⟨_, rfl⟩
  have HLE2 : Hid (I64 C ∧ I64 U) := ⟨⟨by have := HLE.out; omega, by have := HLE.out; omega⟩, ⟨by have := HLE.out; omega, by have := HLE.out; omega⟩⟩
  rw [hC, hU] at HC
  rw [hC, hU]
  have hmax : Maps.size a.D ≤ maxLen := by rw [hsz]; decide
  have HSZ : Hid (Maps.size a.D = 1) := hsz
  clear h hC hU HLE c0 c2 c3 c4
  generalize a.gr = GR at *
  generalize a.gs = GS at *
  generalize a.gm = GM at *
  generalize a.op = OP at *
  generalize a.nm = NM at *
  generalize a.D = D at *
  clear HRM
  go_enter Try.func36, Try.ntmps36
  go_wp2_with (first
    | (at_len; refine wpList_len_own _ rfl _ tM rfl tI tPS Try.underlying88 _ GM NM _ rfl hown ?_)
    | (at_make; refine wpList_make_own _ rfl _ _ 99 rfl w.heap.size tT i0 (.agg #[.int .i64 0, .int .i64 0]) 2 Try.underlying99 hi hz0 hz1 _ _ _ (Maps.size D) rfl rfl rfl (by rw [hz2, hsz]; decide) hmax (Nat.le_refl _) ?_; intro w1 hrow1 hg1; have c1b := keepC ((Below.refl _ _).grown hg1 (Nat.le_refl _) (fun j hj => by cases hj)) c1 (World.block_lt_of_cell? w _ c1))
    | (at_range; refine wpList_range_own _ rfl _ tM rfl tI tPS law Try.underlying88 _ GM NM _ rfl (hown.kept hg1 (by simp)) ?_; intro w0 hrg0 hg0 hs0)
    | go_in)
  go_frame
  have HG1 : Hid (w.grownBy w1 none) := hg1
  rw [hsz] at hrow1
  have HT : Hid (∀ (fn : FuncId) (r : Int) (g cap : Nat) (x : World), (∀ y, Calls Try.prog fn #[.agg #[.int .i64 C, .int .i64 U]] y fun e w' => e = .returned (.int .i64 r) ∧ Below y.heap.size y w') → (∀ args w, (callFunc fn args).run Try.prog w = .ok (.enter fn args) w) → I64 r → x.ownsRow w.heap.size tT 2 (.slice (some ⟨g, 0, none⟩) 1 cap) 1 [.int .i64 C, .int .i64 U] → Calls Try.prog 47 #[.slice (some ⟨g, 0, none⟩) 1 cap, .func (.func fn) #[] #[]] x fun e w' => e = .returned (.int .i64 r) ∧ Below x.heap.size x w') := fun fn r g cap x h1 h2 h3 h4 => total1_any fn g cap C U r x ⟨by have := h4.cells (g := g) rfl 0 _ rfl; simpa [add_zero] using this, by have := h4.cells (g := g) rfl 1 _ rfl; simpa [add_zero] using this⟩ h3 h1 h2
  go_loopw [6] (fun v wr => ∃ (left : Lit → Bool) (cnt : Nat), Hid (wr.ranges Try.prog tI heldP GM w1.heap.size NM D left cnt) ∧ Hid (Below w.heap.size w wr) ∧
      ((∃ g cap, v = .slice (some ⟨g, 0, none⟩) 0 cap ∧ Hid (wr.ownsRow w.heap.size tT 2 v 0 [] ∧ left (.int .i64 OP) = true ∧ ∀ l, left l = true → l = .int .i64 OP)) ∨ (∃ g cap, v = .slice (some ⟨g, 0, none⟩) 1 cap ∧ Hid (wr.ownsRow w.heap.size tT 2 v 1 [.int .i64 C, .int .i64 U] ∧ ∀ l, left l = false))))
    (fun _ wr => wr.rangeLeft GM w1.heap.size)
  case atStart =>
    refine ⟨_, _, hrg0, ((Below.refl _ _).grown hg1 (Nat.le_refl _) (fun j hj => by cases hj)).grown hg0 hg1.size (fun j hj => by cases hj), .inl ⟨_, _, rfl, hrow1.kept hg0 (Or.inr (by simp [Value.ownBlock])), (HONE.out.has _).2 rfl, fun l hl => (HONE.out.has l).1 hl⟩⟩
  case round =>
    obtain ⟨left, cnt, HRG, HB, hcase⟩ := hrel
    have hrg := HRG.out
    rcases hcase with ⟨g, cap, rfl, HROW⟩ | ⟨g, cap, rfl, HROW⟩
    · go_wp2_with (first
        | (at_next; refine wpList_next_ranges _ rfl _ rfl tI law heldP (Value.int .i64) Value.pointer (fun key kl hk => by obtain ⟨x, hx, _⟩ := Maps.keyOf_int_inv Try.underlying3 hk; exact ⟨x, hx⟩) heldP_inv GM w1.heap.size NM _ _ _ rfl hrg ?_ ?_)
        | fail)
      · intro hc0 hl0
        have := HROW.out.2.1
        rw [hl0] at this
        cases this
      · intro x c kl yd yp w2 cnt2 hkey hlk hv hat hrg2 hlt hg2 hs2 hen
        obtain rfl := HROW.out.2.2 kl hlk
        have ec : Value.pointer c = ptr GS := by
          have h1 := hat (.held (ptr GS))
          rw [HONE.out.at_] at h1
          have h2 : DataW.held (.pointer c) = yd := by simp [heldP] at hv; exact hv.1
          rw [← h2] at h1
          injection h1 with h1
          exact h1.symm
        unfold ptr at ec
        injection ec with ec
        subst ec
        have hrow2 := HROW.out.1.kept hg2 (Or.inr (row_ne_iter HROW.out.1 hrg).symm)
        have HB2 : Hid (Below w.heap.size w w2) := HB.out.grown hg2 HB.out.size (fun j hj => by cases hj; exact hg1.size)
        have HRG2 : Hid (w2.ranges Try.prog tI heldP GM w1.heap.size NM D (fun z => left z && !z.sameKey (.int .i64 OP)) cnt2) := hrg2
        have HROW2 : Hid (w2.ownsRow w.heap.size tT 2 (.slice (some ⟨g, 0, none⟩) 0 cap) 0 []) := hrow2
        have HLT : Hid (cnt2 < cnt) := hlt
        have HSM : Hid (∀ l, left l = true → l = .int .i64 OP) := HROW.out.2.2
        clear hs2 hrg2 hrow2 hg2 hlt hv hat hlk hkey HROW
        go_wp2_with fail
        refine (HC.out w2 HB2.out).mono ?_
        rintro e w3 ⟨rfl, hw3⟩
        have HB3 : Hid (Below w2.heap.size w2 w3) := hw3
        clear hw3
        have HRO3 : Hid (w3.ownsRow w.heap.size tT 2 (.slice (some ⟨g, 0, none⟩) 0 cap) 0 []) := own_keep HROW2.out fun b hb => HB3.out.block b (HROW2.out.lt b hb).2
        have HRA : Hid ((w3.alloc (.cells #[.int .i64 C, .int .i64 U] tT)).ownsRow w.heap.size tT 2 (.slice (some ⟨g, 0, none⟩) 0 cap) 0 [] ∧ w.heap.size ≤ (w3.alloc (.cells #[.int .i64 C, .int .i64 U] tT)).heap.size) := ⟨HRO3.out.alloc _, by have := HB2.out.size; have := HB3.out.size; simp; omega⟩
        unfold tlv
        go_wp2_with (first | (at_builtin; refine wpList_append_lies _ rfl _ _ _ rfl w.heap.size tT i0 _ 2 16 Try.underlying99 hi hz0 hz1 hz2 rfl (by omega) _ 0 [] rfl HRA.out.1 ⟨w3.heap.size, 0, none⟩ 1 1 [.int .i64 C, .int .i64 U] rfl (by rfl) (World.news_of_block (h1_0 w3 _)) (by simp [Value.oneCell']) (by omega) (by unfold maxLen; omega) (by omega) HRA.out.2 _ rfl ?_; intro gg cap2 z1 hown2 hgrow hat hlt1; have HOW : Hid (z1.ownsRow w.heap.size tT 2 (.slice (some ⟨gg, 0, none⟩) (0 + 1) cap2) (0 + 1) ([] ++ [.int .i64 C, .int .i64 U])) := hown2; have HGR : Hid ((w3.alloc (.cells #[.int .i64 C, .int .i64 U] tT)).grownBy z1 (Value.slice (some ⟨g, 0, none⟩) 0 cap).ownBlock) := hgrow; clear hown2 hgrow hat hlt1) | fail)
        have hrg3 := ((ranges_keep HRG2.out HB3.out).alloc (.cells #[.int .i64 C, .int .i64 U] tT)).kept HGR.out (row_ne_low HRO3.out hbl) (row_ne_iter HRO3.out (ranges_keep HRG2.out HB3.out))
        refine ⟨⟨_, cnt2, hrg3, ?_, .inr ⟨gg, cap2, rfl, HOW.out, fun l => ?_⟩⟩, ?_⟩
        · exact ((keepB HB2.out HB3.out).alloc (keepB HB2.out HB3.out).size _).grown HGR.out HRA.out.2 (fun j hj => (HRO3.out.lt j hj).1)
        · cases hl : left l with
          | false => rfl
          | true =>
            obtain rfl := HSM.out l hl
            simp [Lit.sameKey]
        · rw [hrg3.left_eq, HRG.out.left_eq]; exact HLT.out
    · go_wp2_with (first
        | (at_next; refine wpList_next_ranges _ rfl _ rfl tI law heldP (Value.int .i64) Value.pointer (fun key kl hk => by obtain ⟨x, hx, _⟩ := Maps.keyOf_int_inv Try.underlying3 hk; exact ⟨x, hx⟩) heldP_inv GM w1.heap.size NM _ _ _ rfl hrg ?_ ?_)
        | fail)
      · intro hc0 hl0
        clear hrg hc0 hl0
        go_wp2_with fail
        refine (HT.out _ C g cap wr (fun y => howMany_any C U y) eg48 HLE2.out.1 HROW.out.1).mono ?_
        rintro e y ⟨rfl, hy⟩
        have HY : Hid (Below w.heap.size w y ∧ y.ownsRow w.heap.size tT 2 (.slice (some ⟨g, 0, none⟩) 1 cap) 1 [.int .i64 C, .int .i64 U]) := ⟨keepB HB.out hy, own_keep HROW.out.1 fun b hb => hy.block b (HROW.out.1.lt b hb).2⟩
        clear hy
        go_wp2_with fail
        refine (HT.out _ U g cap y (fun y => together_any C U y) eg49 HLE2.out.2 HY.out.2).mono ?_
        rintro e y2 ⟨rfl, hy⟩
        have HY2 : Hid (Below w.heap.size w y2) := keepB HY.out.1 hy
        clear hy
        go_wp2_with fail
        go_ret2
        exact ⟨rfl, HY2.out⟩
      · intro x c kl yd yp w2 cnt2 hkey hlk hv hat hrg2 hlt hg2 hs2 hen
        have := HROW.out.2 kl
        rw [hlk] at this
        cases this
end Go.Proofs.Ytmaikkhemhonhaa.Df
