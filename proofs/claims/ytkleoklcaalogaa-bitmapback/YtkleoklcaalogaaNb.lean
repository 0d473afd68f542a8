/- BitmapBack: the walk. -/
import Derived.Test.YtkleoklcaalogaaNj
import Derived.Test.YtkleoklcaalogaaNk
import Derived.Test.YtkleoklcaalogaaBq
import Derived.Test.YtkleoklcaalogaaEc
import Derived.Test.YtkleoklcaalogaaBh
import Derived.Test.YtkleoklcaalogaaSl
import Derived.Deep.AppendLies
namespace Go.Proofs.Ytkleoklcaalogaa.Nb
set_option linter.unusedVariables false
open Go.RowKit Go.Shelf Pla Bm Bn Br Bx Nd Ni Ng Nj Nk Bq
attribute [local go_sem] Oper.semAt_some
theorem zhas : (Try.prog.info? 29).map (fun i => (i.zero, i.size)) = some (some (.agg (rowC fun _ => false)), 129) := by kernel_rfl
theorem row_none : rowC (fun _ => false) = rowC (rowF 0 0) := rowC_ext fun i _ => by
  unfold rowF; (repeat' split) <;> simp
/-- the numbers that came in -/
theorem lies_in {w : World} {v : Value} {z : List Int} (h : Sl.Lies w v z) : ∃ o cap, v = .slice o z.length cap ∧ ∀ i (h : i < z.length), ∃ a : Addr, o = some a ∧ w.cell? (a.add i) = some (.int .i64 z[i]) ∧ (Lit.int .i64 z[i]).wf = true := by
  rcases h with ⟨rfl, rfl⟩ | ⟨a, cap, rfl, h1, h2, hc, hz⟩
  · exact ⟨Option.none, 0, rfl, fun i hi => absurd hi (Nat.not_lt_zero _)⟩
  · exact ⟨some a, cap, rfl, fun i hi => ⟨a, rfl, hc i hi, hz _ (List.getElem_mem hi)⟩⟩
/-- Of a list of one's own -/
theorem of_own (l : List Int) (F S : Nat) (hf : Fl l F S) (hl : l.length ≤ 300) (B : Nat) (v : Value) (w : World) (h : w.ownsRow B 3 1 v l.length (numV l)) :
    Calls Try.prog 17 #[v] w fun e w' => e = .returned (.tuple #[.agg #[.int .u64 (F : Int), .int .u64 (S : Int)], .int .i64 0]) ∧ Below w.heap.size w w' := by
  rcases h.2 with ⟨rfl, h0⟩ | ⟨g, cap, cur, rfl, hb, hg, h1, h2, h3, h4⟩
  · obtain rfl : l = [] := List.length_eq_zero_iff.1 h0
    have h1 := hf.f
    have h2 := hf.s
    simp [Of.ofF, Of.ofS] at h1 h2
    subst h1; subst h2
    exact of_nil w
  · have hbd : ∀ z ∈ l, -9223372036854775808 ≤ z ∧ z ≤ 9223372036854775807 := fun z hz => by
      have := St.field_bd (List.all_eq_true.1 hf.all z hz); omega
    have := Of.of_any l g 0 cap w (by omega) (fun i hi => by
      rw [Nat.zero_add]
      have e1 : cur[i]? = some (.int .i64 l[i]) := by
        have : (cur.toList.take (l.length * 1))[i]? = some (.int .i64 l[i]) := by rw [h4]; simp [numV, hi]
        rw [List.getElem?_take_of_lt (by omega)] at this
        simpa using this
      rw [cell_of_row w g i _ _ _ hg, e1]) hbd (Array.getElem?_eq_some_iff.1 hg).1
    rw [hf.ofV] at this
    exact this
theorem grown_b {B e j : Nat} {v : Value} {xs : List Value} {wr wa : World} {o : Obj} (own : wr.ownsRow (B + 1) e 1 v j xs) (hsz : B + 1 ≤ wr.heap.size) (g : (wr.alloc o).grownBy wa v.ownBlock) : Below (B + 1) wr wa := by
  refine ((Below.refl _ wr).alloc hsz o).grown g (by simp; omega) fun k hk => ?_
  rcases own.2 with ⟨rfl, _⟩ | ⟨g', cap, cur, rfl, hgb, _⟩
  · cases hk
  · have : g' = k := Option.some.inj (show some g' = some k from hk)
    omega
theorem round_end {B j ga ca m F S : Nat} {l : List Int} {y1 wr wa : World} (own1 : wa.ownsRow (B + 1) 3 1 (.slice (some ⟨ga, 0, Option.none⟩) (j + 1) ca) (j + 1) (numV l ++ [.int .i64 (m : Int)])) (gb : Below (B + 1) wr wa)
    (hH : wr.heap[B]? = some (.cells (rowC (rowF F S)) 29)) (hB : Below B y1 wr) (hm : m < 129) (hf : field (m : Int) = true) :
    (wa.setCell ⟨B, m, Option.none⟩ (.bool true)).ownsRow (B + 1) 3 1 (.slice (some ⟨ga, 0, Option.none⟩) (j + 1) ca) (j + 1) (numV (l ++ [(m : Int)])) ∧
    (wa.setCell ⟨B, m, Option.none⟩ (.bool true)).heap[B]? = some (.cells (rowC (rowF (F ||| onlyF (m : Int)) (S ||| onlyS (m : Int)))) 29) ∧ Below B y1 (wa.setCell ⟨B, m, Option.none⟩ (.bool true)) := by
  refine ⟨?_, ?_, (hB.trans (gb.mono (by omega))).setCell (p := ⟨B, m, Option.none⟩) (Nat.le_refl _) _⟩
  · rw [show numV (l ++ [(m : Int)]) = numV l ++ [.int .i64 (m : Int)] by simp [numV]]
    refine ⟨own1.1, ?_⟩
    rcases own1.2 with h | ⟨g, cap, cur, hv, hb, hg, r⟩
    · exact .inl h
    · exact .inr ⟨g, cap, cur, hv, hb, (setCell_ne _ (by omega)).trans hg, r⟩
  · rw [← row_or F S m hf]
    exact setCell_row true ((gb.block B (by omega)).trans hH) hm
theorem sec_or (S : Nat) (m : Nat) (h : field (m : Int) = true) (sec : Bool) (hs : sec = decide (S ≠ 0)) : (sec || decide (64 < (m : Int))) = decide (S ||| onlyS (m : Int) ≠ 0) := by
  have := second_or S (m : Int) h
  rw [hs]
  by_cases h1 : S = 0 <;> by_cases h2 : (64 : Int) < (m : Int)
  · have : ¬ (S ||| onlyS (m : Int) = 0) := fun e => (this.1 e).2 (by omega)
    simp [this, h2]
  · have : S ||| onlyS (m : Int) = 0 := this.2 ⟨h1, by omega⟩
    rw [decide_eq_false (show ¬ S ≠ 0 by simp [h1]), decide_eq_false h2, decide_eq_false (show ¬ (S ||| onlyS (m : Int) ≠ 0) by simp only [ne_eq, Decidable.not_not]; exact this)]
    rfl
  · have : ¬ (S ||| onlyS (m : Int) = 0) := fun e => h1 (this.1 e).1
    simp [this, h2]
  · have : ¬ (S ||| onlyS (m : Int) = 0) := fun e => h1 (this.1 e).1
    simp [this, h1]
def vals (l : List I128) : List Int := l.map (·.1)
theorem vals_snoc (l : List I128) (x : I128) : vals (l ++ [x]) = vals l ++ [x.1] := by simp [vals]
theorem vals_len (l : List I128) : (vals l).length = l.length := by simp [vals]
/-- how many fields there are below n -/
def cn (F S : Nat) (n : Int) : Int := ((Np.L F S (min (n - 1).toNat 128)).length : Int)
theorem cn_low (F S : Nat) (n : Int) (h : n ≤ 1) : cn F S n = 0 := by
  unfold cn; rw [show min (n - 1).toNat 128 = 0 by omega]; simp [Np.L]
theorem cn_neg (F S : Nat) (n : Int) (h : n < 0) : cn F S (n + 1) = cn F S n := by rw [cn_low _ _ _ (by omega), cn_low _ _ _ (by omega)]
theorem cn_high (F S : Nat) (n : Int) (h : 128 < n) : cn F S (n + 1) = cn F S n := by
  unfold cn; rw [show min (n + 1 - 1).toNat 128 = 128 by omega, show min (n - 1).toNat 128 = 128 by omega]
theorem cn_end (F S : Nat) : cn F S 200 = ((Np.L F S 128).length : Int) := rfl
theorem cn_step (F S : Nat) (i : Nat) (h : i ≤ 128) : cn F S ((i : Int) + 1) = cn F S (i : Int) + ((rowF F S i).toNat : Int) := by
  by_cases h0 : i = 0
  · subst h0; rw [cn_low _ _ _ (by omega), cn_low _ _ _ (by omega)]; simp [rowF]
  · obtain ⟨k, rfl⟩ : ∃ k, i = k + 1 := ⟨i - 1, by omega⟩
    unfold cn
    rw [show min ((((k + 1 : Nat) : Int)) + 1 - 1).toNat 128 = k + 1 by omega, show min (((k + 1 : Nat) : Int) - 1).toNat 128 = k by omega, cnt_step F S k (by omega)]
    omega
theorem cn_bd (F S : Nat) (n : Int) : 0 ≤ cn F S n ∧ cn F S n ≤ 128 := by
  unfold cn
  have := Np.L_len F S (min (n - 1).toNat 128)
  omega
set_option maxRecDepth 100000 in
set_option maxHeartbeats 1600000 in
theorem walk (v0 : Value) (z0 : List Int) (a1 : Int) (a2 : ByteArray) (w : World) (w0 : Sl.Lies w v0 z0) (w1 : (Lit.int .i64 a1).wf = true) (w2 : a2.size ≤ maxLen) (k2 : a2.size ≤ 140737488351232) :
    Calls Try.prog 4 #[v0, .int .i64 a1, .string a2] w fun e w' => e = .returned (.bool true) ∧ Below w.heap.size w w' := by
  obtain ⟨o, cap, rfl, hc⟩ := lies_in w0
  have HC : Hid (∀ i (h : i < z0.length), ∃ a : Addr, o = some a ∧ w.cell? (a.add i) = some (.int .i64 z0[i]) ∧ (Lit.int .i64 z0[i]).wf = true) := hc
  clear hc w0
  have hz := (zero_of_info zhas).1
  have px := fun w => Ex.examples_any w
  obtain ⟨ia, hia, hza0, hza1, hza2⟩ := info_parts infoI
  refine (callsIn_wide (n := 8)).1 ?_
  refine callsIn_of_wp_marks Try.func4 rfl trivial ?_ rfl
  simp only [Try.ntmps4, List.size_toArray, List.length_cons, List.length_nil, Nat.reduceAdd, Nat.reduceSub, Array.replicate_succ, Array.replicate_zero, List.push_toArray, List.append_toArray, List.nil_append, List.cons_append]
  refine wpIn_wide.2 ?_
  go_wp2_with fail
  refine (px _).mono ?_
  rintro e y1 ⟨rfl, h⟩
  have M3 := kept h (h1_0 w (Obj.cells #[.bool false] 4))
  have B := keepB (below_one w (Obj.cells #[.bool false] 4)) h
  clear h px
  have sL := B.size
  go_wp2_with fail
  rw [row_none]
  go_loopw [8, 10, 11] (fun vl vs vi wr => ∃ (j : Nat) (l : List Int) (F S : Nat) (sec : Bool), j ≤ z0.length ∧ j ≤ 300 ∧ l.length = j ∧ vi = .int .i64 (j : Int) ∧ vs = .bool sec ∧ Hid (sec = decide (S ≠ 0)) ∧ Fl l F S ∧ wr.ownsRow (y1.heap.size + 1) 3 1 vl j (numV l) ∧ wr.heap[y1.heap.size]? = some (.cells (rowC (rowF F S)) 29) ∧ Below y1.heap.size y1 wr) (fun _ _ vi _ => 301 - (intOf vi).toNat)
  case atStart => exact ⟨0, [], 0, 0, false, Nat.zero_le _, by omega, rfl, rfl, rfl, (rfl : false = _), Fl.nil, World.ownsRow_nil _ _ _ _, h1_0 y1 _, below_one y1 _⟩
  case round =>
    obtain ⟨j, l, F, S, sec, hj, hj3, hl, rfl, rfl, HS, hf, own, hH, hB⟩ := hrel
    by_cases hlt : j < z0.length ∧ j < 300
    · obtain ⟨a, rfl, hca, hwf⟩ := HC.out j hlt.1
      have hcw : wr.cell? (a.add j) = some (.int .i64 z0[j]) := (hB.cell (by have := World.block_lt_of_cell? w _ hca; omega)).trans ((B.cell (World.block_lt_of_cell? w _ hca)).trans hca)
      have bd := bounds_i64 hwf
      have FI := fun y => St.field_any z0[j] bd.1 bd.2 y
      have ff := St.fieldOf_field z0[j]
      generalize z0[j] = c at *
      obtain ⟨m, hm⟩ : ∃ m : Nat, St.fieldOf c = (m : Int) := ⟨(St.fieldOf c).toNat, by have := St.field_bd ff; omega⟩
      rw [hm] at FI ff
      have fb := St.field_bd ff
      have q0 : (0 : Int) ≤ (j : Int) := by omega
      have q1 : (j : Int) < (z0.length : Int) := by omega
      have q2 : (j : Int) < 300 := by omega
      have m0 : (0 : Int) ≤ (m : Int) := by omega
      have m1 : (m : Int) < 129 := by omega
      have hsz : y1.heap.size + 1 ≤ wr.heap.size := (Array.getElem?_eq_some_iff.1 hH).1
      have j9 : j ≤ 300 := hj3
      have Hj : Hid (j < z0.length ∧ j < 300 ∧ l.length = j ∧ field (m : Int) = true ∧ m < 129) := ⟨hlt.1, hlt.2, hl, ff, by omega⟩
      clear hj hj3 hlt hl hm hwf bd hca fb ff
      cases sec
      · by_cases h64 : (64 : Int) < (m : Int)
        · go_wp2_with (first | (go_at_call 16; refine (FI _).mono ?_; rintro e y ⟨rfl, hy⟩; rw [hy]) | (at_builtin; refine wpList_append_lies _ rfl _ _ _ rfl (y1.heap.size + 1) 3 ia _ 1 8 Try.underlying35 hia hza0 hza1 hza2 rfl (by omega) _ j _ rfl (own.alloc _) ⟨wr.heap.size, 0, Option.none⟩ 1 1 _ rfl (by rfl) (World.news_of_block (heap_alloc_new wr _)) (by simp [Value.oneCell']) (by omega) (by unfold maxLen; omega) (by omega) (by first | omega | (simp <;> omega)) (wr.heap.size + 1) (by simp) ?_; intro ga ca wa own1 g1 hat hlt1; have gb := grown_b own hsz g1; clear hat g1; have hHa := (gb.block y1.heap.size (by omega)).trans hH; have cH := row_cell hHa m Hj.out.2.2.2.2; have cf : wa.frozen? ⟨y1.heap.size, m, Option.none⟩ = false := (by simp only [World.frozen?, hHa]; rfl)))
          obtain ⟨h1, h2, h3, h4, h5⟩ := Hj.out
          obtain ⟨e1, e2, e3⟩ := round_end own1 gb hH hB h5 h4
          have es := sec_or S m h4 _ HS.out
          simp only [h64, decide_true, Bool.or_true] at es
          exact ⟨⟨j + 1, l ++ [(m : Int)], F ||| onlyF (m : Int), S ||| onlyS (m : Int), true, by omega, by omega, by simp [h3], by simp, rfl, es, hf.snoc h4, e1, e2, e3⟩, by simp only [intOf]; omega⟩
        · go_wp2_with (first | (go_at_call 16; refine (FI _).mono ?_; rintro e y ⟨rfl, hy⟩; rw [hy]) | (at_builtin; refine wpList_append_lies _ rfl _ _ _ rfl (y1.heap.size + 1) 3 ia _ 1 8 Try.underlying35 hia hza0 hza1 hza2 rfl (by omega) _ j _ rfl (own.alloc _) ⟨wr.heap.size, 0, Option.none⟩ 1 1 _ rfl (by rfl) (World.news_of_block (heap_alloc_new wr _)) (by simp [Value.oneCell']) (by omega) (by unfold maxLen; omega) (by omega) (by first | omega | (simp <;> omega)) (wr.heap.size + 1) (by simp) ?_; intro ga ca wa own1 g1 hat hlt1; have gb := grown_b own hsz g1; clear hat g1; have hHa := (gb.block y1.heap.size (by omega)).trans hH; have cH := row_cell hHa m Hj.out.2.2.2.2; have cf : wa.frozen? ⟨y1.heap.size, m, Option.none⟩ = false := (by simp only [World.frozen?, hHa]; rfl)))
          obtain ⟨h1, h2, h3, h4, h5⟩ := Hj.out
          obtain ⟨e1, e2, e3⟩ := round_end own1 gb hH hB h5 h4
          have es := sec_or S m h4 _ HS.out
          rw [Bool.false_or] at es
          exact ⟨⟨j + 1, l ++ [(m : Int)], F ||| onlyF (m : Int), S ||| onlyS (m : Int), _, by omega, by omega, by simp [h3], by simp, rfl, es, hf.snoc h4, e1, e2, e3⟩, by simp only [intOf]; omega⟩
      · go_wp2_with (first | (go_at_call 16; refine (FI _).mono ?_; rintro e y ⟨rfl, hy⟩; rw [hy]) | (at_builtin; refine wpList_append_lies _ rfl _ _ _ rfl (y1.heap.size + 1) 3 ia _ 1 8 Try.underlying35 hia hza0 hza1 hza2 rfl (by omega) _ j _ rfl (own.alloc _) ⟨wr.heap.size, 0, Option.none⟩ 1 1 _ rfl (by rfl) (World.news_of_block (heap_alloc_new wr _)) (by simp [Value.oneCell']) (by omega) (by unfold maxLen; omega) (by omega) (by first | omega | (simp <;> omega)) (wr.heap.size + 1) (by simp) ?_; intro ga ca wa own1 g1 hat hlt1; have gb := grown_b own hsz g1; clear hat g1; have hHa := (gb.block y1.heap.size (by omega)).trans hH; have cH := row_cell hHa m Hj.out.2.2.2.2; have cf : wa.frozen? ⟨y1.heap.size, m, Option.none⟩ = false := (by simp only [World.frozen?, hHa]; rfl)))
        obtain ⟨h1, h2, h3, h4, h5⟩ := Hj.out
        obtain ⟨e1, e2, e3⟩ := round_end own1 gb hH hB h5 h4
        have es := sec_or S m h4 _ HS.out
        rw [Bool.true_or] at es
        exact ⟨⟨j + 1, l ++ [(m : Int)], F ||| onlyF (m : Int), S ||| onlyS (m : Int), true, by omega, by omega, by simp [h3], by simp, rfl, es, hf.snoc h4, e1, e2, e3⟩, by simp only [intOf]; omega⟩
    · have HS' := HS
      have q : Hid (¬ (j < z0.length ∧ j < 300)) := hlt
      have hf300 : l.length ≤ 300 := by omega
      have own' : wr.ownsRow (y1.heap.size + 1) 3 1 u8 l.length (numV l) := by rw [hl]; exact own
      have OF := of_own l F S hf hf300 _ u8 wr own'
      have fl := hf.fl
      have sl := hf.sl
      have f64 : F < 18446744073709551616 := by omega
      have s64 : S < 18446744073709551616 := by omega
      replace M3 := kept hB M3
      replace B := keepB B hB
      have n1 := (bounds_i64 w1).1
      have n2 := (bounds_i64 w1).2
      have EN := fun y => Ec.encoding_any a1 n1 n2 y
      have hw := Ec.encOf_width a1
      generalize Ec.encOf a1 = K at *
      have HW : Hid (Hf.widthN K ≠ 0) := hw
      have ENC := fun y => Eo.encode_any K F S f64 s64 y
      rw [show Eo.encV K F S = (En.encL K F S, 0) by rw [Eo.encV, if_neg]; simp [hw, rightB, fl, sl]] at ENC
      dsimp only at ENC
      have hback := Bp.back K F S hw fl sl a2
      have hshort := Bp.short K F S hw fl sl
      have hlen := Bp.encL_len K F S hw
      have hss := Bp.size_list (En.encL K F S)
      have hl32 : (En.encL K F S).length ≤ 32 ∧ 0 < (En.encL K F S).length := by
        rw [hlen]; rcases Dv.width_cases K hw with ⟨-, e⟩ | ⟨-, e⟩ <;> rw [e] <;> split <;> omega
      generalize (⟨(En.encL K F S).toArray⟩ : ByteArray) = s at *
      generalize (En.encL K F S).length = N at *
      have DEC1 := fun y => Dv.decode_any K (s ++ a2) (by rw [ByteArray.size_append]; unfold maxLen; omega) y
      have DEC2 := fun y => Dv.decode_any K (s.extract 0 (N - 1)) (by rw [ByteArray.size_extract]; unfold maxLen; omega) y
      rw [hback] at DEC1
      rw [hshort] at DEC2
      dsimp only at DEC1 DEC2
      have LEN := fun y => length_any K sec y
      have HLN : Hid (lenOf K sec = (N : Int)) := by
        show _ = _
        rw [HS.out, lenOf, hlen]
        rcases Dv.width_cases K hw with ⟨e5, e⟩ | ⟨e5, e⟩
        · rw [if_pos e5, e]; by_cases h0 : S = 0 <;> simp [h0]
        · rw [if_neg e5, e]; by_cases h0 : S = 0 <;> simp [h0]
      rw [HLN.out] at LEN
      have HSZ : Hid (s.size = N ∧ N ≤ 32 ∧ 0 < N) := ⟨hss, hl32.1, hl32.2⟩
      have cc : ¬ 9223372036854775807 < s.size + a2.size := by omega
      clear hback hshort hlen hl32 hss hw w1 n1 n2 own own' hf hl hj3 hB hia hza0 hza1 hza2 HC HS' HS w2 k2 hf300
      by_cases hq : (j : Int) < (z0.length : Int)
      · have q3 : ¬ (j : Int) < 300 := by omega
        clear hlt q hj
        go_wp2_with fail
        refine OF.mono ?_
        rintro e y2 ⟨rfl, h⟩
        replace M3 := kept h M3
        replace hH := kept h hH
        replace B := keepB B h
        clear h OF
        go_wp2_with fail
        have MM := h1_0 y2 (.cells #[.int .u64 (F : Int), .int .u64 (S : Int)] 24)
        replace M3 := kept1 M3 (.cells #[.int .u64 (F : Int), .int .u64 (S : Int)] 24)
        replace hH := kept1 hH (.cells #[.int .u64 (F : Int), .int .u64 (S : Int)] 24)
        replace B := keepB B (below_one y2 (.cells #[.int .u64 (F : Int), .int .u64 (S : Int)] 24))
        generalize y2.alloc (.cells #[.int .u64 (F : Int), .int .u64 (S : Int)] 24) = y3 at *
        refine (EN _).mono ?_
        rintro e y ⟨rfl, hy⟩
        rw [hy]
        clear hy y EN
        obtain ⟨c0, c1, -, -⟩ := held2 (Below.refl _ y3) MM
        go_wp2_with fail
        refine (ENC _).mono ?_
        rintro e y4 ⟨rfl, h⟩
        replace M3 := kept h M3
        replace hH := kept h hH
        replace MM := kept h MM
        replace B := keepB B h
        clear h ENC c0 c1
        go_wp2_with fail
        refine (DEC1 _).mono ?_
        rintro e y5 ⟨rfl, h⟩
        replace M3 := kept h M3
        replace hH := kept h hH
        replace MM := kept h MM
        replace B := keepB B h
        clear h DEC1
        obtain ⟨c0, c1⟩ := all2 MM
        have cN : ((N : Int) != (s.size : Int)) = false := by rw [HSZ.out.1]; simp
        have cM : ((s.size : Int) != (N : Int)) = false := by rw [HSZ.out.1]; simp
        have cf : ((F : Int) == (F : Int)) = true := by simp
        have cs : ((S : Int) == (S : Int)) = true := by simp
        go_wp2_with fail
        replace M3 := kept1 M3 (.cells #[.int .u64 (F : Int), .int .u64 (S : Int)] 24)
        replace hH := kept1 hH (.cells #[.int .u64 (F : Int), .int .u64 (S : Int)] 24)
        replace MM := kept1 MM (.cells #[.int .u64 (F : Int), .int .u64 (S : Int)] 24)
        replace B := keepB B (below_one y5 (.cells #[.int .u64 (F : Int), .int .u64 (S : Int)] 24))
        generalize y5.alloc (.cells #[.int .u64 (F : Int), .int .u64 (S : Int)] 24) = y6 at *
        clear c0 c1
        refine (LEN _).mono ?_
        rintro e y ⟨rfl, hy⟩
        rw [hy]
        clear hy y LEN
        have p0 : (0 : Int) ≤ (s.size : Int) - 1 := by have := HSZ.out; omega
        have p1 : (s.size : Int) - 1 ≤ (s.size : Int) := by omega
        have p2 : (s.size : Int) ≤ 32 := by have := HSZ.out; omega
        go_wp2_with fail
        have cZ : (((N - 1 : Nat) : Int) != (s.size : Int) - 1) = false := by have := HSZ.out; rw [HSZ.out.1]; simp; omega
        rw [show s.extract 0 (N - 1) = s.extract 0 (s.size - 1) by rw [HSZ.out.1]] at DEC2
        generalize ((N - 1 : Nat) : Int) = Z at *
        refine (DEC2 _).mono ?_
        rintro e y7 ⟨rfl, h⟩
        replace M3 := kept h M3
        replace hH := kept h hH
        replace MM := kept h MM
        replace B := keepB B h
        clear h DEC2
        have l3 := (Array.getElem?_eq_some_iff.1 M3).1
        have lH := (Array.getElem?_eq_some_iff.1 hH).1
        have lM := (Array.getElem?_eq_some_iff.1 MM).1
        go_wp2_with fail
        replace M3 := kept1 (kept1 M3 (.cells #[.int .u64 0, .int .u64 0] 24)) (.cells #[.int .i64 0] 3)
        replace hH := kept1 (kept1 hH (.cells #[.int .u64 0, .int .u64 0] 24)) (.cells #[.int .i64 0] 3)
        replace MM := kept1 (kept1 MM (.cells #[.int .u64 0, .int .u64 0] 24)) (.cells #[.int .i64 0] 3)
        replace B := keepB B (below_two y7 (.cells #[.int .u64 0, .int .u64 0] 24) (.cells #[.int .i64 0] 3))
        have MN := cell1 (h2_1 y7 (.cells #[.int .u64 0, .int .u64 0] 24) (.cells #[.int .i64 0] 3))
        have s8 : ((y7.alloc (.cells #[.int .u64 0, .int .u64 0] 24)).alloc (.cells #[.int .i64 0] 3)).heap.size = y7.heap.size + 1 + 1 := by simp
        generalize (y7.alloc (.cells #[.int .u64 0, .int .u64 0] 24)).alloc (.cells #[.int .i64 0] 3) = y8 at *
        have RT := fun y => right_any F S f64 s64 y
        have HA := fun n h1 h2 y => Bh.has_any F S n f64 s64 h1 h2 y
        have NU := fun y => numbers_any F S f64 s64 y
        have sB := B.size
        clear cN cM cf cs p0 p1 p2 cZ HSZ cc HW HLN
        go_loopw [25] (fun vn wr => ∃ n : Int, -3 ≤ n ∧ n ≤ 200 ∧ vn = .int .i64 n ∧ (wr.cell? ⟨y7.heap.size + 1, 0, Option.none⟩ = some (.int .i64 (cn F S n)) ∧ wr.frozen? ⟨y7.heap.size + 1, 0, Option.none⟩ = false) ∧ Below (y7.heap.size + 1) y8 wr) (fun vn _ => (201 - intOf vn).toNat)
        case atStart => exact ⟨-3, by omega, by omega, rfl, by rw [cn_low _ _ _ (by omega)]; exact MN, Below.refl _ _⟩
        case round =>
          rename World => wr0
          obtain ⟨n, hn1, hn2, rfl, ⟨k0, f0⟩, hB⟩ := hrel
          have hHw : wr0.heap[y1.heap.size]? = _ := (hB.block _ (by omega)).trans hH
          have hMw : wr0.heap[y2.heap.size]? = _ := (hB.block _ (by omega)).trans MM
          obtain ⟨c0, c1, -, -⟩ := held2 (Below.refl _ wr0) hMw
          have HN : Hid (-3 ≤ n ∧ n ≤ 200) := ⟨hn1, hn2⟩
          have bN := cn_bd F S n
          have lk := World.block_lt_of_cell? wr0 _ k0
          by_cases h200 : n < 200
          · by_cases hneg : n < 0
            · have HAn := fun y => HA n (by omega) (by omega) y
              rw [has_out n (.inl hneg)] at HAn
              have g0 : ¬ (0 : Int) ≤ n := by omega
              have Hq : Hid (n < 0 ∧ n < 200) := ⟨hneg, h200⟩
              clear HA RT NU hneg hn2 hHw hMw
              go_wp2_with (go_at_call 22; refine (HAn _).mono ?_; rintro e x ⟨rfl, h⟩)
              obtain ⟨hneg, h200⟩ := Hq.out
              obtain ⟨hn1, hn2⟩ := HN.out
              exact ⟨⟨n + 1, by omega, by omega, by simp, ⟨by rw [cn_neg F S n hneg]; exact (h.cell lk).trans k0, (frozen_below h lk).trans f0⟩, hB.trans (h.mono (by have := hB.size; omega))⟩, by simp only [intOf]; omega⟩
            · by_cases hhi : 128 < n
              · have HAn := fun y => HA n (by omega) (by omega) y
                rw [has_out n (.inr hhi)] at HAn
                have g0 : (0 : Int) ≤ n := by omega
                have g1 : ¬ n ≤ 128 := by omega
                have Hq : Hid (128 < n ∧ n < 200) := ⟨hhi, h200⟩
                clear HA RT NU hneg hhi hn1 hn2 hHw hMw
                go_wp2_with (go_at_call 22; refine (HAn _).mono ?_; rintro e x ⟨rfl, h⟩)
                obtain ⟨hhi, h200⟩ := Hq.out
                obtain ⟨hn1, hn2⟩ := HN.out
                exact ⟨⟨n + 1, by omega, by omega, by simp, ⟨by rw [cn_high F S n hhi]; exact (h.cell lk).trans k0, (frozen_below h lk).trans f0⟩, hB.trans (h.mono (by have := hB.size; omega))⟩, by simp only [intOf]; omega⟩
              · obtain ⟨i, rfl⟩ : ∃ i : Nat, n = (i : Int) := ⟨n.toNat, by omega⟩
                have HAn := fun y => HA (i : Int) (by omega) (by omega) y
                rw [has_row fl sl i (by omega)] at HAn
                have st := cn_step F S i (by omega)
                have cH := row_cell hHw i (by omega)
                have g0 : (0 : Int) ≤ (i : Int) := by omega
                have g1 : (i : Int) ≤ 128 := by omega
                have Hq : Hid ((i : Int) < 200) := h200
                have HM : Hid (wr0.heap[y2.heap.size]? = some (.cells #[.int .u64 (F : Int), .int .u64 (S : Int)] 24)) := hMw
                clear HA RT NU hneg hhi hn1 hn2 hHw hMw
                cases hr : rowF F S i
                · rw [hr] at HAn cH st
                  have HST : Hid (cn F S ((i : Int) + 1) = cn F S (i : Int)) := by show _ = _; rw [st]; simp
                  clear st hr
                  go_wp2_with (go_at_call 22; refine (HAn _).mono ?_; rintro e x ⟨rfl, h⟩)
                  have h200 := Hq.out
                  obtain ⟨hn1, hn2⟩ := HN.out
                  exact ⟨⟨(i : Int) + 1, by omega, by omega, by simp, ⟨by rw [HST.out]; exact (h.cell lk).trans k0, (frozen_below h lk).trans f0⟩, hB.trans (h.mono (by have := hB.size; omega))⟩, by simp only [intOf]; omega⟩
                · rw [hr] at HAn cH st
                  have HST : Hid (cn F S ((i : Int) + 1) = cn F S (i : Int) + 1) := by show _ = _; rw [st]; simp
                  clear st hr
                  have b1 := bN.1
                  have b2 := bN.2
                  clear bN
                  have t0 := fun v => (cell_ne (x := wr0) (g := y7.heap.size + 1) (n := 0) v (p := ⟨y2.heap.size, 0, Option.none⟩) (by simp; omega)).trans c0
                  have t1 := fun v => (cell_ne (x := wr0) (g := y7.heap.size + 1) (n := 0) v (p := ⟨y2.heap.size, 1, Option.none⟩) (by simp; omega)).trans c1
                  go_wp2_with (go_at_call 22; refine (HAn _).mono ?_; rintro e x ⟨rfl, h⟩)
                  have h200 := Hq.out
                  obtain ⟨hn1, hn2⟩ := HN.out
                  exact ⟨⟨(i : Int) + 1, by omega, by omega, by simp, ⟨by rw [HST.out]; exact (h.cell (by simpa using lk)).trans (cell_same _ k0), (frozen_below h (by simpa using lk)).trans (frozen_ne _ f0)⟩, (hB.setCell (p := ⟨y7.heap.size + 1, 0, Option.none⟩) (Nat.le_refl _) _).trans (h.mono (by simp; have := hB.size; omega))⟩, by simp only [intOf]; omega⟩
          · obtain rfl : n = 200 := by omega
            rw [cn_end] at k0
            have eF : fld F = F := by rw [fld_mod]; exact Nat.mod_eq_of_lt fl
            have eS : fld S = S := by rw [fld_mod]; exact Nat.mod_eq_of_lt sl
            rw [eF, eS] at NU
            have T9 := Np.L_len F S 128
            generalize hT : (Np.L F S 128).length = T at *
            have HT : Hid ((Np.L F S 128).length = T) := hT
            clear hT c0 c1 HA bN hn1 hn2 h200 HN
            obtain ⟨c0, c1⟩ := all2 hMw
            go_wp2_with fail
            have ML := cell1 (h1_0 wr0 (.cells #[.int .i64 0] 3))
            have k1 := alloc_c (.cells #[.int .i64 0] 3) k0
            have f1 := alloc_f (.cells #[.int .i64 0] 3) k0 f0
            have hB1 := hB.alloc (by have := hB.size; omega) (.cells #[.int .i64 0] 3)
            have s9 : (wr0.alloc (.cells #[.int .i64 0] 3)).heap.size = wr0.heap.size + 1 := by simp
            generalize wr0.alloc (.cells #[.int .i64 0] 3) = y9 at *
            refine (NU _).mono ?_
            rintro e yA ⟨b, rfl, hb, h⟩
            have lL := World.block_lt_of_cell? y9 _ ML.1
            have lK := World.block_lt_of_cell? y9 _ k1
            have L0 := (h.cell lL).trans ML.1
            have L1 := (frozen_below h lL).trans ML.2
            have K0 := (h.cell lK).trans k1
            have K1 := (frozen_below h lK).trans f1
            have hBA : Below (y7.heap.size + 1) y8 yA := hB1.trans (h.mono (by have := hB1.size; omega))
            have sA := hBA.size
            have sz0 := hB.size
            clear h NU c0 c1 k0 f0 k1 f1 ML hB1 hHw hMw hB
            unfold fv
            go_wp2_with fail
            refine (wpIn_wide (n := 8)).1 ?_
            refine range1 rfl (by omega) (gf := 25) (lb := #[.pointer (some ⟨b, 0, Option.none⟩)]) rfl trivial (enters_of Try.func25 (by kernel_rfl) rfl)
              (S := fun xs => vals xs = Np.L F S 128) (Sp := fun pre => vals pre <+: Np.L F S 128) (goes_sub F S f64 s64 _ (by omega) b (y7.heap.size + 1) yA hb) belowK_t (belowK_b (by omega)) (Below.refl _ _) 28
              (fun pre W => ((W.cell? ⟨wr0.heap.size, 0, Option.none⟩ = some (.int .i64 (last (vals pre))) ∧ W.frozen? ⟨wr0.heap.size, 0, Option.none⟩ = false) ∧ (W.cell? ⟨y7.heap.size + 1, 0, Option.none⟩ = some (.int .i64 ((T : Int) - (pre.length : Int))) ∧ W.frozen? ⟨y7.heap.size + 1, 0, Option.none⟩ = false)) ∧ Below (y7.heap.size + 1) y8 W)
              (fun c pre W => c = .ret ∧ ¬ vals pre <+: Np.L F S 128)
              (OwnFrom.and (Own.from (fun s A B row hs hg hr => ⟨⟨cell_kept hs.1.1 hg hr, (frozen_kept hs.1.1 hg hr).trans hs.1.2⟩, cell_kept hs.2.1 hg hr, (frozen_kept hs.2.1 hg hr).trans hs.2.2⟩) _) (ownFrom_below (by omega) (by omega)))
              (fun c => fun s A B row hs hg hr => hs)
              ⟨⟨⟨by rw [L0]; rfl, L1⟩, by rw [K0]; simp, K1⟩, hBA⟩ ?assign ?body ?done ?stop
            case assign =>
              intro l x W K hK
              gi_wp2
              exact hK
            case body =>
              rintro l pre x W ⟨⟨⟨k0, f0⟩, k1, f1⟩, hB⟩ hN
              simp only [List.setIfInBounds_toArray, List.set_cons_succ, List.set_cons_zero]
              have hHw : W.heap[y1.heap.size]? = _ := (hB.block _ (by omega)).trans hH
              obtain ⟨cR, fR⟩ := cell1 ((hB.block w.heap.size (by omega)).trans M3)
              have GN : Hid (vals (pre ++ [x]) <+: Np.L F S 128 → last (vals pre) < x.1 ∧ rowF F S x.1.toNat = true) := fun h => goes_on (by rw [vals_snoc] at h; exact h)
              have GL : Hid (last (vals (pre ++ [x])) = x.1) := by show _ = _; rw [vals_snoc]; exact last_snoc _ _
              have hx := x.2
              generalize hxi : x.1 = xi at *
              obtain ⟨i, rfl⟩ : ∃ i : Nat, xi = (i : Int) := ⟨xi.toNat, by omega⟩
              rw [Int.toNat_natCast] at GN
              have cH := row_cell hHw i (by omega)
              have g0 : (0 : Int) ≤ (i : Int) := by omega
              have g1 : (i : Int) < 129 := by omega
              have pN : (pre.length : Int) < 128 := by omega
              have p0 : (0 : Int) ≤ (pre.length : Int) := by omega
              have t0 : (0 : Int) ≤ (T : Int) := by omega
              have t1 : (T : Int) ≤ 128 := by omega
              generalize hla : last (vals pre) = la at *
              have tk := fun v => (cell_ne (x := W) (g := wr0.heap.size) (n := 0) v (p := ⟨y7.heap.size + 1, 0, Option.none⟩) (by simp; omega)).trans k1
              have tf := fun v => frozen_ne (x := W) (q := ⟨wr0.heap.size, 0, Option.none⟩) v (p := ⟨y7.heap.size + 1, 0, Option.none⟩) f1
              clear L0 L1 K0 K1 hBA hb M3 hH MM RT hN hx hHw hla hxi
              by_cases hle : (i : Int) ≤ la
              · have HX : Hid (¬ vals (pre ++ [x]) <+: Np.L F S 128) := fun h => by have := (GN.out h).1; omega
                clear cH
                gi_wp2
                exact ⟨KeepsOthers.setCell _ _ _, rfl, HX.out⟩
              · cases hr : rowF F S i
                · have HX : Hid (¬ vals (pre ++ [x]) <+: Np.L F S 128) := fun h => by have := (GN.out h).2; rw [hr] at this; cases this
                  rw [hr] at cH
                  clear hr
                  gi_wp2
                  exact ⟨KeepsOthers.setCell _ _ _, rfl, HX.out⟩
                · rw [hr] at cH
                  clear hr
                  gi_wp2
                  refine ⟨(KeepsOthers.setCell _ _ _).trans (KeepsOthers.setCell _ _ _), ((Below.refl _ W).setCell (p := ⟨wr0.heap.size, 0, Option.none⟩) (by simp; omega) _).setCell (p := ⟨y7.heap.size + 1, 0, Option.none⟩) (Nat.le_refl _) _, ⟨⟨?_, ?_⟩, ?_, ?_⟩, (hB.setCell (p := ⟨wr0.heap.size, 0, Option.none⟩) (by simp; omega) _).setCell (p := ⟨y7.heap.size + 1, 0, Option.none⟩) (Nat.le_refl _) _⟩
                  · rw [cell_ne _ (by simp; omega), cell_same _ k0, GL.out]
                  · exact frozen_ne _ (frozen_ne _ f0)
                  · rw [cell_same _ (tk _)]; simp; omega
                  · exact frozen_ne _ (tf _)
            case done =>
              rintro D ys W hD hS ⟨⟨⟨k0, f0⟩, k1, f1⟩, hB⟩ hK
              rw [show (T : Int) - (ys.length : Int) = 0 by rw [← HT.out, ← hS, vals_len]; omega] at k1
              obtain ⟨cR, fR⟩ := cell1 ((hB.block w.heap.size (by omega)).trans M3)
              obtain ⟨c0, c1, -, -⟩ := held2 (Below.refl _ W) ((hB.block y2.heap.size (by omega)).trans MM)
              have lR := World.block_lt_of_cell? W _ cR
              have bW : Below w.heap.size w W := B.trans (hB.mono (by omega))
              rw [show (decide (F < 9223372036854775808) && decide (S < 9223372036854775808)) = true by simp [fl, sl]] at RT
              clear L0 L1 K0 K1 hBA hb M3 hH MM hS k0 f0 hB
              go_wp2_with (go_at_call 23; refine (RT _).mono ?_; rintro e y ⟨rfl, h⟩; have dR := (h.cell lR).trans cR; have dF := (frozen_below h lR).trans fR)
              have hK1 := kept h hK
              have bY := bW.trans (h.mono (by have := bW.size; omega))
              have hK' := (KeepsOthers.setCell y ⟨w.heap.size, 0, Option.none⟩ (.bool true)).same D _ hK1 rfl
              refine ⟨by simp, .inl ⟨_, _, rfl, run_takeDeferred hK', ?_⟩⟩
              have hc5 := cell_kept (cell_same (.bool true) dR) (grownBy_putObj' _ D (.deferred Option.none)) (fun r e => by cases e; exact ⟨_, hK', rfl⟩)
              refine ⟨.bool true, ?_, rfl, (bY.setCell (p := ⟨w.heap.size, 0, Option.none⟩) (Nat.le_refl _) _).trans (belowK_b (w := w) (Nat.le_refl _) _ D _ _ (by omega) hK' rfl rfl)⟩
              simp [results, Try.f4, go_sem, hc5]
            case stop =>
              rintro D c pre W hD hpre ⟨rfl, hin⟩ hK
              exact absurd hpre hin
      · clear hlt q hj
        go_wp2_with fail
        refine OF.mono ?_
        rintro e y2 ⟨rfl, h⟩
        replace M3 := kept h M3
        replace hH := kept h hH
        replace B := keepB B h
        clear h OF
        go_wp2_with fail
        have MM := h1_0 y2 (.cells #[.int .u64 (F : Int), .int .u64 (S : Int)] 24)
        replace M3 := kept1 M3 (.cells #[.int .u64 (F : Int), .int .u64 (S : Int)] 24)
        replace hH := kept1 hH (.cells #[.int .u64 (F : Int), .int .u64 (S : Int)] 24)
        replace B := keepB B (below_one y2 (.cells #[.int .u64 (F : Int), .int .u64 (S : Int)] 24))
        generalize y2.alloc (.cells #[.int .u64 (F : Int), .int .u64 (S : Int)] 24) = y3 at *
        refine (EN _).mono ?_
        rintro e y ⟨rfl, hy⟩
        rw [hy]
        clear hy y EN
        obtain ⟨c0, c1, -, -⟩ := held2 (Below.refl _ y3) MM
        go_wp2_with fail
        refine (ENC _).mono ?_
        rintro e y4 ⟨rfl, h⟩
        replace M3 := kept h M3
        replace hH := kept h hH
        replace MM := kept h MM
        replace B := keepB B h
        clear h ENC c0 c1
        go_wp2_with fail
        refine (DEC1 _).mono ?_
        rintro e y5 ⟨rfl, h⟩
        replace M3 := kept h M3
        replace hH := kept h hH
        replace MM := kept h MM
        replace B := keepB B h
        clear h DEC1
        obtain ⟨c0, c1⟩ := all2 MM
        have cN : ((N : Int) != (s.size : Int)) = false := by rw [HSZ.out.1]; simp
        have cM : ((s.size : Int) != (N : Int)) = false := by rw [HSZ.out.1]; simp
        have cf : ((F : Int) == (F : Int)) = true := by simp
        have cs : ((S : Int) == (S : Int)) = true := by simp
        go_wp2_with fail
        replace M3 := kept1 M3 (.cells #[.int .u64 (F : Int), .int .u64 (S : Int)] 24)
        replace hH := kept1 hH (.cells #[.int .u64 (F : Int), .int .u64 (S : Int)] 24)
        replace MM := kept1 MM (.cells #[.int .u64 (F : Int), .int .u64 (S : Int)] 24)
        replace B := keepB B (below_one y5 (.cells #[.int .u64 (F : Int), .int .u64 (S : Int)] 24))
        generalize y5.alloc (.cells #[.int .u64 (F : Int), .int .u64 (S : Int)] 24) = y6 at *
        clear c0 c1
        refine (LEN _).mono ?_
        rintro e y ⟨rfl, hy⟩
        rw [hy]
        clear hy y LEN
        have p0 : (0 : Int) ≤ (s.size : Int) - 1 := by have := HSZ.out; omega
        have p1 : (s.size : Int) - 1 ≤ (s.size : Int) := by omega
        have p2 : (s.size : Int) ≤ 32 := by have := HSZ.out; omega
        go_wp2_with fail
        have cZ : (((N - 1 : Nat) : Int) != (s.size : Int) - 1) = false := by have := HSZ.out; rw [HSZ.out.1]; simp; omega
        rw [show s.extract 0 (N - 1) = s.extract 0 (s.size - 1) by rw [HSZ.out.1]] at DEC2
        generalize ((N - 1 : Nat) : Int) = Z at *
        refine (DEC2 _).mono ?_
        rintro e y7 ⟨rfl, h⟩
        replace M3 := kept h M3
        replace hH := kept h hH
        replace MM := kept h MM
        replace B := keepB B h
        clear h DEC2
        have l3 := (Array.getElem?_eq_some_iff.1 M3).1
        have lH := (Array.getElem?_eq_some_iff.1 hH).1
        have lM := (Array.getElem?_eq_some_iff.1 MM).1
        go_wp2_with fail
        replace M3 := kept1 (kept1 M3 (.cells #[.int .u64 0, .int .u64 0] 24)) (.cells #[.int .i64 0] 3)
        replace hH := kept1 (kept1 hH (.cells #[.int .u64 0, .int .u64 0] 24)) (.cells #[.int .i64 0] 3)
        replace MM := kept1 (kept1 MM (.cells #[.int .u64 0, .int .u64 0] 24)) (.cells #[.int .i64 0] 3)
        replace B := keepB B (below_two y7 (.cells #[.int .u64 0, .int .u64 0] 24) (.cells #[.int .i64 0] 3))
        have MN := cell1 (h2_1 y7 (.cells #[.int .u64 0, .int .u64 0] 24) (.cells #[.int .i64 0] 3))
        have s8 : ((y7.alloc (.cells #[.int .u64 0, .int .u64 0] 24)).alloc (.cells #[.int .i64 0] 3)).heap.size = y7.heap.size + 1 + 1 := by simp
        generalize (y7.alloc (.cells #[.int .u64 0, .int .u64 0] 24)).alloc (.cells #[.int .i64 0] 3) = y8 at *
        have RT := fun y => right_any F S f64 s64 y
        have HA := fun n h1 h2 y => Bh.has_any F S n f64 s64 h1 h2 y
        have NU := fun y => numbers_any F S f64 s64 y
        have sB := B.size
        clear cN cM cf cs p0 p1 p2 cZ HSZ cc HW HLN
        go_loopw [25] (fun vn wr => ∃ n : Int, -3 ≤ n ∧ n ≤ 200 ∧ vn = .int .i64 n ∧ (wr.cell? ⟨y7.heap.size + 1, 0, Option.none⟩ = some (.int .i64 (cn F S n)) ∧ wr.frozen? ⟨y7.heap.size + 1, 0, Option.none⟩ = false) ∧ Below (y7.heap.size + 1) y8 wr) (fun vn _ => (201 - intOf vn).toNat)
        case atStart => exact ⟨-3, by omega, by omega, rfl, by rw [cn_low _ _ _ (by omega)]; exact MN, Below.refl _ _⟩
        case round =>
          rename World => wr0
          obtain ⟨n, hn1, hn2, rfl, ⟨k0, f0⟩, hB⟩ := hrel
          have hHw : wr0.heap[y1.heap.size]? = _ := (hB.block _ (by omega)).trans hH
          have hMw : wr0.heap[y2.heap.size]? = _ := (hB.block _ (by omega)).trans MM
          obtain ⟨c0, c1, -, -⟩ := held2 (Below.refl _ wr0) hMw
          have HN : Hid (-3 ≤ n ∧ n ≤ 200) := ⟨hn1, hn2⟩
          have bN := cn_bd F S n
          have lk := World.block_lt_of_cell? wr0 _ k0
          by_cases h200 : n < 200
          · by_cases hneg : n < 0
            · have HAn := fun y => HA n (by omega) (by omega) y
              rw [has_out n (.inl hneg)] at HAn
              have g0 : ¬ (0 : Int) ≤ n := by omega
              have Hq : Hid (n < 0 ∧ n < 200) := ⟨hneg, h200⟩
              clear HA RT NU hneg hn2 hHw hMw
              go_wp2_with (go_at_call 22; refine (HAn _).mono ?_; rintro e x ⟨rfl, h⟩)
              obtain ⟨hneg, h200⟩ := Hq.out
              obtain ⟨hn1, hn2⟩ := HN.out
              exact ⟨⟨n + 1, by omega, by omega, by simp, ⟨by rw [cn_neg F S n hneg]; exact (h.cell lk).trans k0, (frozen_below h lk).trans f0⟩, hB.trans (h.mono (by have := hB.size; omega))⟩, by simp only [intOf]; omega⟩
            · by_cases hhi : 128 < n
              · have HAn := fun y => HA n (by omega) (by omega) y
                rw [has_out n (.inr hhi)] at HAn
                have g0 : (0 : Int) ≤ n := by omega
                have g1 : ¬ n ≤ 128 := by omega
                have Hq : Hid (128 < n ∧ n < 200) := ⟨hhi, h200⟩
                clear HA RT NU hneg hhi hn1 hn2 hHw hMw
                go_wp2_with (go_at_call 22; refine (HAn _).mono ?_; rintro e x ⟨rfl, h⟩)
                obtain ⟨hhi, h200⟩ := Hq.out
                obtain ⟨hn1, hn2⟩ := HN.out
                exact ⟨⟨n + 1, by omega, by omega, by simp, ⟨by rw [cn_high F S n hhi]; exact (h.cell lk).trans k0, (frozen_below h lk).trans f0⟩, hB.trans (h.mono (by have := hB.size; omega))⟩, by simp only [intOf]; omega⟩
              · obtain ⟨i, rfl⟩ : ∃ i : Nat, n = (i : Int) := ⟨n.toNat, by omega⟩
                have HAn := fun y => HA (i : Int) (by omega) (by omega) y
                rw [has_row fl sl i (by omega)] at HAn
                have st := cn_step F S i (by omega)
                have cH := row_cell hHw i (by omega)
                have g0 : (0 : Int) ≤ (i : Int) := by omega
                have g1 : (i : Int) ≤ 128 := by omega
                have Hq : Hid ((i : Int) < 200) := h200
                have HM : Hid (wr0.heap[y2.heap.size]? = some (.cells #[.int .u64 (F : Int), .int .u64 (S : Int)] 24)) := hMw
                clear HA RT NU hneg hhi hn1 hn2 hHw hMw
                cases hr : rowF F S i
                · rw [hr] at HAn cH st
                  have HST : Hid (cn F S ((i : Int) + 1) = cn F S (i : Int)) := by show _ = _; rw [st]; simp
                  clear st hr
                  go_wp2_with (go_at_call 22; refine (HAn _).mono ?_; rintro e x ⟨rfl, h⟩)
                  have h200 := Hq.out
                  obtain ⟨hn1, hn2⟩ := HN.out
                  exact ⟨⟨(i : Int) + 1, by omega, by omega, by simp, ⟨by rw [HST.out]; exact (h.cell lk).trans k0, (frozen_below h lk).trans f0⟩, hB.trans (h.mono (by have := hB.size; omega))⟩, by simp only [intOf]; omega⟩
                · rw [hr] at HAn cH st
                  have HST : Hid (cn F S ((i : Int) + 1) = cn F S (i : Int) + 1) := by show _ = _; rw [st]; simp
                  clear st hr
                  have b1 := bN.1
                  have b2 := bN.2
                  clear bN
                  have t0 := fun v => (cell_ne (x := wr0) (g := y7.heap.size + 1) (n := 0) v (p := ⟨y2.heap.size, 0, Option.none⟩) (by simp; omega)).trans c0
                  have t1 := fun v => (cell_ne (x := wr0) (g := y7.heap.size + 1) (n := 0) v (p := ⟨y2.heap.size, 1, Option.none⟩) (by simp; omega)).trans c1
                  go_wp2_with (go_at_call 22; refine (HAn _).mono ?_; rintro e x ⟨rfl, h⟩)
                  have h200 := Hq.out
                  obtain ⟨hn1, hn2⟩ := HN.out
                  exact ⟨⟨(i : Int) + 1, by omega, by omega, by simp, ⟨by rw [HST.out]; exact (h.cell (by simpa using lk)).trans (cell_same _ k0), (frozen_below h (by simpa using lk)).trans (frozen_ne _ f0)⟩, (hB.setCell (p := ⟨y7.heap.size + 1, 0, Option.none⟩) (Nat.le_refl _) _).trans (h.mono (by simp; have := hB.size; omega))⟩, by simp only [intOf]; omega⟩
          · obtain rfl : n = 200 := by omega
            rw [cn_end] at k0
            have eF : fld F = F := by rw [fld_mod]; exact Nat.mod_eq_of_lt fl
            have eS : fld S = S := by rw [fld_mod]; exact Nat.mod_eq_of_lt sl
            rw [eF, eS] at NU
            have T9 := Np.L_len F S 128
            generalize hT : (Np.L F S 128).length = T at *
            have HT : Hid ((Np.L F S 128).length = T) := hT
            clear hT c0 c1 HA bN hn1 hn2 h200 HN
            obtain ⟨c0, c1⟩ := all2 hMw
            go_wp2_with fail
            have ML := cell1 (h1_0 wr0 (.cells #[.int .i64 0] 3))
            have k1 := alloc_c (.cells #[.int .i64 0] 3) k0
            have f1 := alloc_f (.cells #[.int .i64 0] 3) k0 f0
            have hB1 := hB.alloc (by have := hB.size; omega) (.cells #[.int .i64 0] 3)
            have s9 : (wr0.alloc (.cells #[.int .i64 0] 3)).heap.size = wr0.heap.size + 1 := by simp
            generalize wr0.alloc (.cells #[.int .i64 0] 3) = y9 at *
            refine (NU _).mono ?_
            rintro e yA ⟨b, rfl, hb, h⟩
            have lL := World.block_lt_of_cell? y9 _ ML.1
            have lK := World.block_lt_of_cell? y9 _ k1
            have L0 := (h.cell lL).trans ML.1
            have L1 := (frozen_below h lL).trans ML.2
            have K0 := (h.cell lK).trans k1
            have K1 := (frozen_below h lK).trans f1
            have hBA : Below (y7.heap.size + 1) y8 yA := hB1.trans (h.mono (by have := hB1.size; omega))
            have sA := hBA.size
            have sz0 := hB.size
            clear h NU c0 c1 k0 f0 k1 f1 ML hB1 hHw hMw hB
            unfold fv
            go_wp2_with fail
            refine (wpIn_wide (n := 8)).1 ?_
            refine range1 rfl (by omega) (gf := 25) (lb := #[.pointer (some ⟨b, 0, Option.none⟩)]) rfl trivial (enters_of Try.func25 (by kernel_rfl) rfl)
              (S := fun xs => vals xs = Np.L F S 128) (Sp := fun pre => vals pre <+: Np.L F S 128) (goes_sub F S f64 s64 _ (by omega) b (y7.heap.size + 1) yA hb) belowK_t (belowK_b (by omega)) (Below.refl _ _) 28
              (fun pre W => ((W.cell? ⟨wr0.heap.size, 0, Option.none⟩ = some (.int .i64 (last (vals pre))) ∧ W.frozen? ⟨wr0.heap.size, 0, Option.none⟩ = false) ∧ (W.cell? ⟨y7.heap.size + 1, 0, Option.none⟩ = some (.int .i64 ((T : Int) - (pre.length : Int))) ∧ W.frozen? ⟨y7.heap.size + 1, 0, Option.none⟩ = false)) ∧ Below (y7.heap.size + 1) y8 W)
              (fun c pre W => c = .ret ∧ ¬ vals pre <+: Np.L F S 128)
              (OwnFrom.and (Own.from (fun s A B row hs hg hr => ⟨⟨cell_kept hs.1.1 hg hr, (frozen_kept hs.1.1 hg hr).trans hs.1.2⟩, cell_kept hs.2.1 hg hr, (frozen_kept hs.2.1 hg hr).trans hs.2.2⟩) _) (ownFrom_below (by omega) (by omega)))
              (fun c => fun s A B row hs hg hr => hs)
              ⟨⟨⟨by rw [L0]; rfl, L1⟩, by rw [K0]; simp, K1⟩, hBA⟩ ?assign ?body ?done ?stop
            case assign =>
              intro l x W K hK
              gi_wp2
              exact hK
            case body =>
              rintro l pre x W ⟨⟨⟨k0, f0⟩, k1, f1⟩, hB⟩ hN
              simp only [List.setIfInBounds_toArray, List.set_cons_succ, List.set_cons_zero]
              have hHw : W.heap[y1.heap.size]? = _ := (hB.block _ (by omega)).trans hH
              obtain ⟨cR, fR⟩ := cell1 ((hB.block w.heap.size (by omega)).trans M3)
              have GN : Hid (vals (pre ++ [x]) <+: Np.L F S 128 → last (vals pre) < x.1 ∧ rowF F S x.1.toNat = true) := fun h => goes_on (by rw [vals_snoc] at h; exact h)
              have GL : Hid (last (vals (pre ++ [x])) = x.1) := by show _ = _; rw [vals_snoc]; exact last_snoc _ _
              have hx := x.2
              generalize hxi : x.1 = xi at *
              obtain ⟨i, rfl⟩ : ∃ i : Nat, xi = (i : Int) := ⟨xi.toNat, by omega⟩
              rw [Int.toNat_natCast] at GN
              have cH := row_cell hHw i (by omega)
              have g0 : (0 : Int) ≤ (i : Int) := by omega
              have g1 : (i : Int) < 129 := by omega
              have pN : (pre.length : Int) < 128 := by omega
              have p0 : (0 : Int) ≤ (pre.length : Int) := by omega
              have t0 : (0 : Int) ≤ (T : Int) := by omega
              have t1 : (T : Int) ≤ 128 := by omega
              generalize hla : last (vals pre) = la at *
              have tk := fun v => (cell_ne (x := W) (g := wr0.heap.size) (n := 0) v (p := ⟨y7.heap.size + 1, 0, Option.none⟩) (by simp; omega)).trans k1
              have tf := fun v => frozen_ne (x := W) (q := ⟨wr0.heap.size, 0, Option.none⟩) v (p := ⟨y7.heap.size + 1, 0, Option.none⟩) f1
              clear L0 L1 K0 K1 hBA hb M3 hH MM RT hN hx hHw hla hxi
              by_cases hle : (i : Int) ≤ la
              · have HX : Hid (¬ vals (pre ++ [x]) <+: Np.L F S 128) := fun h => by have := (GN.out h).1; omega
                clear cH
                gi_wp2
                exact ⟨KeepsOthers.setCell _ _ _, rfl, HX.out⟩
              · cases hr : rowF F S i
                · have HX : Hid (¬ vals (pre ++ [x]) <+: Np.L F S 128) := fun h => by have := (GN.out h).2; rw [hr] at this; cases this
                  rw [hr] at cH
                  clear hr
                  gi_wp2
                  exact ⟨KeepsOthers.setCell _ _ _, rfl, HX.out⟩
                · rw [hr] at cH
                  clear hr
                  gi_wp2
                  refine ⟨(KeepsOthers.setCell _ _ _).trans (KeepsOthers.setCell _ _ _), ((Below.refl _ W).setCell (p := ⟨wr0.heap.size, 0, Option.none⟩) (by simp; omega) _).setCell (p := ⟨y7.heap.size + 1, 0, Option.none⟩) (Nat.le_refl _) _, ⟨⟨?_, ?_⟩, ?_, ?_⟩, (hB.setCell (p := ⟨wr0.heap.size, 0, Option.none⟩) (by simp; omega) _).setCell (p := ⟨y7.heap.size + 1, 0, Option.none⟩) (Nat.le_refl _) _⟩
                  · rw [cell_ne _ (by simp; omega), cell_same _ k0, GL.out]
                  · exact frozen_ne _ (frozen_ne _ f0)
                  · rw [cell_same _ (tk _)]; simp; omega
                  · exact frozen_ne _ (tf _)
            case done =>
              rintro D ys W hD hS ⟨⟨⟨k0, f0⟩, k1, f1⟩, hB⟩ hK
              rw [show (T : Int) - (ys.length : Int) = 0 by rw [← HT.out, ← hS, vals_len]; omega] at k1
              obtain ⟨cR, fR⟩ := cell1 ((hB.block w.heap.size (by omega)).trans M3)
              obtain ⟨c0, c1, -, -⟩ := held2 (Below.refl _ W) ((hB.block y2.heap.size (by omega)).trans MM)
              have lR := World.block_lt_of_cell? W _ cR
              have bW : Below w.heap.size w W := B.trans (hB.mono (by omega))
              rw [show (decide (F < 9223372036854775808) && decide (S < 9223372036854775808)) = true by simp [fl, sl]] at RT
              clear L0 L1 K0 K1 hBA hb M3 hH MM hS k0 f0 hB
              go_wp2_with (go_at_call 23; refine (RT _).mono ?_; rintro e y ⟨rfl, h⟩; have dR := (h.cell lR).trans cR; have dF := (frozen_below h lR).trans fR)
              have hK1 := kept h hK
              have bY := bW.trans (h.mono (by have := bW.size; omega))
              have hK' := (KeepsOthers.setCell y ⟨w.heap.size, 0, Option.none⟩ (.bool true)).same D _ hK1 rfl
              refine ⟨by simp, .inl ⟨_, _, rfl, run_takeDeferred hK', ?_⟩⟩
              have hc5 := cell_kept (cell_same (.bool true) dR) (grownBy_putObj' _ D (.deferred Option.none)) (fun r e => by cases e; exact ⟨_, hK', rfl⟩)
              refine ⟨.bool true, ?_, rfl, (bY.setCell (p := ⟨w.heap.size, 0, Option.none⟩) (Nat.le_refl _) _).trans (belowK_b (w := w) (Nat.le_refl _) _ D _ _ (by omega) hK' rfl rfl)⟩
              simp [results, Try.f4, go_sem, hc5]
            case stop =>
              rintro D c pre W hD hpre ⟨rfl, hin⟩ hK
              exact absurd hpre hin
end Go.Proofs.Ytkleoklcaalogaa.Nb
