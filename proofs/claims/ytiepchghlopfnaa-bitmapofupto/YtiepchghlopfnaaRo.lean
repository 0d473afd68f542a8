/- Of: the document's; and that both are alike. -/
import Derived.Test.YtiepchghlopfnaaOf
import Derived.Test.YtiepchghlopfnaaBx
namespace Go.Proofs.Ytiepchghlopfnaa.Ro
set_option linter.unusedVariables false
open Go.RowKit Pla Bm Bn Br Bv Bw Bx Of
def ofR (l : List Int) : Nat → Bool := l.foldl (fun f n => upd f n.toNat true) (fun _ => false)
theorem ofR_snoc (l : List Int) (n : Int) : ofR (l ++ [n]) = upd (ofR l) n.toNat true := by simp [ofR]
/-- the document's answer's row -/
def ofRV (l : List Int) : Nat → Bool := if l.all field then ofR l else fun _ => false
def ofE (l : List Int) : Int := if l.all field then 0 else 1
set_option maxRecDepth 100000 in
set_option maxHeartbeats 1600000 in
theorem rof_any (l : List Int) (b o cap : Nat) (w : World) (hl : (l.length : Int) ≤ 9223372036854775000) (hc : ∀ i (h : i < l.length), w.cell? ⟨b, o + i, none⟩ = some (.int .i64 l[i])) (hb : b < w.heap.size) :
    Calls Try.prog 13 #[.slice (some ⟨b, o, none⟩) l.length cap] w fun e w' => e = .returned (.tuple #[.agg (rowC (ofRV l)), .int .i64 (ofE l)]) ∧ Below w.heap.size w w' := by
  have HC : Hid (∀ i (h : i < l.length), w.cell? ⟨b, o + i, none⟩ = some (.int .i64 l[i])) := hc
  clear hc
  have hz := (zero_of_info zrow).1
  go_enter Try.func13, Try.ntmps13
  go_wp2_with fail
  go_loopw [5] (fun ii wr => ∃ j : Nat, j ≤ l.length ∧ ii = .int .i64 (j : Int) ∧ Hid ((l.take j).all field = true) ∧ Hid (wr.heap[w.heap.size]? = some (.cells (rowC fun _ => false) 33 (0, 0))) ∧ Hid (wr.heap[w.heap.size + 1]? = some (.cells (rowC (ofR (l.take j))) 33 (0, 0))) ∧ Below w.heap.size w wr) (fun ii _ => l.length + 1 - (intOf ii).toNat)
  case atStart => exact ⟨0, by omega, rfl, rfl, h2_0 w _ _, h2_1 w _ _, below_two w _ _⟩
  case round =>
    obtain ⟨j, hj, rfl, HA, G0, G1, hbw⟩ := hrel
    by_cases hj2 : j < l.length
    · have q : (j : Int) < (l.length : Int) := by omega
      obtain ⟨n, hn⟩ : ∃ n, n = l[j] := ⟨_, rfl⟩
      have cz : wr.cell? ⟨b, o + j, none⟩ = some (.int .i64 n) := by rw [hbw.cell (p := ⟨b, o + j, none⟩) hb, HC.out j hj2, hn]
      cases hf : field n
      · have HV : Hid (ofRV l = (fun _ => false) ∧ ofE l = 1) := by
          show _ ∧ _
          rw [ofRV, ofE, all_false l j hj2 (hn ▸ hf)]; exact ⟨rfl, rfl⟩
        clear hn hj hj2 HA
        go_wp2_with (first
          | (go_at_call 42; refine (refField_any _ _).mono ?_; rintro e x ⟨rfl, rfl⟩; rw [hf])
          | (refine wpList_zrow rfl rfl ?_)
          | (refine wpList_store_row rfl 33 _ _ rfl w.heap.size (rowC fun _ => false) rfl rfl _ _ G0.out (hsz fun _ => false) rfl (rowC_one fun _ => false) ?_))
        exact bodyPost_ret (v := .tuple #[.agg (rowC fun _ => false), .int .i64 1]) (res_row_tmp (fn := Try.f13) (p := 2) (u := 3) rfl _ _ w.heap.size _ _ _ _ rfl (setRow_at G0.out _) Try.underlying33 rfl (hsz _)) rfl ⟨by rw [HV.out.1, HV.out.2], below_setRow hbw (Nat.le_refl _) _⟩
      · have HA2 : Hid ((l.take (j + 1)).all field = true) := by
          show _ = _
          rw [take_snoc l j hj2, List.all_append, HA.out, ← hn]; simp [hf]
        have hf' := hf
        simp only [field, Bool.and_eq_true, decide_eq_true_eq, Bool.not_eq_true', beq_eq_false_iff_ne] at hf'
        obtain ⟨⟨b1, b2⟩, b3⟩ := hf'
        have HF : Hid (ofR (l.take (j + 1)) = upd (ofR (l.take j)) n.toNat true) := by show _ = _; rw [take_snoc l j hj2, ofR_snoc, hn]
        have K1 := G1.out
        generalize ofR (l.take j) = f at *
        have k1 := row_cell K1 n.toNat (by omega)
        have k2 : wr.frozen? ⟨w.heap.size + 1, n.toNat, none⟩ = false := frozen_of_row _ _ _ _ _ K1
        have HN : Hid ((wr.setCell ⟨w.heap.size + 1, n.toNat, none⟩ (.bool true)).heap[w.heap.size + 1]? = some (.cells (rowC (upd f n.toNat true)) 33 (0, 0))) := setCell_row true K1 (by omega)
        have KK : Hid _ := K1
        clear hn HA K1 b3
        go_wp2_with (go_at_call 42; refine (refField_any _ _).mono ?_; rintro e x ⟨rfl, rfl⟩; rw [hf])
        refine ⟨⟨j + 1, by omega, by simp, HA2, (setCell_n _ (by omega)).trans G0.out, by rw [HF.out]; exact HN.out, hbw.setCell (by simp) _⟩, by simp only [intOf]; omega⟩
    · obtain rfl : j = l.length := by omega
      have K1 := G1.out
      rw [List.take_length] at K1
      have HV : Hid (ofRV l = ofR l ∧ ofE l = 0) := by
        show _ ∧ _
        have := HA.out
        rw [List.take_length] at this
        rw [ofRV, ofE, this]; exact ⟨rfl, rfl⟩
      have KK : Hid (wr.heap[w.heap.size + 1]? = some (.cells (rowC (ofR l)) 33 (0, 0))) := K1
      clear HA G1 K1
      go_wp2_with (first
        | (refine wpList_load_row rfl 33 _ rfl (w.heap.size + 1) rfl _ _ _ _ KK.out Try.underlying33 rfl (hsz _) ?_)
        | (refine wpList_store_row rfl 33 _ _ rfl w.heap.size (rowC (ofR l)) rfl rfl _ _ G0.out (hsz _) (by rw [rowC_size, rowC_size]) (rowC_one _) ?_))
      exact bodyPost_ret (v := .tuple #[.agg (rowC (ofR l)), .int .i64 0]) (res_row_tmp (fn := Try.f13) (p := 2) (u := 3) rfl _ _ w.heap.size _ _ _ _ rfl (setRow_at G0.out _) Try.underlying33 rfl (hsz _)) rfl ⟨by rw [HV.out.1, HV.out.2], below_setRow hbw (Nat.le_refl _) _⟩
/-! both are alike -/
theorem foldF_bit : ∀ (l : List Int) (a i : Nat), (l.foldl (fun a n => a ||| onlyF n) a).testBit i = (a.testBit i || l.any (fun n => (onlyF n).testBit i))
  | [], a, i => by simp
  | n :: l, a, i => by rw [List.foldl_cons, foldF_bit l, Nat.testBit_or, List.any_cons, Bool.or_assoc]
theorem foldS_bit : ∀ (l : List Int) (a i : Nat), (l.foldl (fun a n => a ||| onlyS n) a).testBit i = (a.testBit i || l.any (fun n => (onlyS n).testBit i))
  | [], a, i => by simp
  | n :: l, a, i => by rw [List.foldl_cons, foldS_bit l, Nat.testBit_or, List.any_cons, Bool.or_assoc]
theorem foldR_at : ∀ (l : List Int) (f : Nat → Bool) (i : Nat), (l.foldl (fun f n => upd f n.toNat true) f) i = (f i || l.any (fun n => decide (n.toNat = i)))
  | [], f, i => by simp
  | n :: l, f, i => by
    rw [List.foldl_cons, foldR_at l, List.any_cons, upd]
    by_cases h : i = n.toNat
    · subst h; simp
    · have h' : ¬ n.toNat = i := fun e => h e.symm
      simp [h, h']
theorem any_congr {l : List Int} {p q : Int → Bool} (h : ∀ n ∈ l, p n = q n) : l.any p = l.any q := by
  induction l with
  | nil => rfl
  | cons a l ih => rw [List.any_cons, List.any_cons, h a (by simp), ih (fun n hn => h n (by simp [hn]))]
theorem of_first (l : List Int) (h : l.all field = true) : halfN (ofR l) 0 64 = ofF l :=
  half_first (ofF_lt l) fun i h1 h2 => by
    rw [ofR, ofF, foldR_at, foldF_bit]
    simp only [Bool.false_or, Nat.zero_testBit]
    refine any_congr fun n hn => ?_
    have hf := List.all_eq_true.1 h n hn
    simp only [field, Bool.and_eq_true, decide_eq_true_eq, Bool.not_eq_true', beq_eq_false_iff_ne] at hf
    rw [onlyF_bit]
    by_cases e : n.toNat = i
    · simp only [decide_eq_true e, Bool.true_eq, Bool.and_eq_true, decide_eq_true_eq]; omega
    · rw [decide_eq_false e]
      simp only [Bool.false_eq, Bool.and_eq_false_iff, decide_eq_false_iff_not]; omega
theorem of_second (l : List Int) (h : l.all field = true) : halfN (ofR l) 64 64 = ofS l :=
  half_second (ofS_lt l) fun i h1 h2 => by
    rw [ofR, ofS, foldR_at, foldS_bit]
    simp only [Bool.false_or, Nat.zero_testBit]
    refine any_congr fun n hn => ?_
    have hf := List.all_eq_true.1 h n hn
    simp only [field, Bool.and_eq_true, decide_eq_true_eq, Bool.not_eq_true', beq_eq_false_iff_ne] at hf
    rw [onlyS_bit]
    by_cases e : n.toNat = i
    · simp only [decide_eq_true e, Bool.true_eq, Bool.and_eq_true, decide_eq_true_eq]; omega
    · rw [decide_eq_false e]
      simp only [Bool.false_eq, Bool.and_eq_false_iff, decide_eq_false_iff_not]; omega
theorem half_zero (b : Nat) : ∀ k, halfN (fun _ => false) b k = 0
  | 0 => rfl
  | k + 1 => by rw [halfN, half_zero b k]; rfl
theorem of_like (l : List Int) : (ofV l).1 = halfN (ofRV l) 0 64 ∧ (ofV l).2.1 = halfN (ofRV l) 64 64 ∧ (ofV l).2.2 = ofE l := by
  unfold ofV ofRV ofE
  cases h : l.all field
  · exact ⟨(half_zero 0 64).symm, (half_zero 64 64).symm, rfl⟩
  · exact ⟨(of_first l h).symm, (of_second l h).symm, rfl⟩
end Go.Proofs.Ytiepchghlopfnaa.Ro
