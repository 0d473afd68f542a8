/- Of: the document's, of whatever slice came in. -/
import Derived.Test.YtiepchghlopfnaaRo
import Derived.Test.YtiepchghlopfnaaSl
import Derived.Deep.OwnRows
namespace Go.Proofs.Ytiepchghlopfnaa.Rq
set_option linter.unusedVariables false
open Go.RowKit Pla Bm Bn Br Bv Bw Bx Of Ro Sl
set_option maxRecDepth 100000 in
set_option maxHeartbeats 1600000 in
theorem rof_at (l : List Int) (a : Addr) (cap : Nat) (w : World) (hl : (l.length : Int) ≤ 9223372036854775000) (hc : ∀ i (h : i < l.length), w.cell? (a.add i) = some (.int .i64 l[i])) :
    Calls Try.prog 13 #[.slice (some a) l.length cap] w fun e w' => e = .returned (.tuple #[.agg (rowC (ofRV l)), .int .i64 (ofE l)]) ∧ Below w.heap.size w w' := by
  have HC : Hid (∀ i (h : i < l.length), w.cell? (a.add i) = some (.int .i64 l[i])) := hc
  clear hc
  have hz := (zero_of_info zrow).1
  go_enter Try.func13, Try.ntmps13
  go_wp2_with fail
  go_loopw [5] (fun ii wr => ∃ j : Nat, j ≤ l.length ∧ ii = .int .i64 (j : Int) ∧ Hid ((l.take j).all field = true) ∧ Hid (wr.heap[w.heap.size]? = some (.cells (rowC fun _ => false) 33 (0, 0))) ∧ Hid (wr.heap[w.heap.size + 1]? = some (.cells (rowC (ofR (l.take j))) 33 (0, 0))) ∧ Below w.heap.size w wr) (fun ii _ => l.length + 1 - (intOf ii).toNat)
  case atStart => exact ⟨0, by omega, rfl, rfl, h2_0 w _ _, h2_1 w _ _, below_two w _ _⟩
  case round =>
    obtain ⟨j, hj, rfl, HA, G0, G1, hbw⟩ := hrel
    by_cases hj2 : j < l.length
    · have q : (j : Int) < (l.length : Int) := by omega
      obtain ⟨n, hn⟩ : ∃ n, n = l[j] := ⟨_, rfl⟩
      have cz : wr.cell? (a.add j) = some (.int .i64 n) := by rw [hbw.cell (p := a.add j) (World.block_lt_of_cell? w _ (HC.out j hj2)), HC.out j hj2, hn]
      cases hf : field n
      · have HV : Hid (ofRV l = (fun _ => false) ∧ ofE l = 1) := by
          show _ ∧ _
          rw [ofRV, ofE, all_false l j hj2 (hn ▸ hf)]; exact ⟨rfl, rfl⟩
        clear hn hj hj2 HA
        go_wp2_with (first
          | (go_at_call 42; refine (refField_any _ _).mono ?_; rintro e x ⟨rfl, rfl⟩; rw [hf])
          | (refine wpList_zrow rfl rfl ?_)
          | (refine wpList_store_row rfl 33 _ _ rfl w.heap.size (rowC fun _ => false) rfl rfl _ _ G0.out (hsz fun _ => false) rfl (rowC_one fun _ => false) ?_))
        exact bodyPost_ret (v := .tuple #[.agg (rowC fun _ => false), .int .i64 1]) (res_row_tmp (fn := Try.f13) (p := 2) (u := 3) rfl _ _ w.heap.size _ _ _ _ rfl (setRow_at G0.out _) Try.underlying33 rfl (hsz _)) rfl ⟨by rw [HV.out.1, HV.out.2], below_setRow hbw (Nat.le_refl _) _⟩
      · have HA2 : Hid ((l.take (j + 1)).all field = true) := by
          show _ = _
          rw [take_snoc l j hj2, List.all_append, HA.out, ← hn]; simp [hf]
        have hf' := hf
        simp only [field, Bool.and_eq_true, decide_eq_true_eq, Bool.not_eq_true', beq_eq_false_iff_ne] at hf'
        obtain ⟨⟨b1, b2⟩, b3⟩ := hf'
        have HF : Hid (ofR (l.take (j + 1)) = upd (ofR (l.take j)) n.toNat true) := by show _ = _; rw [take_snoc l j hj2, ofR_snoc, hn]
        have K1 := G1.out
        generalize ofR (l.take j) = f at *
        have k1 := row_cell K1 n.toNat (by omega)
        have k2 : wr.frozen? ⟨w.heap.size + 1, n.toNat, none⟩ = false := frozen_of_row _ _ _ _ _ K1
        have HN : Hid ((wr.setCell ⟨w.heap.size + 1, n.toNat, none⟩ (.bool true)).heap[w.heap.size + 1]? = some (.cells (rowC (upd f n.toNat true)) 33 (0, 0))) := setCell_row true K1 (by omega)
        have KK : Hid _ := K1
        clear hn HA K1 b3
        go_wp2_with (go_at_call 42; refine (refField_any _ _).mono ?_; rintro e x ⟨rfl, rfl⟩; rw [hf])
        refine ⟨⟨j + 1, by omega, by simp, HA2, (setCell_n _ (by omega)).trans G0.out, by rw [HF.out]; exact HN.out, hbw.setCell (by simp) _⟩, by simp only [intOf]; omega⟩
    · obtain rfl : j = l.length := by omega
      have K1 := G1.out
      rw [List.take_length] at K1
      have HV : Hid (ofRV l = ofR l ∧ ofE l = 0) := by
        show _ ∧ _
        have := HA.out
        rw [List.take_length] at this
        rw [ofRV, ofE, this]; exact ⟨rfl, rfl⟩
      have KK : Hid (wr.heap[w.heap.size + 1]? = some (.cells (rowC (ofR l)) 33 (0, 0))) := K1
      clear HA G1 K1
      go_wp2_with (first
        | (refine wpList_load_row rfl 33 _ rfl (w.heap.size + 1) rfl _ _ _ _ KK.out Try.underlying33 rfl (hsz _) ?_)
        | (refine wpList_store_row rfl 33 _ _ rfl w.heap.size (rowC (ofR l)) rfl rfl _ _ G0.out (hsz _) (by rw [rowC_size, rowC_size]) (rowC_one _) ?_))
      exact bodyPost_ret (v := .tuple #[.agg (rowC (ofR l)), .int .i64 0]) (res_row_tmp (fn := Try.f13) (p := 2) (u := 3) rfl _ _ w.heap.size _ _ _ _ rfl (setRow_at G0.out _) Try.underlying33 rfl (hsz _)) rfl ⟨by rw [HV.out.1, HV.out.2], below_setRow hbw (Nat.le_refl _) _⟩
set_option maxRecDepth 100000 in
set_option maxHeartbeats 1600000 in
theorem rof_nil (w : World) : Calls Try.prog 13 #[.slice none 0 0] w fun e w' => e = .returned (.tuple #[.agg (rowC (ofRV [])), .int .i64 (ofE [])]) ∧ Below w.heap.size w w' := by
  have hz := (zero_of_info zrow).1
  have g0 := h2_0 w (Obj.cells (rowC fun _ => false) 33) (Obj.cells (rowC fun _ => false) 33)
  have g1 := h2_1 w (Obj.cells (rowC fun _ => false) 33) (Obj.cells (rowC fun _ => false) 33)
  go_enter Try.func13, Try.ntmps13
  go_wp2_with fail
  refine wp_loop_rounds 1 ?_
  rw [rounds_succ]
  go_wp2_with (first
    | (refine wpList_load_row rfl 33 _ rfl (w.heap.size + 1) rfl _ _ _ _ g1 Try.underlying33 rfl (hsz _) ?_)
    | (refine wpList_store_row rfl 33 _ _ rfl w.heap.size (rowC fun _ => false) rfl rfl _ _ g0 (hsz _) rfl (rowC_one _) ?_))
  exact bodyPost_ret (v := .tuple #[.agg (rowC fun _ => false), .int .i64 0]) (res_row_tmp (fn := Try.f13) (p := 2) (u := 3) rfl _ _ w.heap.size _ _ _ _ rfl (setRow_at g0 _) Try.underlying33 rfl (hsz _)) rfl ⟨rfl, below_setRow (below_two w _ _) (Nat.le_refl _) _⟩
theorem rof_lies (l : List Int) (v : Value) (w : World) (h : Lies w v l) (hl : l.length ≤ 1048576) :
    Calls Try.prog 13 #[v] w fun e w' => e = .returned (.tuple #[.agg (rowC (ofRV l)), .int .i64 (ofE l)]) ∧ Below w.heap.size w w' := by
  rcases h with ⟨rfl, rfl⟩ | ⟨a, cap, rfl, _, _, hc, _⟩
  · exact rof_nil w
  · exact rof_at l a cap w (by omega) hc
/-! lent -/
theorem info3 : (Try.prog.info? 3).map (fun i => (i.zero, i.size, i.bytes)) = some (some (.int .i64 0), 1, 8) := by kernel_rfl
def lentF (l : List Int) : Nat → Int := fun i => if h : i < l.length then l[i] else -77
def lentU (l : List Int) (j : Nat) : Nat → Int := fun i => if i < j then lentF l i else 0
theorem lentU_step (l : List Int) (n j : Nat) (h : j < n) : (inC n (lentU l j)).setIfInBounds j (.int .i64 (lentF l j)) = inC n (lentU l (j + 1)) := by
  rw [inC_set _ _ _ _ h]
  refine inC_ext fun i _ => ?_
  simp only [updI, lentU]
  by_cases e : i = j
  · subst e; rw [if_pos rfl, if_pos (by omega)]
  · rw [if_neg e]
    by_cases c : i < j
    · rw [if_pos c, if_pos (by omega)]
    · rw [if_neg c, if_neg (by omega)]
set_option maxRecDepth 100000 in
set_option maxHeartbeats 1600000 in
theorem lent_at (l : List Int) (a : Addr) (cap : Nat) (w : World) (hl : l.length ≤ 1048576) (hc : ∀ i (h : i < l.length), w.cell? (a.add i) = some (.int .i64 l[i])) :
    Calls Try.prog 10 #[.slice (some a) l.length cap] w fun e w' => e = .returned (.slice (some ⟨w.heap.size, 0, none⟩) (l.length + 8) (l.length + 8)) ∧ w' = w.alloc (Obj.cells (inC (l.length + 8) (lentF l)) 3) := by
  have HC : Hid (∀ i (h : i < l.length), w.cell? (a.add i) = some (.int .i64 l[i])) := hc
  clear hc
  have mk := run_make_row' (P := Try.prog) 22 3 (.int .i64 0) 8 Try.underlying22 info3 rfl .i64 .i64 (l.length + 8) (by omega) (by omega) w
  rw [made_inC] at mk
  have m8 : ((l.length + 8 : Nat) : Int) = (l.length : Int) + 8 := by omega
  rw [m8] at mk
  have i1 : (l.length : Int) ≤ 1048576 := by omega
  rw [show inC (l.length + 8) (fun _ => 0) = inC (l.length + 8) (lentU l 0) from inC_ext fun i _ => by rw [lentU, if_neg (by omega)]] at mk
  go_enter Try.func10, Try.ntmps10
  go_wp2_with fail
  clear mk
  go_loopw [4] (fun ii wr => ∃ j : Nat, j ≤ l.length + 8 ∧ ii = .int .i64 (j : Int) ∧ wr = w.alloc (Obj.cells (inC (l.length + 8) (lentU l j)) 3)) (fun ii _ => l.length + 9 - (intOf ii).toNat)
  case atStart => exact ⟨0, by omega, rfl, rfl⟩
  case round =>
    obtain ⟨j, hj, rfl, rfl⟩ := hrel
    by_cases hj2 : j < l.length + 8
    · have q : (j : Int) < (l.length : Int) + 8 := by omega
      have q2 : (j : Int) < ((l.length + 8 : Nat) : Int) := by omega
      have q0 : (0 : Int) ≤ (j : Int) := by omega
      have k1 := inC_get (l.length + 8) (lentU l j) j hj2
      have k2 : ∀ v, ((inC (l.length + 8) (lentU l j)).setIfInBounds j v)[j]? = some v := fun v => by
        rw [Array.getElem?_setIfInBounds_self_of_lt (by rw [inC_size]; exact hj2)]
      have HN : Hid ((inC (l.length + 8) (lentU l j)).setIfInBounds j (.int .i64 (lentF l j)) = inC (l.length + 8) (lentU l (j + 1))) := lentU_step l _ j hj2
      by_cases hjl : j < l.length
      · have q3 : (j : Int) < (l.length : Int) := by omega
        obtain ⟨n, hn⟩ : ∃ n, n = l[j] := ⟨_, rfl⟩
        have HF : Hid (lentF l j = n) := by show _ = _; rw [lentF, dif_pos hjl, hn]
        have lt := World.block_lt_of_cell? w _ (HC.out j hjl)
        have cz : ∀ o, (w.alloc o).cell? (a.add j) = some (.int .i64 n) := fun o => by
          rw [World.cell?_of_block (w := w) (Below.heap_alloc w o _ lt), HC.out j hjl, hn]
        clear hn hj
        go_wp2_with fail
        rw [HF.out] at HN
        refine ⟨⟨j + 1, by omega, by simp, by rw [HN.out]⟩, by simp only [intOf]; omega⟩
      · have q3 : ¬ (j : Int) < (l.length : Int) := by omega
        have HF : Hid (lentF l j = -77) := by show _ = _; rw [lentF, dif_neg hjl]
        clear hj
        go_wp2_with fail
        rw [HF.out] at HN
        refine ⟨⟨j + 1, by omega, by simp, by rw [HN.out]⟩, by simp only [intOf]; omega⟩
    · obtain rfl : j = l.length + 8 := by omega
      rw [show inC (l.length + 8) (lentU l (l.length + 8)) = inC (l.length + 8) (lentF l) from inC_ext fun i hi => by rw [lentU, if_pos hi]]
      go_wp2_with fail
      go_ret
      exact ⟨rfl, rfl⟩
set_option maxRecDepth 100000 in
set_option maxHeartbeats 1600000 in
theorem lent_nil (w : World) :
    Calls Try.prog 10 #[.slice none 0 0] w fun e w' => e = .returned (.slice (some ⟨w.heap.size, 0, none⟩) 8 8) ∧ w' = w.alloc (Obj.cells (inC 8 (lentF [])) 3) := by
  have mk : (Instr.makeSlice 22 (.int .i64 8) (.int .i64 8)).run Try.prog w = .ok (.slice (some ⟨w.heap.size, 0, none⟩) 8 8) (w.alloc (.cells (madeCells #[.int .i64 0] 8) 3)) := run_make_row' (P := Try.prog) 22 3 (.int .i64 0) 8 Try.underlying22 info3 rfl .i64 .i64 8 (by omega) (by omega) w
  rw [made_inC, show inC 8 (fun _ => 0) = inC 8 (lentU [] 0) from inC_ext fun i _ => by rw [lentU, if_neg (by omega)]] at mk
  go_enter Try.func10, Try.ntmps10
  go_wp2_with fail
  clear mk
  go_loopw [4] (fun ii wr => ∃ j : Nat, j ≤ 8 ∧ ii = .int .i64 (j : Int) ∧ wr = w.alloc (Obj.cells (inC 8 (lentU [] j)) 3)) (fun ii _ => 9 - (intOf ii).toNat)
  case atStart => exact ⟨0, by omega, rfl, rfl⟩
  case round =>
    obtain ⟨j, hj, rfl, rfl⟩ := hrel
    by_cases hj2 : j < 8
    · have q : (j : Int) < 8 := by omega
      have q0 : (0 : Int) ≤ (j : Int) := by omega
      have k1 := inC_get 8 (lentU [] j) j hj2
      have HN : Hid ((inC 8 (lentU [] j)).setIfInBounds j (.int .i64 (-77)) = inC 8 (lentU [] (j + 1))) := lentU_step [] 8 j hj2
      clear hj
      go_wp2_with fail
      refine ⟨⟨j + 1, by omega, by simp, by rw [HN.out]⟩, by simp only [intOf]; omega⟩
    · obtain rfl : j = 8 := by omega
      rw [show inC 8 (lentU [] 8) = inC 8 (lentF []) from inC_ext fun i hi => by rw [lentU, if_pos hi]]
      go_wp2_with fail
      go_ret
      exact ⟨rfl, rfl⟩
theorem lent_lies (l : List Int) (v : Value) (w : World) (h : Lies w v l) (hl : l.length ≤ 1048576) :
    Calls Try.prog 10 #[v] w fun e w' => e = .returned (.slice (some ⟨w.heap.size, 0, none⟩) (l.length + 8) (l.length + 8)) ∧ w' = w.alloc (Obj.cells (inC (l.length + 8) (lentF l)) 3) := by
  rcases h with ⟨rfl, rfl⟩ | ⟨a, cap, rfl, _, _, hc, _⟩
  · exact lent_nil w
  · exact lent_at l a cap w hl hc
end Go.Proofs.Ytiepchghlopfnaa.Rq
