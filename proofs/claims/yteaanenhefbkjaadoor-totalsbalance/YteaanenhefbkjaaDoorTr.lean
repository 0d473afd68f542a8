/- Note of a deal, and the law's noted. -/
import Derived.Test.YteaanenhefbkjaaDoorTp
import Derived.Test.YteaanenhefbkjaaDoorQt
namespace Go.Proofs.YteaanenhefbkjaaDoor.Tr
set_option linter.unusedVariables false
set_option linter.unusedSimpArgs false
open Go.RowKit Lib0 Kb Xp Ic Ta Hp Hr Ht Hu Hx Tb Tc Td Te Tf Tg Tn Num Chars Tj Tk Tl Tp
attribute [local go_sem] Oper.semAt_some
abbrev tDe : TypeId := 47
theorem dgs_num (d : D) : numR (⟨(dgs 12 (md d)).toArray⟩ : ByteArray).data.toList = ((md d : Int), 0) := by
  show numR (dgs 12 (md d)) = _
  exact num_dgs _ (by have := md_lt d; omega)
theorem dgs_size (d : D) : (⟨(dgs 12 (md d)).toArray⟩ : ByteArray).size = 12 := by
  show (dgs 12 (md d)).toArray.size = 12
  rw [List.size_toArray, dgs_length]
theorem row_shape {w : World} {v : Value} {L : List Fl} (h : RowF w v L) : ∃ (o : Option Addr) (l c : Nat), v = .slice o l c := by
  obtain ⟨o, c, rfl, -⟩ := h
  exact ⟨o, _, c, rfl⟩
theorem note_deal {x : World} {base b g n : Nat} {L : List D} (h : BkT x base b g n (tot n L)) (hbase : base ≤ x.heap.size) (hL : L.length ≤ 299) (d : D) (v v2 : Value)
    (hv : RowF x v [(3, if d.cr then p2 else p0), (4, ⟨(dgs 12 (md d)).toArray⟩)]) (hv2 : RowF x v2 [(39, if d.ys then c0 else c5)]) :
    Calls Tryd.prog 11 #[.pointer (some ⟨b, 0, none⟩), .int .i64 (pkl n d : Int), .agg #[.string (mtiK (kd d)), v], .agg #[.string (anS (mtiK (kd d))), v2]] x fun e w' => e = .returned (.int .i64 0) ∧ BkT w' base b g n (updF (tot n L) (pkl n d) (sumT (tot n L (pkl n d)) (brD d))) ∧ Below base x w' := by
  obtain ⟨h4, hc, he, hk, ht⟩ := mti_ok (kd d) (kd_lt d)
  have hm : (mtiK (kd d)).size ≤ 1000 := by omega
  refine note_any h hbase (pkl n d) (pkl_lt n h.pos d) (mtiK (kd d)) (anS (mtiK (kd d))) hm hc he rfl v v2 (brD d) (row_shape hv) (row_shape hv2) (fun y hy => ?_) (fun j hj => most_b n L (by omega) d (pkl n d) j hj)
  have h9 := brought_any (mtiK (kd d)) (anS (mtiK (kd d))) hm v v2 _ _ (decide (3 < kd d)) (decide (2 < kd d)) d.cr d.ys ⟨(dgs 12 (md d)).toArray⟩ hk ht (by simp [getV, getF]) (by simp [getV, getF]) (by rw [dgs_size]; omega) (by simp [getV, getF]) y (rowf_below hv hy) (rowf_below hv2 hy) (by simp) (by simp)
    (fun q hq => by
      simp only [List.mem_cons, List.not_mem_nil, or_false] at hq
      rcases hq with rfl | rfl
      · show (if d.cr then p2 else p0).size ≤ 1000000
        cases d.cr <;> decide
      · show (⟨(dgs 12 (md d)).toArray⟩ : ByteArray).size ≤ 1000000
        rw [dgs_size]; omega)
    (fun q hq => by
      simp only [List.mem_cons, List.not_mem_nil, or_false] at hq
      subst hq
      show (if d.ys then c0 else c5).size ≤ 1000000
      cases d.ys <;> decide)
  rw [dgs_num d] at h9
  exact h9
def done (z : List D) (bk : Bool) (i : Nat) : List D := if bk then (z.take 300).drop ((z.take 300).length - i) else (z.take 300).take i
def idx (N : Nat) (bk : Bool) (i : Nat) : Nat := if bk then N - 1 - i else i
theorem done_len (z : List D) (bk : Bool) (i : Nat) (hi : i ≤ (z.take 300).length) : (done z bk i).length = i := by
  unfold done
  cases bk
  · simp only [Bool.false_eq_true, if_false, List.length_take] at hi ⊢; omega
  · simp only [if_true, List.length_drop]; omega
theorem done_next (n : Int) (z : List D) (bk : Bool) (i : Nat) (hi : i < (z.take 300).length) (hx : idx (z.take 300).length bk i < z.length) : tot n (done z bk (i + 1)) = updF (tot n (done z bk i)) (pkl n (z[idx (z.take 300).length bk i])) (sumT (tot n (done z bk i) (pkl n (z[idx (z.take 300).length bk i]))) (brD (z[idx (z.take 300).length bk i]))) := by
  cases bk
  · have e : done z false (i + 1) = done z false i ++ [z[i]'(by simpa [idx] using hx)] := by
      simp only [done, Bool.false_eq_true, if_false]
      rw [List.take_succ_eq_append_getElem hi]
      congr 2
      exact List.getElem_take ..
    rw [e]
    exact tot_snoc n _ _
  · have e : done z true (i + 1) = (z[idx (z.take 300).length true i]) :: done z true i := by
      simp only [done, if_true, idx]
      rw [List.drop_eq_getElem_cons (show (z.take 300).length - (i + 1) < (z.take 300).length by omega)]
      congr 1
      · rw [List.getElem_take]
        congr 1
        omega
      · congr 1; omega
    rw [e]
    exact tot_cons n _ _
theorem done_end (n : Int) (z : List D) (bk : Bool) : tot n (done z bk (z.take 300).length) = tot n (z.take 300) := by
  unfold done
  cases bk
  · simp only [Bool.false_eq_true, if_false, List.take_length]
  · simp only [if_true, Nat.sub_self, List.drop_zero]
theorem done_zero (n : Int) (z : List D) (bk : Bool) : tot n (done z bk 0) = fun _ _ => 0 := by
  unfold done
  cases bk
  · simp only [Bool.false_eq_true, if_false, List.take_zero]; rfl
  · simp only [if_true, Nat.sub_zero, List.drop_length]; rfl
end Go.Proofs.YteaanenhefbkjaaDoor.Tr
