/- Of: the program's. -/
import Derived.Test.YtmnoplaepjaokaaGreatDoorBn
namespace Go.Proofs.YtmnoplaepjaokaaGreatDoor.Of
set_option linter.unusedVariables false
open Go.RowKit Pla Bm Bn
def ofF (l : List Int) : Nat := l.foldl (fun a n => a ||| onlyF n) 0
def ofS (l : List Int) : Nat := l.foldl (fun a n => a ||| onlyS n) 0
theorem ofF_snoc (l : List Int) (n : Int) : ofF (l ++ [n]) = ofF l ||| onlyF n := by simp [ofF]
theorem ofS_snoc (l : List Int) (n : Int) : ofS (l ++ [n]) = ofS l ||| onlyS n := by simp [ofS]
theorem ofF_lt' : ∀ (l : List Int) (a : Nat), a < 18446744073709551616 → l.foldl (fun a n => a ||| onlyF n) a < 18446744073709551616
  | [], a, h => h
  | n :: l, a, h => ofF_lt' l _ (or_lt h (onlyF_lt n))
theorem ofS_lt' : ∀ (l : List Int) (a : Nat), a < 18446744073709551616 → l.foldl (fun a n => a ||| onlyS n) a < 18446744073709551616
  | [], a, h => h
  | n :: l, a, h => ofS_lt' l _ (or_lt h (onlyS_lt n))
theorem ofF_lt (l : List Int) : ofF l < 18446744073709551616 := ofF_lt' l 0 (by decide)
theorem ofS_lt (l : List Int) : ofS l < 18446744073709551616 := ofS_lt' l 0 (by decide)
/-- Of's answer -/
def ofV (l : List Int) : Nat × Nat × Int := if l.all field then (ofF l, ofS l, 0) else (0, 0, 1)
theorem take_snoc (l : List Int) (j : Nat) (h : j < l.length) : l.take (j + 1) = l.take j ++ [l[j]] := by rw [List.take_succ_eq_append_getElem h]
theorem all_false (l : List Int) (j : Nat) (h : j < l.length) (hf : field l[j] = false) : l.all field = false := by
  rw [List.all_eq_false]; exact ⟨l[j], List.getElem_mem h, by simp [hf]⟩
theorem setCell_n {x : World} {g k n : Nat} (v : Value) (h : k ≠ g) : (x.setCell ⟨g, n, none⟩ v).heap[k]? = x.heap[k]? := Below.heap_setCell x ⟨g, n, none⟩ v k h
theorem set2 {z : World} {g : Nat} {a b u v : Value} {t : TypeId} (h : z.heap[g]? = some (.cells #[a, b] t (0, 0))) : ((z.setCell ⟨g, 0, none⟩ u).setCell ⟨g, 1, none⟩ v).heap[g]? = some (.cells #[u, v] t (0, 0)) := by
  rw [heap_setCell_same _ _ _ _ _ _ (heap_setCell_same _ _ _ _ _ _ h)]; rfl
set_option maxRecDepth 100000 in
set_option maxHeartbeats 1600000 in
theorem of_any (l : List Int) (b o cap : Nat) (w : World) (hl : (l.length : Int) ≤ 9223372036854775000) (hc : ∀ i (h : i < l.length), w.cell? ⟨b, o + i, none⟩ = some (.int .i64 l[i])) (hbd : ∀ z ∈ l, -9223372036854775808 ≤ z ∧ z ≤ 9223372036854775807) (hb : b < w.heap.size) :
    Calls Tryz.prog 160 #[.slice (some ⟨b, o, none⟩) l.length cap] w fun e w' => e = .returned (.tuple #[.agg #[.int .u64 ((ofV l).1 : Int), .int .u64 ((ofV l).2.1 : Int)], .int .i64 (ofV l).2.2]) ∧ Below w.heap.size w w' := by
  have HC : Hid (∀ i (h : i < l.length), w.cell? ⟨b, o + i, none⟩ = some (.int .i64 l[i])) := hc
  have HD : Hid (∀ z ∈ l, -9223372036854775808 ≤ z ∧ z ≤ 9223372036854775807) := hbd
  clear hc hbd
  go_enter Tryz.func160, Tryz.ntmps160
  go_wp2_with fail
  go_loopw [9] (fun ii wr => ∃ j : Nat, j ≤ l.length ∧ ii = .int .i64 (j : Int) ∧ Hid ((l.take j).all field = true) ∧ Hid (wr.heap[w.heap.size]? = some (.cells #[.int .u64 0, .int .u64 0] 201 (0, 0))) ∧ Hid (wr.heap[w.heap.size + 1]? = some (.cells #[.int .u64 (ofF (l.take j) : Int), .int .u64 (ofS (l.take j) : Int)] 201 (0, 0))) ∧ Below w.heap.size w wr) (fun ii _ => l.length + 1 - (intOf ii).toNat)
  case atStart => exact ⟨0, by omega, rfl, rfl, h2_0 w _ _, h2_1 w _ _, below_two w _ _⟩
  case round =>
    obtain ⟨j, hj, rfl, HA, G0, G1, hbw⟩ := hrel
    obtain ⟨c0, c1, f0, f1⟩ := held2 (Below.refl _ wr) G0.out
    by_cases hj2 : j < l.length
    · have q : (j : Int) < (l.length : Int) := by omega
      obtain ⟨n, hn⟩ : ∃ n, n = l[j] := ⟨_, rfl⟩
      have cz : wr.cell? ⟨b, o + j, none⟩ = some (.int .i64 n) := by rw [hbw.cell (p := ⟨b, o + j, none⟩) hb, HC.out j hj2, hn]
      have bd := HD.out n (hn ▸ List.getElem_mem hj2)
      have n1 := bd.1
      have n2 := bd.2
      clear bd
      cases hf : field n
      · have HV : Hid (ofV l = (0, 0, 1)) := by
          show _ = _
          rw [ofV, all_false l j hj2 (hn ▸ hf)]; rfl
        clear hn hj hj2 HA
        go_wp2_with (go_at_call 166; refine (isField_any _ _).mono ?_; rintro e x ⟨rfl, rfl⟩; rw [hf])
        exact bodyPost_ret (v := .tuple #[.agg #[.int .u64 0, .int .u64 0], .int .i64 1]) (by simp [results, Tryz.results160, go_sem, c0, c1]) rfl ⟨by rw [HV.out]; rfl, (hbw.setCell (Nat.le_refl _) _).setCell (Nat.le_refl _) _⟩
      · have HA2 : Hid ((l.take (j + 1)).all field = true) := by
          show _ = _
          rw [take_snoc l j hj2, List.all_append, HA.out, ← hn]; simp [hf]
        have hF := ofF_lt (l.take j)
        have hS := ofS_lt (l.take j)
        have HF : Hid (ofF (l.take (j + 1)) = ofF (l.take j) ||| onlyF n) := by show _ = _; rw [take_snoc l j hj2, ofF_snoc, hn]
        have HG : Hid (ofS (l.take (j + 1)) = ofS (l.take j) ||| onlyS n) := by show _ = _; rw [take_snoc l j hj2, ofS_snoc, hn]
        have K1 := G1.out
        generalize ofF (l.take j) = F at *
        generalize ofS (l.take j) = S at *
        obtain ⟨d0, d1, g0, g1⟩ := held2 (Below.refl _ wr) K1
        have p1 := fun w => only_any n n1 n2 w
        have p2 := fun w => or_any F S (onlyF n) (onlyS n) hF hS (onlyF_lt n) (onlyS_lt n) w
        generalize onlyF n = oF at *
        generalize onlyS n = oS at *
        clear hn HA
        go_wp2_with (go_at_call 166; refine (isField_any _ _).mono ?_; rintro e x ⟨rfl, rfl⟩; rw [hf])
        go_region_with (first
          | (go_at_call 168; refine (p1 _).mono ?_; rintro e y ⟨rfl, hcy⟩; obtain ⟨i0, i1, j0, j1⟩ := held2 hcy K1; have y1 := kept hcy K1)
          | (go_at_call 167; refine (p2 _).mono ?_; rintro e z ⟨rfl, hd⟩; obtain ⟨r0, r1, s0, s1⟩ := held2 hd y1))
        all_goals
          have zz := kept hd y1
          have zg := kept hd (kept hcy G0.out)
          have hbz : Below w.heap.size w z := keepB (hbw.drew.trans (hcy.mono hbw.size)) hd
          go_wp2
          refine ⟨⟨j + 1, by omega, by simp, HA2, ((setCell_n _ (by omega)).trans (setCell_n _ (by omega))).trans zg, ?_, (hbz.setCell (by simp) _).setCell (by simp) _⟩, by simp only [intOf]; omega⟩
          rw [HF.out, HG.out]
          exact set2 zz
    · obtain rfl : j = l.length := by omega
      have K1 := G1.out
      rw [List.take_length] at K1
      have HV : Hid (ofV l = (ofF l, ofS l, 0)) := by
        show _ = _
        have := HA.out
        rw [List.take_length] at this
        rw [ofV, this]; rfl
      obtain ⟨d0, d1, g0, g1⟩ := held2 (Below.refl _ wr) K1
      clear HA G1
      go_wp2_with fail
      exact bodyPost_ret (v := .tuple #[.agg #[.int .u64 (ofF l : Int), .int .u64 (ofS l : Int)], .int .i64 0]) (by simp [results, Tryz.results160, go_sem, c0, c1]) rfl ⟨by rw [HV.out], (hbw.setCell (Nat.le_refl _) _).setCell (Nat.le_refl _) _⟩
end Go.Proofs.YtmnoplaepjaokaaGreatDoor.Of
