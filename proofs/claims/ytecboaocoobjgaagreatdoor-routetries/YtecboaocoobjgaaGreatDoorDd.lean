/- The document's list of prefixes: Drop. -/
import Derived.Test.YtecboaocoobjgaaGreatDoorDc
import Derived.Maps.AppendAt
namespace Go.Proofs.YtecboaocoobjgaaGreatDoor.Dd
set_option linter.unusedVariables false
set_option linter.unusedSimpArgs false
open Go.RowKit Go.Shelf Lib0 Kb Rp Rw Rs Li Mj Tj Ra Da Db Dc
theorem infoL : (Tryz.prog.info? 89).map (fun i => (i.zero, i.size, i.bytes)) = some (some (.agg #[.string ⟨#[]⟩, .int .i64 0]), 2, 24) := by kernel_rfl
def Cp (v : Value) : Prop := ∃ o n cap, v = .slice o n cap ∧ n ≤ cap ∧ cap ≤ maxLen ∧ (o = none → cap = 0)
theorem row_keep {w x : World} {v : Value} {L : LT} (h : RowL w v L) (k : ∀ p u, w.cell? p = some u → x.cell? p = some u) : RowL x v L := by
  obtain ⟨o, cap, e, hn, hc⟩ := h
  refine ⟨o, cap, e, hn, fun i hi => ?_⟩
  obtain ⟨a, ea, c0, c1⟩ := hc i hi
  exact ⟨a, ea, k _ _ c0, k _ _ c1⟩
theorem row_below {w x : World} {v : Value} {L : LT} (h : RowL w v L) (k : Below w.heap.size w x) : RowL x v L := row_keep h fun p u hp => (k.cell (World.block_lt_of_cell? w _ hp)).trans hp
theorem fin_row {w y2 : World} {b base : Nat} {v v2 : Value} {L2 : LT} (hb : w.heap[b]? = some (.cells #[v] 37)) (k : Below w.heap.size w y2) (own : y2.ownsRow base 89 2 v2 L2.length (cel L2)) (hbase : w.heap.size ≤ base) (hl : L2.length ≤ 1000001) :
    y2.cell? ⟨b, 0, none⟩ = some v ∧ y2.frozen? ⟨b, 0, none⟩ = false ∧ Fr [b] w (y2.setCell ⟨b, 0, none⟩ v2) ∧ ∃ v', (y2.setCell ⟨b, 0, none⟩ v2).heap[b]? = some (.cells #[v'] 37) ∧ Cp v' ∧ RowL (y2.setCell ⟨b, 0, none⟩ v2) v' L2 := by
  have hb2 := kept k hb
  have hlt : b < w.heap.size := (Array.getElem?_eq_some_iff.1 hb).1
  have own2 : (y2.setCell ⟨b, 0, none⟩ v2).ownsRow base 89 2 v2 L2.length (cel L2) := by
    obtain ⟨h1, h2 | ⟨g, cap, cur, rfl, h3, h4, h5⟩⟩ := own
    · exact ⟨h1, .inl h2⟩
    · exact ⟨h1, .inr ⟨g, cap, cur, rfl, h3, (setCell_ne (by omega) _ _).trans h4, h5⟩⟩
  refine ⟨by simp [World.cell?, hb2], by simp [World.frozen?, hb2], ⟨?_, ?_, ?_, ?_, ?_⟩, v2, setCell_heap hb2 0 v2, ?_, row_own (by omega) own2⟩
  · exact k.os
  · exact k.tape
  · exact k.output
  · rw [setCell_size]; exact k.size
  · intro q hq hn
    exact (setCell_ne (by simpa using fun e : b = q => hn (by simp [e])) _ _).trans (k.block q hq)
  · rcases own.2 with ⟨rfl, h⟩ | ⟨g, cap, cur, rfl, h3, h4, h5, h6, _⟩
    · exact ⟨_, _, _, rfl, Nat.le_refl _, by decide, fun _ => rfl⟩
    · exact ⟨_, _, _, rfl, h5, h6, fun h => by cases h⟩
theorem own_form {w : World} {base e size n : Nat} {v : Value} {xs : List Value} (h : w.ownsRow base e size v n xs) : ∃ o m c, v = .slice o m c := by
  rcases h.2 with ⟨rfl, _⟩ | ⟨g, cap, cur, rfl, _⟩
  · exact ⟨_, _, _, rfl⟩
  · exact ⟨_, _, _, rfl⟩
theorem halt {p : Prop} (h : True → p) : p := h trivial
set_option maxRecDepth 100000 in
set_option maxHeartbeats 1600000 in
theorem dropr_any (w : World) (b : Nat) (v : Value) (L : LT) (s : ByteArray) (hb : w.heap[b]? = some (.cells #[v] 37)) (hr : RowL w v L) (hcp : Cp v) (hS : Srt L) (hL : L.length ≤ 1000000) :
    Calls Tryz.prog 17 #[.pointer (some ⟨b, 0, none⟩), .string s] w fun e w' => e = .returned (.bool (isAt L s.data.toList)) ∧ Fr [b] w w' ∧ ∃ v', w'.heap[b]? = some (.cells #[v'] 37) ∧ Cp v' ∧ RowL w' v' (if isAt L s.data.toList = true then del L s.data.toList else L) := by
  obtain ⟨i0, hi, hz0, hz1, hz2⟩ := info_parts infoL
  have hv : w.cell? ⟨b, 0, none⟩ = some v := by simp [World.cell?, hb]
  have pp := place_any w b v L s hv hr hS
  generalize s.data.toList = z at pp ⊢
  cases hT : isAt L z with
  | false =>
    rw [hT] at pp
    have HB : Hid (w.heap[b]? = some (.cells #[v] 37)) := hb
    clear hv hb hT
    go_enter Tryz.func17, Tryz.ntmps17
    go_wp2_with fail
    refine pp.mono ?_
    rintro e y ⟨rfl, k⟩
    go_wp2_with fail
    go_ret
    exact ⟨rfl, Fr.of k, v, kept k HB.out, hcp, by simpa using row_below hr k⟩
  | true =>
    rw [hT] at pp
    obtain ⟨hP, hPe⟩ := (isAt_iff hS z).1 hT
    have hsplit : L = L.take (place L z) ++ [L[place L z]] ++ L.drop (place L z + 1) := by simp
    have hdel : del L z = L.take (place L z) ++ L.drop (place L z + 1) := rfl
    have hAl : (L.take (place L z)).length = place L z := by rw [List.length_take]; omega
    have hCl : (L.drop (place L z + 1)).length = L.length - (place L z + 1) := by simp
    rw [hdel]
    generalize L[place L z] = xe at hsplit
    generalize L.take (place L z) = A at *
    generalize L.drop (place L z + 1) = C at *
    generalize place L z = P at *
    obtain ⟨N, HN⟩ : ∃ N, Hid (L.length = N) := ⟨_, rfl⟩
    rw [HN.out] at hP hL hCl
    obtain ⟨o, cap, rfl, hn, hcell⟩ := id hr
    obtain ⟨a, rfl, -, -⟩ := hcell P (by rw [HN.out]; exact hP)
    obtain ⟨o', n', cap', e', hc1, hc2, _⟩ := hcp
    cases e'
    rw [HN.out] at hr hc1 hb hv
    rw [hsplit] at hr
    have HR : Hid (RowL w (.slice (some a) N cap) (A ++ [xe] ++ C)) := hr
    have HAc : Hid (∀ y, Below w.heap.size w y → ∀ j u, (cel A)[j]? = some u → y.cell? (a.add j) = some u) := fun y hy j u hu => by
      have := row_part (A := []) (M := A) (C := [xe] ++ C) (by rw [List.nil_append, ← List.append_assoc]; exact row_below HR.out hy) j u hu
      simpa [Addr.add] using this
    have HCc : Hid (∀ y, Below w.heap.size w y → ∀ j u, (cel C)[j]? = some u → y.cell? ((a.add ((P + 1) * 2)).add j) = some u) := fun y hy j u hu => by
      have := row_part (A := A ++ [xe]) (M := C) (C := []) (by rw [List.append_nil]; exact row_below HR.out hy) j u hu
      rw [List.length_append, hAl] at this
      exact this
    have HB : Hid (w.heap[b]? = some (.cells #[.slice (some a) N cap] 37)) := hb
    have HAl : Hid (A.length = P) := hAl
    have HCl : Hid (C.length = N - (P + 1)) := hCl
    have q0 : (P : Int) ≤ (cap : Int) := by omega
    have q1 : (0 : Int) ≤ (P : Int) := by omega
    have Q2 : Hid ((P : Int) + 1 ≤ 9223372036854775807) := by show _ ≤ _; omega
    have Q3 : Hid ((P : Int) + 1 ≤ (N : Int)) := by show _ ≤ _; omega
    have Q4 : Hid ((N : Int) ≤ (cap : Int)) := by show _ ≤ _; omega
    have HPN : Hid (P < N) := hP
    have HNL : Hid (N ≤ 1000000) := hL
    have hA2 : Hid ((cel A).length = P * 2) := by show _ = _; rw [cel_len, HAl.out]
    have hC2 : Hid ((cel C).length = (N - (P + 1)) * 2) := by show _ = _; rw [cel_len, HCl.out]
    have HCP : Hid (N ≤ cap ∧ cap ≤ maxLen) := ⟨hc1, hc2⟩
    have HB1 : Hid (0 + P ≤ maxLen) := by show _ ≤ _; unfold maxLen; omega
    have HB2 : Hid ((0 + P) * 24 ≤ 140737488355328) := by show _ ≤ _; omega
    clear hv hb hT hr hsplit hdel hAl hCl hcell hPe hn hc1 hc2 hL hP hS
    go_enter Tryz.func17, Tryz.ntmps17
    go_wp2_with fail
    refine pp.mono ?_
    rintro e y ⟨rfl, k⟩
    have hy := kept k HB.out
    have cy : y.cell? ⟨b, 0, none⟩ = some (.slice (some a) N cap) := by simp [World.cell?, hy]
    have ac : Hid (∀ j u, (cel A)[j]? = some u → y.cell? (a.add j) = some u) := HAc.out y k
    have HU1 : Hid (∀ {w1 : World}, y.grownBy w1 (Value.ownBlock (.slice none 0 0)) → w1.cell? ⟨b, 0, none⟩ = some (.slice (some a) N cap)) := fun {w1} h => cell_kept cy h (fun r e => by cases e)
    clear pp hy
    go_wp2_with (at_builtin; refine halt ?_)
    intro _
    refine wpList_append_own_at _ rfl _ _ _ rfl y.heap.size 89 i0 _ 2 24 Tryz.underlying35 hi hz0 hz1 hz2 rfl (by omega) _ 0 [] rfl (World.ownsRow_nil _ _ _ _) a P cap (cel A) rfl hA2.out ac.out (cel_one A) HB1.out HB2.out (Nat.le_refl _) ?_
    intro v1 y1 hown1 hgrow1 hnil1 hat1
    have cy1 := HU1.out hgrow1
    have hob : ∀ r, v1.ownBlock = some r → y.heap.size ≤ r := fun r e => Lib0.own_ge hown1 r e
    have HV1 : Hid (y1.ownsRow y.heap.size 89 2 v1 P (cel A)) := by
      have := hown1
      rw [Nat.zero_add, List.nil_append] at this
      exact this
    have HOB : Hid (∀ r, v1.ownBlock = some r → y.heap.size ≤ r) := hob
    have HG1 : Hid (y.grownBy y1 none) := hgrow1
    have HK : Hid (Below w.heap.size w y) := k
    have hy1B : Hid (Below y.heap.size y y1) := (Below.refl _ _).grown hgrow1 (Nat.le_refl _) (fun r e => by cases e)
    have q2 := Q2.out
    have q3 := Q3.out
    have q4 := Q4.out
    have HB3 : Hid (P + (N - (P + 1)) ≤ maxLen) := by show _ ≤ _; have := HPN.out; have := HNL.out; unfold maxLen; omega
    have HB4 : Hid ((P + (N - (P + 1))) * 24 ≤ 140737488355328) := by show _ ≤ _; have := HPN.out; have := HNL.out; omega
    have hbY : Hid (y.heap.size ≤ y1.heap.size) := HG1.out.size
    clear hnil1 hat1 hown1 hgrow1 hob k
    by_cases hz : cap = P + 1
    · have hC0 : C = [] := by
        have := HCl.out; have := HCP.out.1; have := HPN.out
        exact List.length_eq_zero_iff.1 (by omega)
      go_wp2_with (at_builtin; refine halt ?_)
      intro _
      refine wpList_append_own_at _ rfl _ _ _ rfl y.heap.size 89 i0 _ 2 24 Tryz.underlying35 hi hz0 hz1 hz2 rfl (by omega) v1 P (cel A) rfl HV1.out a (N - (P + 1)) 0 (cel C) rfl hC2.out (fun j u hu => by rw [hC0] at hu; simp [cel] at hu) (cel_one C) HB3.out HB4.out hbY.out ?_
      intro v2 y2 hown2 hgrow2 hx1 hx2
      clear hx1 hx2
      obtain ⟨o2, n2, c2, rfl⟩ := own_form hown2
      have BY : Below w.heap.size w y2 := (Kb.keepB HK.out hy1B.out).grown hgrow2 (Nat.le_trans HK.out.size hbY.out) (fun r e => Nat.le_trans HK.out.size (HOB.out r e))
      have FR := fin_row HB.out BY (L2 := A ++ C)  (by rw [cel_append, List.length_append, HAl.out, HCl.out]; exact hown2) HK.out.size (by have := HAl.out; have := HCl.out; have := HPN.out; have := HNL.out; simp; omega)
      have g0 := FR.1
      have g1 := FR.2.1
      have HFR : Hid (Fr [b] w (y2.setCell ⟨b, 0, none⟩ (.slice o2 n2 c2)) ∧ ∃ v', (y2.setCell ⟨b, 0, none⟩ (.slice o2 n2 c2)).heap[b]? = some (.cells #[v'] 37) ∧ Cp v' ∧ RowL (y2.setCell ⟨b, 0, none⟩ (.slice o2 n2 c2)) v' (A ++ C)) := FR.2.2
      clear FR BY hown2 hgrow2 q0 q1 q2 q3 q4 hz hC0 hi hz0 hz1 hz2 hP HN HR HAc HCc HAl HCl Q2 Q3 Q4 HPN HNL hA2 hC2 HCP HB1 HB2 cy ac HU1 cy1 HV1 HOB HG1 HK hy1B HB3 HB4 hbY
      go_wp2_with fail
      go_ret
      exact ⟨rfl, HFR.out.1, by simpa using HFR.out.2⟩
    · have HCy : Hid (∀ j u, (cel C)[j]? = some u → y1.cell? ((a.add ((P + 1) * 2)).add j) = some u) := HCc.out y1 (Kb.keepB HK.out hy1B.out)
      go_wp2_with (at_builtin; refine halt ?_)
      intro _
      refine wpList_append_own_at _ rfl _ _ _ rfl y.heap.size 89 i0 _ 2 24 Tryz.underlying35 hi hz0 hz1 hz2 rfl (by omega) v1 P (cel A) rfl HV1.out (a.add ((P + 1) * 2)) (N - (P + 1)) (cap - (P + 1)) (cel C) rfl hC2.out HCy.out (cel_one C) HB3.out HB4.out hbY.out ?_
      intro v2 y2 hown2 hgrow2 hx1 hx2
      clear hx1 hx2
      obtain ⟨o2, n2, c2, rfl⟩ := own_form hown2
      have BY : Below w.heap.size w y2 := (Kb.keepB HK.out hy1B.out).grown hgrow2 (Nat.le_trans HK.out.size hbY.out) (fun r e => Nat.le_trans HK.out.size (HOB.out r e))
      have FR := fin_row HB.out BY (L2 := A ++ C)  (by rw [cel_append, List.length_append, HAl.out, HCl.out]; exact hown2) HK.out.size (by have := HAl.out; have := HCl.out; have := HPN.out; have := HNL.out; simp; omega)
      have g0 := FR.1
      have g1 := FR.2.1
      have HFR : Hid (Fr [b] w (y2.setCell ⟨b, 0, none⟩ (.slice o2 n2 c2)) ∧ ∃ v', (y2.setCell ⟨b, 0, none⟩ (.slice o2 n2 c2)).heap[b]? = some (.cells #[v'] 37) ∧ Cp v' ∧ RowL (y2.setCell ⟨b, 0, none⟩ (.slice o2 n2 c2)) v' (A ++ C)) := FR.2.2
      clear FR BY hown2 hgrow2 q0 q1 q2 q3 q4 hz HCy hi hz0 hz1 hz2 hP HN HR HAc HCc HAl HCl Q2 Q3 Q4 HPN HNL hA2 hC2 HCP HB1 HB2 cy ac HU1 cy1 HV1 HOB HG1 HK hy1B HB3 HB4 hbY
      go_wp2_with fail
      go_ret
      exact ⟨rfl, HFR.out.1, by simpa using HFR.out.2⟩
end Go.Proofs.YtecboaocoobjgaaGreatDoor.Dd
