/- Numbers that are meant: a map; part. -/
import Derived.Test.YtgchdjjafgkcbaaZa
import Derived.Maps.OwnSet
namespace Go.Proofs.Ytgchdjjafgkcbaa.Zb
set_option linter.unusedVariables false
set_option linter.unusedSimpArgs false
open Go.RowKit Go.Maps Lib0 Kb Xp Ic Ix If Ig Za
abbrev tI : TypeId := 3
abbrev tM : TypeId := 135
abbrev tE : TypeId := 78
theorem law : Keyed Try.prog tI := int_keyed Try.underlying3
theorem zeroE (w : World) : (zeroValue tE).run Try.prog w = .ok (.agg #[]) w := by kernel_rfl
def RowI (w : World) (v : Value) (z : List Int) : Prop :=
  ∃ (o : Option Addr) (cap : Nat), v = .slice o z.length cap ∧ ∀ i (h : i < z.length), ∃ a : Addr, o = some a ∧ w.cell? (a.add i) = some (.int .i64 z[i])
theorem rowi_below {w x : World} {v : Value} {z : List Int} (h : RowI w v z) (k : Below w.heap.size w x) : RowI x v z := by
  obtain ⟨o, cap, e, hc⟩ := h
  refine ⟨o, cap, e, fun i hi => ?_⟩
  obtain ⟨a, ea, c0⟩ := hc i hi
  exact ⟨a, ea, (k.cell (World.block_lt_of_cell? w _ c0)).trans c0⟩
structure Io (z : List Int) : Prop where
  len : z.length ≤ 100000
  num : ∀ x ∈ z, -9223372036854775808 ≤ x ∧ x ≤ 9223372036854775807
/-- a map of what is meant -/
structure Mn (w : World) (mb c : Nat) (D : DataW Unit) (z : List Int) : Prop where
  own : w.ownsMap Try.prog tI unitElem mb c D
  tidy : Maps.Tidy D
  has : ∀ t : Int, Maps.has D (.int .i64 t) = z.contains t
theorem key_of (n : Int) (h : -9223372036854775808 ≤ n ∧ n ≤ 9223372036854775807) : keyOf Try.prog tI (.int .i64 n) = some (.int .i64 n) := keyOf_int_mk Try.underlying3 (WalkArith.wf_i64 (by omega))
theorem Mn.put {w w' : World} {mb c : Nat} {D : DataW Unit} {z : List Int} (h : Mn w mb c D z) (n : Int) (ho : w'.ownsMap Try.prog tI unitElem mb (c + 1) (D.put (.int .i64 n) (.agg []))) : Mn w' mb (c + 1) (D.put (.int .i64 n) (.agg [])) (z ++ [n]) := by
  refine ⟨ho, h.tidy.put (isKey n) _, fun t => ?_⟩
  by_cases e : t = n
  · subst e; rw [Maps.has_put_same h.tidy.isMap (isKey _)]; simp
  · rw [Maps.has_put_other (lit_ne e), h.has]
    have : (z ++ [n]).contains t = (z.contains t || [n].contains t) := by simp [List.contains_eq_any_beq]
    rw [this]
    have : [n].contains t = false := by simpa using e
    rw [this, Bool.or_false]
theorem take_snoc (z : List Int) (i : Nat) (h : i < z.length) : z.take (i + 1) = z.take i ++ [z[i]] := by rw [List.take_succ_eq_append_getElem h]
set_option maxRecDepth 100000 in
set_option maxHeartbeats 1600000 in
theorem meantOf_any (v : Value) (z : List Int) (w : World) (h : RowI w v z) (hz : Io z) : Calls Try.prog 64 #[v] w fun e w' => e = .returned (.map (some w.heap.size)) ∧ (∃ c D, Mn w' w.heap.size c D z) ∧ Below w.heap.size w w' := by
  obtain ⟨o, cap, rfl, hc⟩ := h
  obtain ⟨N, HN⟩ : ∃ N, Hid (z.length = N) := ⟨_, rfl⟩
  have HC : Hid (∀ y, Below w.heap.size w y → ∀ i (h : i < z.length), ∃ a : Addr, o = some a ∧ y.cell? (a.add i) = some (.int .i64 z[i])) := fun y hy i hi => by
    obtain ⟨a, ea, c0⟩ := hc i hi
    exact ⟨a, ea, (hy.cell (World.block_lt_of_cell? w _ c0)).trans c0⟩
  have HZ : Hid (Io z) := hz
  have HNB : Hid (N ≤ 100000) := HN.out ▸ hz.len
  rw [HN.out]
  have hmm := @run_makeMap Try.prog
  have HM0 : Hid (Mn (w.alloc (.map #[] 0)) w.heap.size 0 (.map []) []) := ⟨World.ownsMap_made w Try.prog tI unitElem, Maps.tidy_empty, fun t => rfl⟩
  have HB0 : Hid (Below w.heap.size w (w.alloc (.map #[] 0))) := Kb.below_one w _
  clear hc hz
  go_enter Try.func64, Try.ntmps64
  go_wp2_with fail
  clear hmm
  generalize w.alloc (.map #[] 0) = w1 at *
  go_loopw [9] (fun iv wr => ∃ i : Nat, iv = .int .i64 (i : Int) ∧ i ≤ N ∧ Hid (∃ D, Mn wr w.heap.size i D (z.take i)) ∧ Hid (Below w.heap.size w wr)) (fun iv _ => N + 1 - (intOf iv).toNat)
  case atStart => exact ⟨0, rfl, Nat.zero_le _, ⟨_, HM0.out⟩, HB0⟩
  case round =>
    obtain ⟨i, rfl, hi, HM, HB⟩ := hrel
    have q1 : (0 : Int) ≤ (i : Int) := by omega
    by_cases hlt : i < N
    · have hi2 : i < z.length := by rw [HN.out]; exact hlt
      obtain ⟨a, rfl, c0⟩ := HC.out wr HB.out i hi2
      have q0 : (i : Int) < (N : Int) := by omega
      have q3 : (i : Int) + 1 ≤ 9223372036854775807 := by have := HNB.out; omega
      have hnum := HZ.out.num _ (List.getElem_mem hi2)
      have hts := take_snoc z i hi2
      generalize z[i]'hi2 = n at *
      obtain ⟨D, hM⟩ := HM.out
      have hown := hM.own
      have hkey := key_of n hnum
      have HMM : Hid (Mn wr w.heap.size i D (z.take i)) := hM
      have HTS : Hid (z.take (i + 1) = z.take i ++ [n]) := hts
      have HIN : Hid (i < N) := hlt
      have hML : i < maxLen := by have := HNB.out; simp [maxLen]; omega
      clear hi hlt hi2 hts hnum hM HM
      go_wp2_with (first | (at_mapUpdate; refine wpList_mapUpdate_in _ rfl _ _ _ tM rfl tI tE law Try.underlying135 unitElem w.heap.size i D rfl hown hML _ _ _ rfl rfl hkey _ [] unitElem_mk ?_; intro w2 hown2 hturn2; have HO2 : Hid _ := hown2; have HT2 : Hid _ := hturn2; clear hown2 hturn2) | fail)
      have HM3 : Hid (Mn w2 w.heap.size (i + 1) (D.put (.int .i64 n) (.agg [])) (z.take (i + 1))) := by
        have := HMM.out.put n HO2.out
        rw [← HTS.out] at this
        exact this
      have HB3 : Hid (Below w.heap.size w w2) := by
        have hg := World.mapTurned.grown HT2.out
        exact (FrP.grown (B := fun g => g = w.heap.size) (FrP.of HB.out) hg (fun g hg2 => .inl (by simpa using hg2.symm))).below (fun b hb => by omega)
      have := HIN.out
      refine ⟨⟨i + 1, by simp, by omega, ⟨_, HM3.out⟩, HB3⟩, ?_⟩
      simp only [intOf]
      omega
    · obtain rfl : i = N := by omega
      have q0 : ¬ (i : Int) < (i : Int) := by omega
      have HM3 : Hid (∃ c D, Mn wr w.heap.size c D z) := by
        obtain ⟨D, hD⟩ := HM.out
        rw [List.take_of_length_le (by rw [HN.out]; exact Nat.le_refl _)] at hD
        exact ⟨_, D, hD⟩
      clear HM hi hlt
      go_wp2_with fail
      go_ret
      exact ⟨rfl, HM3.out, HB.out⟩
end Go.Proofs.Ytgchdjjafgkcbaa.Zb
