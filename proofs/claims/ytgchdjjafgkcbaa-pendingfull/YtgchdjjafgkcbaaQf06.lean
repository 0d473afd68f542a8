import Derived.Test.YtgchdjjafgkcbaaQf05
import Derived.Maps.OwnSet
import Derived.Deep.AppendLies
import Derived.Deep.RegionLaw
/- Numbers that are meant: a map; part. -/
namespace Go.Proofs.Ytgchdjjafgkcbaa.Zb
set_option linter.unusedVariables false
set_option linter.unusedSimpArgs false
open Go.RowKit Go.Maps Lib0 Kb Xp Ic Ix If Ig Za
abbrev tI : TypeId := 3
abbrev tM : TypeId := 135
abbrev tE : TypeId := 78
theorem law : Keyed Try.prog tI := int_keyed Try.underlying3
theorem zeroE (w : World) : (zeroValue tE).run Try.prog w = .ok (.agg #[]) w := by kernel_rfl
def RowI (w : World) (v : Value) (z : List Int) : Prop :=
  ∃ (o : Option Addr) (cap : Nat), v = .slice o z.length cap ∧ ∀ i (h : i < z.length), ∃ a : Addr, o = some a ∧ w.cell? (a.add i) = some (.int .i64 z[i])
theorem rowi_below {w x : World} {v : Value} {z : List Int} (h : RowI w v z) (k : Below w.heap.size w x) : RowI x v z := by
  obtain ⟨o, cap, e, hc⟩ := h
  refine ⟨o, cap, e, fun i hi => ?_⟩
  obtain ⟨a, ea, c0⟩ := hc i hi
  exact ⟨a, ea, (k.cell (World.block_lt_of_cell? w _ c0)).trans c0⟩
structure Io (z : List Int) : Prop where
  len : z.length ≤ 100000
  num : ∀ x ∈ z, -9223372036854775808 ≤ x ∧ x ≤ 9223372036854775807
/-- a map of what is meant -/
structure Mn (w : World) (mb c : Nat) (D : DataW Unit) (z : List Int) : Prop where
  own : w.ownsMap Try.prog tI unitElem mb c D
  tidy : Maps.Tidy D
  has : ∀ t : Int, Maps.has D (.int .i64 t) = z.contains t
theorem key_of (n : Int) (h : -9223372036854775808 ≤ n ∧ n ≤ 9223372036854775807) : keyOf Try.prog tI (.int .i64 n) = some (.int .i64 n) := keyOf_int_mk Try.underlying3 (WalkArith.wf_i64 (by omega))
theorem Mn.put {w w' : World} {mb c : Nat} {D : DataW Unit} {z : List Int} (h : Mn w mb c D z) (n : Int) (ho : w'.ownsMap Try.prog tI unitElem mb (c + 1) (D.put (.int .i64 n) (.agg []))) : Mn w' mb (c + 1) (D.put (.int .i64 n) (.agg [])) (z ++ [n]) := by
  refine ⟨ho, h.tidy.put (isKey n) _, fun t => ?_⟩
  by_cases e : t = n
  · subst e; rw [Maps.has_put_same h.tidy.isMap (isKey _)]; simp
  · rw [Maps.has_put_other (lit_ne e), h.has]
    have : (z ++ [n]).contains t = (z.contains t || [n].contains t) := by simp [List.contains_eq_any_beq]
    rw [this]
    have : [n].contains t = false := by simpa using e
    rw [this, Bool.or_false]
theorem take_snoc (z : List Int) (i : Nat) (h : i < z.length) : z.take (i + 1) = z.take i ++ [z[i]] := by rw [List.take_succ_eq_append_getElem h]
set_option maxRecDepth 100000 in
set_option maxHeartbeats 1600000 in
theorem meantOf_any (v : Value) (z : List Int) (w : World) (h : RowI w v z) (hz : Io z) : Calls Try.prog 64 #[v] w fun e w' => e = .returned (.map (some w.heap.size)) ∧ (∃ c D, Mn w' w.heap.size c D z) ∧ Below w.heap.size w w' := by
  obtain ⟨o, cap, rfl, hc⟩ := h
  obtain ⟨N, HN⟩ : ∃ N, Hid (z.length = N) := ⟨_, rfl⟩
  have HC : Hid (∀ y, Below w.heap.size w y → ∀ i (h : i < z.length), ∃ a : Addr, o = some a ∧ y.cell? (a.add i) = some (.int .i64 z[i])) := fun y hy i hi => by
    obtain ⟨a, ea, c0⟩ := hc i hi
    exact ⟨a, ea, (hy.cell (World.block_lt_of_cell? w _ c0)).trans c0⟩
  have HZ : Hid (Io z) := hz
  have HNB : Hid (N ≤ 100000) := HN.out ▸ hz.len
  rw [HN.out]
  have hmm := @run_makeMap Try.prog
  have HM0 : Hid (Mn (w.alloc (.map #[] 0)) w.heap.size 0 (.map []) []) := ⟨World.ownsMap_made w Try.prog tI unitElem, Maps.tidy_empty, fun t => rfl⟩
  have HB0 : Hid (Below w.heap.size w (w.alloc (.map #[] 0))) := Kb.below_one w _
  clear hc hz
  go_enter Try.func64, Try.ntmps64
  go_wp2_with fail
  clear hmm
  generalize w.alloc (.map #[] 0) = w1 at *
  go_loopw [9] (fun iv wr => ∃ i : Nat, iv = .int .i64 (i : Int) ∧ i ≤ N ∧ Hid (∃ D, Mn wr w.heap.size i D (z.take i)) ∧ Hid (Below w.heap.size w wr)) (fun iv _ => N + 1 - (intOf iv).toNat)
  case atStart => exact ⟨0, rfl, Nat.zero_le _, ⟨_, HM0.out⟩, HB0⟩
  case round =>
    obtain ⟨i, rfl, hi, HM, HB⟩ := hrel
    have q1 : (0 : Int) ≤ (i : Int) := by omega
    by_cases hlt : i < N
    · have hi2 : i < z.length := by rw [HN.out]; exact hlt
      obtain ⟨a, rfl, c0⟩ := HC.out wr HB.out i hi2
      have q0 : (i : Int) < (N : Int) := by omega
      have q3 : (i : Int) + 1 ≤ 9223372036854775807 := by have := HNB.out; omega
      have hnum := HZ.out.num _ (List.getElem_mem hi2)
      have hts := take_snoc z i hi2
      generalize z[i]'hi2 = n at *
      obtain ⟨D, hM⟩ := HM.out
      have hown := hM.own
      have hkey := key_of n hnum
      have HMM : Hid (Mn wr w.heap.size i D (z.take i)) := hM
      have HTS : Hid (z.take (i + 1) = z.take i ++ [n]) := hts
      have HIN : Hid (i < N) := hlt
      have hML : i < maxLen := by have := HNB.out; simp [maxLen]; omega
      clear hi hlt hi2 hts hnum hM HM
      go_wp2_with (first | (at_mapUpdate; refine wpList_mapUpdate_in _ rfl _ _ _ tM rfl tI tE law Try.underlying135 unitElem w.heap.size i D rfl hown hML _ _ _ rfl rfl hkey _ [] unitElem_mk ?_; intro w2 hown2 hturn2; have HO2 : Hid _ := hown2; have HT2 : Hid _ := hturn2; clear hown2 hturn2) | fail)
      have HM3 : Hid (Mn w2 w.heap.size (i + 1) (D.put (.int .i64 n) (.agg [])) (z.take (i + 1))) := by
        have := HMM.out.put n HO2.out
        rw [← HTS.out] at this
        exact this
      have HB3 : Hid (Below w.heap.size w w2) := by
        have hg := World.mapTurned.grown HT2.out
        exact (FrP.grown (B := fun g => g = w.heap.size) (FrP.of HB.out) hg (fun g hg2 => .inl (by simpa using hg2.symm))).below (fun b hb => by omega)
      have := HIN.out
      refine ⟨⟨i + 1, by simp, by omega, ⟨_, HM3.out⟩, HB3⟩, ?_⟩
      simp only [intOf]
      omega
    · obtain rfl : i = N := by omega
      have q0 : ¬ (i : Int) < (i : Int) := by omega
      have HM3 : Hid (∃ c D, Mn wr w.heap.size c D z) := by
        obtain ⟨D, hD⟩ := HM.out
        rw [List.take_of_length_le (by rw [HN.out]; exact Nat.le_refl _)] at hD
        exact ⟨_, D, hD⟩
      clear HM hi hlt
      go_wp2_with fail
      go_ret
      exact ⟨rfl, HM3.out, HB.out⟩
end Go.Proofs.Ytgchdjjafgkcbaa.Zb
/- meant.has; part: what stands along its loop. -/
namespace Go.Proofs.Ytgchdjjafgkcbaa.Zc
set_option linter.unusedVariables false
set_option linter.unusedSimpArgs false
open Go.RowKit Go.Maps Lib0 Kb Xp Ic Ix If Ig Za Zb
abbrev tG : TypeId := 46
theorem Mn.keep {w x : World} {mb c : Nat} {D : DataW Unit} {z : List Int} (h : Mn w mb c D z) (hb : x.heap[mb]? = w.heap[mb]?) : Mn x mb c D z := by
  obtain ⟨⟨es, cl, e, r⟩, t, hh⟩ := h
  exact ⟨⟨es, cl, hb.trans e, r⟩, t, hh⟩
theorem Mn.blk {w : World} {mb c : Nat} {D : DataW Unit} {z : List Int} (h : Mn w mb c D z) : ∃ es cl, w.heap[mb]? = some (.map es cl) := by
  obtain ⟨⟨es, cl, e, r⟩, t, hh⟩ := h
  exact ⟨es, cl, e⟩
theorem Mn.lt {w : World} {mb c : Nat} {D : DataW Unit} {z : List Int} (h : Mn w mb c D z) : mb < w.heap.size := by
  obtain ⟨es, cl, e⟩ := Mn.blk h
  exact (Array.getElem?_eq_some_iff.1 e).1
theorem has_any {w : World} {mb c : Nat} {D : DataW Unit} {z : List Int} (h : Mn w mb c D z) (n : Int) (hn : -9223372036854775808 ≤ n ∧ n ≤ 9223372036854775807) : Calls Try.prog 65 #[.map (some mb), .int .i64 n] w fun e w' => e = .returned (.bool (z.contains n)) ∧ Below w.heap.size w w' := by
  have hown := h.own
  have hkey := key_of n hn
  have hh := h.has n
  clear h hn
  generalize z.contains n = b at *
  go_enter Try.func65, Try.ntmps65
  go_wp2_with (first | (at_lookup; refine wpList_lookup_own_unit _ rfl _ _ tM rfl tI tE law Try.underlying135 (zeroE _) mb c D rfl hown _ _ rfl hkey ?_; rw [hh]) | fail)
  go_ret
  exact ⟨rfl, Kb.below_one _ _⟩
/-- what stands along part's loop -/
structure Jp (w0 x : World) (g6 g8 mb : Nat) (mti : ByteArray) (z : List Int) (v : Value) (M : List Fl) : Prop where
  c8 : x.heap[g8]? = some (.cells #[.string mti, v] tG)
  c6 : x.heap[g6]? = some (.cells #[.string ⟨#[]⟩, .slice none 0 0] tG)
  mn : ∃ c D, Mn x mb c D z
  row : x.ownsRow w0.heap.size tF 3 v M.length (fc M)
  bel : Below w0.heap.size w0 x
  b8 : w0.heap.size ≤ g8
  b6 : w0.heap.size ≤ g6
  bm : w0.heap.size ≤ mb
  ne : g6 ≠ g8
section
variable {w0 x y : World} {g6 g8 mb : Nat} {mti : ByteArray} {z : List Int} {v : Value} {M : List Fl}
theorem Jp.keep (h : Jp w0 x g6 g8 mb mti z v M) (k : ∀ g, g < x.heap.size → y.heap[g]? = x.heap[g]?) (hb : Below w0.heap.size w0 y) : Jp w0 y g6 g8 mb mti z v M := by
  obtain ⟨c, D, hM⟩ := h.mn
  refine ⟨(k _ (Array.getElem?_eq_some_iff.1 h.c8).1).trans h.c8, (k _ (Array.getElem?_eq_some_iff.1 h.c6).1).trans h.c6, ⟨c, D, Mn.keep hM (k _ (Mn.lt hM))⟩, own_keep h.row fun g hg => ?_, hb, h.b8, h.b6, h.bm, h.ne⟩
  obtain ⟨cy, hcy⟩ := own_ty h.row hg
  exact k g (Array.getElem?_eq_some_iff.1 hcy).1
theorem Jp.below (h : Jp w0 x g6 g8 mb mti z v M) (k : Below x.heap.size x y) : Jp w0 y g6 g8 mb mti z v M :=
  h.keep (fun g hg => k.block g hg) (h.bel.trans (k.mono h.bel.size))
theorem Jp.cell8 (h : Jp w0 x g6 g8 mb mti z v M) : x.cell? ⟨g8, 0, none⟩ = some (.string mti) ∧ x.cell? ⟨g8, 1, none⟩ = some v ∧ x.frozen? ⟨g8, 1, none⟩ = false := by
  have := h.c8
  exact ⟨by simp [World.cell?, this], by simp [World.cell?, this], frozen_of_row x _ _ _ _ this⟩
theorem Jp.ne8 (h : Jp w0 x g6 g8 mb mti z v M) : v.ownBlock ≠ some g8 ∧ v.ownBlock ≠ some g6 ∧ v.ownBlock ≠ some mb := by
  obtain ⟨c, D, hM⟩ := h.mn
  obtain ⟨es, cl, hm⟩ := Mn.blk hM
  refine ⟨fun e => ?_, fun e => ?_, fun e => ?_⟩
  · obtain ⟨cy, hcy⟩ := own_ty h.row e
    rw [h.c8] at hcy
    injection hcy with hcy; injection hcy with _ hcy; exact absurd hcy (by decide)
  · obtain ⟨cy, hcy⟩ := own_ty h.row e
    rw [h.c6] at hcy
    injection hcy with hcy; injection hcy with _ hcy; exact absurd hcy (by decide)
  · obtain ⟨cy, hcy⟩ := own_ty h.row e
    rw [hm] at hcy
    injection hcy with hcy; cases hcy
/-- the world behind an append to the row -/
theorem Jp.grown (h : Jp w0 x g6 g8 mb mti z v M) (hg : x.grownBy y v.ownBlock) : y.heap[g8]? = some (.cells #[.string mti, v] tG) ∧ y.heap[g6]? = some (.cells #[.string ⟨#[]⟩, .slice none 0 0] tG) ∧ (∃ c D, Mn y mb c D z) ∧ Below w0.heap.size w0 y := by
  obtain ⟨n8, n6, nm⟩ := h.ne8
  obtain ⟨c, D, hM⟩ := h.mn
  refine ⟨(hg.block _ (Array.getElem?_eq_some_iff.1 h.c8).1 (fun e => n8 e.symm)).trans h.c8, (hg.block _ (Array.getElem?_eq_some_iff.1 h.c6).1 (fun e => n6 e.symm)).trans h.c6, ⟨c, D, Mn.keep hM (hg.block _ (Mn.lt hM) (fun e => nm e.symm))⟩, ?_⟩
  have hB : ∀ g, v.ownBlock = some g → w0.heap.size ≤ g := fun g hg2 => by
    rcases h.row.2 with ⟨rfl, _⟩ | ⟨g', cap, cur, rfl, hb, _⟩
    · simp [Value.ownBlock] at hg2
    · have : g' = g := by simpa [Value.ownBlock] using hg2
      omega
  exact ⟨hg.os.trans h.bel.os, hg.tape.trans h.bel.tape, hg.output.trans h.bel.output, Nat.le_trans h.bel.size hg.size, fun g hlt => (hg.block g (Nat.lt_of_lt_of_le hlt h.bel.size) (fun e => by have := hB g e.symm; omega)).trans (h.bel.block g hlt)⟩
theorem Jp.push (h : Jp w0 x g6 g8 mb mti z v M) (hg : x.grownBy y v.ownBlock) {gg cap : Nat} {f : Fl} (ho : y.ownsRow w0.heap.size tF 3 (.slice (some ⟨gg, 0, none⟩) (M.length + 1) cap) (M.length + 1) (fc M ++ fc [f])) : Jp w0 (y.setCell ⟨g8, 1, none⟩ (.slice (some ⟨gg, 0, none⟩) (M.length + 1) cap)) g6 g8 mb mti z (.slice (some ⟨gg, 0, none⟩) (M.length + 1) cap) (M ++ [f]) := by
  obtain ⟨k8, k6, ⟨c, D, km⟩, kb⟩ := h.grown hg
  have hne : ∀ k, k ≠ g8 → (y.setCell ⟨g8, 1, none⟩ (.slice (some ⟨gg, 0, none⟩) (M.length + 1) cap)).heap[k]? = y.heap[k]? := fun k hk => setCell_ne (p := ⟨g8, 1, none⟩) (fun e => hk e.symm) _
  refine ⟨setCell_heap k8 1 _, (hne _ h.ne).trans k6, ⟨c, D, Mn.keep km (hne _ (fun e => ?_))⟩, ?_, kb.setCell h.b8 _, h.b8, h.b6, h.bm, h.ne⟩
  · obtain ⟨es, cl, hm⟩ := Mn.blk km
    rw [e, k8] at hm; cases hm
  · rw [List.length_append, fc_append]
    refine own_keep ho fun g hgb => hne g (fun e => ?_)
    obtain ⟨cy, hcy⟩ := own_ty ho hgb
    rw [e, k8] at hcy
    injection hcy with hcy; injection hcy with _ hcy; exact absurd hcy (by decide)
end
def kp (z : List Int) (keep : Bool) (L : List Fl) : List Fl := L.filter fun x => z.contains x.1 == keep
theorem kp_snoc (z : List Int) (keep : Bool) (L : List Fl) (i : Nat) (h : i < L.length) : kp z keep (L.take (i + 1)) = if z.contains L[i].1 == keep then kp z keep (L.take i) ++ [L[i]] else kp z keep (L.take i) := by
  rw [List.take_succ_eq_append_getElem h, kp, List.filter_append]
  by_cases e : (z.contains L[i].1 == keep) = true
  · rw [if_pos e]; simp only [List.filter_cons, e, if_true, List.filter_nil]; rfl
  · rw [if_neg e]; simp only [List.filter_cons, e, List.filter_nil]; simp [kp]
theorem kp_len (z : List Int) (keep : Bool) (L : List Fl) : (kp z keep L).length ≤ L.length := List.length_filter_le _ _
end Go.Proofs.Ytgchdjjafgkcbaa.Zc
