/- meant.has; part: what stands along its loop. -/
import Derived.Test.YtgchdjjafgkcbaaZb
import Derived.Deep.AppendLies
import Derived.Deep.RegionLaw
namespace Go.Proofs.Ytgchdjjafgkcbaa.Zc
set_option linter.unusedVariables false
set_option linter.unusedSimpArgs false
open Go.RowKit Go.Maps Lib0 Kb Xp Ic Ix If Ig Za Zb
abbrev tG : TypeId := 46
theorem Mn.keep {w x : World} {mb c : Nat} {D : DataW Unit} {z : List Int} (h : Mn w mb c D z) (hb : x.heap[mb]? = w.heap[mb]?) : Mn x mb c D z := by
  obtain ⟨⟨es, cl, e, r⟩, t, hh⟩ := h
  exact ⟨⟨es, cl, hb.trans e, r⟩, t, hh⟩
theorem Mn.blk {w : World} {mb c : Nat} {D : DataW Unit} {z : List Int} (h : Mn w mb c D z) : ∃ es cl, w.heap[mb]? = some (.map es cl) := by
  obtain ⟨⟨es, cl, e, r⟩, t, hh⟩ := h
  exact ⟨es, cl, e⟩
theorem Mn.lt {w : World} {mb c : Nat} {D : DataW Unit} {z : List Int} (h : Mn w mb c D z) : mb < w.heap.size := by
  obtain ⟨es, cl, e⟩ := Mn.blk h
  exact (Array.getElem?_eq_some_iff.1 e).1
theorem has_any {w : World} {mb c : Nat} {D : DataW Unit} {z : List Int} (h : Mn w mb c D z) (n : Int) (hn : -9223372036854775808 ≤ n ∧ n ≤ 9223372036854775807) : Calls Try.prog 65 #[.map (some mb), .int .i64 n] w fun e w' => e = .returned (.bool (z.contains n)) ∧ Below w.heap.size w w' := by
  have hown := h.own
  have hkey := key_of n hn
  have hh := h.has n
  clear h hn
  generalize z.contains n = b at *
  go_enter Try.func65, Try.ntmps65
  go_wp2_with (first | (at_lookup; refine wpList_lookup_own_unit _ rfl _ _ tM rfl tI tE law Try.underlying135 (zeroE _) mb c D rfl hown _ _ rfl hkey ?_; rw [hh]) | fail)
  go_ret
  exact ⟨rfl, Kb.below_one _ _⟩
/-- what stands along part's loop -/
structure Jp (w0 x : World) (g6 g8 mb : Nat) (mti : ByteArray) (z : List Int) (v : Value) (M : List Fl) : Prop where
  c8 : x.heap[g8]? = some (.cells #[.string mti, v] tG)
  c6 : x.heap[g6]? = some (.cells #[.string ⟨#[]⟩, .slice none 0 0] tG)
  mn : ∃ c D, Mn x mb c D z
  row : x.ownsRow w0.heap.size tF 3 v M.length (fc M)
  bel : Below w0.heap.size w0 x
  b8 : w0.heap.size ≤ g8
  b6 : w0.heap.size ≤ g6
  bm : w0.heap.size ≤ mb
  ne : g6 ≠ g8
section
variable {w0 x y : World} {g6 g8 mb : Nat} {mti : ByteArray} {z : List Int} {v : Value} {M : List Fl}
theorem Jp.keep (h : Jp w0 x g6 g8 mb mti z v M) (k : ∀ g, g < x.heap.size → y.heap[g]? = x.heap[g]?) (hb : Below w0.heap.size w0 y) : Jp w0 y g6 g8 mb mti z v M := by
  obtain ⟨c, D, hM⟩ := h.mn
  refine ⟨(k _ (Array.getElem?_eq_some_iff.1 h.c8).1).trans h.c8, (k _ (Array.getElem?_eq_some_iff.1 h.c6).1).trans h.c6, ⟨c, D, Mn.keep hM (k _ (Mn.lt hM))⟩, own_keep h.row fun g hg => ?_, hb, h.b8, h.b6, h.bm, h.ne⟩
  obtain ⟨cy, hcy⟩ := own_ty h.row hg
  exact k g (Array.getElem?_eq_some_iff.1 hcy).1
theorem Jp.below (h : Jp w0 x g6 g8 mb mti z v M) (k : Below x.heap.size x y) : Jp w0 y g6 g8 mb mti z v M :=
  h.keep (fun g hg => k.block g hg) (h.bel.trans (k.mono h.bel.size))
theorem Jp.cell8 (h : Jp w0 x g6 g8 mb mti z v M) : x.cell? ⟨g8, 0, none⟩ = some (.string mti) ∧ x.cell? ⟨g8, 1, none⟩ = some v ∧ x.frozen? ⟨g8, 1, none⟩ = false := by
  have := h.c8
  exact ⟨by simp [World.cell?, this], by simp [World.cell?, this], frozen_of_row x _ _ _ _ this⟩
theorem Jp.ne8 (h : Jp w0 x g6 g8 mb mti z v M) : v.ownBlock ≠ some g8 ∧ v.ownBlock ≠ some g6 ∧ v.ownBlock ≠ some mb := by
  obtain ⟨c, D, hM⟩ := h.mn
  obtain ⟨es, cl, hm⟩ := Mn.blk hM
  refine ⟨fun e => ?_, fun e => ?_, fun e => ?_⟩
  · obtain ⟨cy, hcy⟩ := own_ty h.row e
    rw [h.c8] at hcy
    injection hcy with hcy; injection hcy with _ hcy; exact absurd hcy (by decide)
  · obtain ⟨cy, hcy⟩ := own_ty h.row e
    rw [h.c6] at hcy
    injection hcy with hcy; injection hcy with _ hcy; exact absurd hcy (by decide)
  · obtain ⟨cy, hcy⟩ := own_ty h.row e
    rw [hm] at hcy
    injection hcy with hcy; cases hcy
/-- the world behind an append to the row -/
theorem Jp.grown (h : Jp w0 x g6 g8 mb mti z v M) (hg : x.grownBy y v.ownBlock) : y.heap[g8]? = some (.cells #[.string mti, v] tG) ∧ y.heap[g6]? = some (.cells #[.string ⟨#[]⟩, .slice none 0 0] tG) ∧ (∃ c D, Mn y mb c D z) ∧ Below w0.heap.size w0 y := by
  obtain ⟨n8, n6, nm⟩ := h.ne8
  obtain ⟨c, D, hM⟩ := h.mn
  refine ⟨(hg.block _ (Array.getElem?_eq_some_iff.1 h.c8).1 (fun e => n8 e.symm)).trans h.c8, (hg.block _ (Array.getElem?_eq_some_iff.1 h.c6).1 (fun e => n6 e.symm)).trans h.c6, ⟨c, D, Mn.keep hM (hg.block _ (Mn.lt hM) (fun e => nm e.symm))⟩, ?_⟩
  have hB : ∀ g, v.ownBlock = some g → w0.heap.size ≤ g := fun g hg2 => by
    rcases h.row.2 with ⟨rfl, _⟩ | ⟨g', cap, cur, rfl, hb, _⟩
    · simp [Value.ownBlock] at hg2
    · have : g' = g := by simpa [Value.ownBlock] using hg2
      omega
  exact ⟨hg.os.trans h.bel.os, hg.tape.trans h.bel.tape, hg.output.trans h.bel.output, Nat.le_trans h.bel.size hg.size, fun g hlt => (hg.block g (Nat.lt_of_lt_of_le hlt h.bel.size) (fun e => by have := hB g e.symm; omega)).trans (h.bel.block g hlt)⟩
theorem Jp.push (h : Jp w0 x g6 g8 mb mti z v M) (hg : x.grownBy y v.ownBlock) {gg cap : Nat} {f : Fl} (ho : y.ownsRow w0.heap.size tF 3 (.slice (some ⟨gg, 0, none⟩) (M.length + 1) cap) (M.length + 1) (fc M ++ fc [f])) : Jp w0 (y.setCell ⟨g8, 1, none⟩ (.slice (some ⟨gg, 0, none⟩) (M.length + 1) cap)) g6 g8 mb mti z (.slice (some ⟨gg, 0, none⟩) (M.length + 1) cap) (M ++ [f]) := by
  obtain ⟨k8, k6, ⟨c, D, km⟩, kb⟩ := h.grown hg
  have hne : ∀ k, k ≠ g8 → (y.setCell ⟨g8, 1, none⟩ (.slice (some ⟨gg, 0, none⟩) (M.length + 1) cap)).heap[k]? = y.heap[k]? := fun k hk => setCell_ne (p := ⟨g8, 1, none⟩) (fun e => hk e.symm) _
  refine ⟨setCell_heap k8 1 _, (hne _ h.ne).trans k6, ⟨c, D, Mn.keep km (hne _ (fun e => ?_))⟩, ?_, kb.setCell h.b8 _, h.b8, h.b6, h.bm, h.ne⟩
  · obtain ⟨es, cl, hm⟩ := Mn.blk km
    rw [e, k8] at hm; cases hm
  · rw [List.length_append, fc_append]
    refine own_keep ho fun g hgb => hne g (fun e => ?_)
    obtain ⟨cy, hcy⟩ := own_ty ho hgb
    rw [e, k8] at hcy
    injection hcy with hcy; injection hcy with _ hcy; exact absurd hcy (by decide)
end
def kp (z : List Int) (keep : Bool) (L : List Fl) : List Fl := L.filter fun x => z.contains x.1 == keep
theorem kp_snoc (z : List Int) (keep : Bool) (L : List Fl) (i : Nat) (h : i < L.length) : kp z keep (L.take (i + 1)) = if z.contains L[i].1 == keep then kp z keep (L.take i) ++ [L[i]] else kp z keep (L.take i) := by
  rw [List.take_succ_eq_append_getElem h, kp, List.filter_append]
  by_cases e : (z.contains L[i].1 == keep) = true
  · rw [if_pos e]; simp only [List.filter_cons, e, if_true, List.filter_nil]; rfl
  · rw [if_neg e]; simp only [List.filter_cons, e, List.filter_nil]; simp [kp]
theorem kp_len (z : List Int) (keep : Bool) (L : List Fl) : (kp z keep L).length ≤ L.length := List.length_filter_le _ _
end Go.Proofs.Ytgchdjjafgkcbaa.Zc
