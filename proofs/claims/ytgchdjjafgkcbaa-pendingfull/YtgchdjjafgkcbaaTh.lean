/- A wheel of *turnstile/pending.held: Tick. -/
import Derived.Test.YtgchdjjafgkcbaaMh
namespace Go.Proofs.Ytgchdjjafgkcbaa.Th
set_option linter.unusedVariables false
set_option linter.unusedSimpArgs false
open Go.RowKit Go.Maps Lib0 Kb Xp Ih Dh Eh Fh Gh Hh Kh Jh Mh
attribute [local go_sem] Oper.semAt_some
theorem Ok.tick {n : Nat} {L : LT} {now last : Int} (h : Ok n L now last) (h1 : now + 1 ≤ 1000000000000) : Ok n (L.filter fun x => !(x.2.1 == now + 1)) (now + 1) last := by
  refine ⟨h.pos, h.top, h.one.filter _, h.inc.filter _, fun x hx => h.num x (List.mem_filter.1 hx).1, fun x hx => ?_, by have := h.now0; omega, h1, h.last0, h.last1⟩
  have h2 := List.mem_filter.1 hx
  have h3 := h.tik x h2.1
  have h4 : ¬ x.2.1 = now + 1 := by simpa using h2.2
  omega
theorem own_lift {w : World} {base base' e size n : Nat} {v : Value} {xs : List Value} (h : w.ownsRow base e size v n xs) (k : base' ≤ base) : w.ownsRow base' e size v n xs := own_base h fun g hg => Nat.le_trans k (Lib0.own_ge h g hg)
set_option maxRecDepth 100000 in
set_option maxHeartbeats 1600000 in
theorem tick_any (w : World) (b : Nat) (B : Nat → Prop) (n : Nat) (L : LT) (now last : Int) (h : Wl w b B n L now last) (ok : Ok n L now last) (hl : last ≤ 5864062014805) (hnow : now + 1 ≤ 1000000000000) :
    Calls Try.prog 31 #[.pointer (some ⟨b, 0, none⟩)] w fun e w' => ∃ v, e = .returned v ∧ w'.ownsRow w.heap.size tT 1 v (L.filter fun x => x.2.1 == now + 1).length (thgs (L.filter fun x => x.2.1 == now + 1)) ∧ Trn w b B n (L.filter fun x => !(x.2.1 == now + 1)) (now + 1) last w' := by
  obtain ⟨sb, mb, S, c, D, hm, hB⟩ := h
  have HB : Hid (∀ g, B g ↔ Bk b sb mb n S g) := hB
  have hb := hm.blk
  have c2 : w.cell? ⟨b, 2, none⟩ = some (.int .i64 now) := by simp [World.cell?, hb]
  have f2 : w.frozen? ⟨b, 2, none⟩ = false := by simp [World.frozen?, hb]
  have n0 := ok.now0
  obtain ⟨y, hy⟩ : ∃ y, w.setCell ⟨b, 2, none⟩ (.int .i64 (now + 1)) = y := ⟨_, rfl⟩
  have hmy : Wm y b sb mb n S c D L (now + 1) last := hy ▸ Wm.set hm 2 _ rfl (Int.le_refl _)
  have HF : Hid (FrP B w y) := hy ▸ (FrP.refl B w).set (p := ⟨b, 2, none⟩) (.inl ((hB b).2 (.inl rfl))) _
  have d2 : y.cell? ⟨b, 2, none⟩ = some (.int .i64 (now + 1)) := by simp [World.cell?, hmy.blk]
  obtain ⟨z, hz⟩ : ∃ z, y.alloc (.cells #[.int .i64 (now + 1)] 3) = z := ⟨_, rfl⟩
  have HZ : Hid (Below y.heap.size y z) := hz ▸ below_one _ _
  have HZX : Hid (z.heap[y.heap.size]? = some (.cells #[.int .i64 (now + 1)] tI)) := hz ▸ h1_0 _ _
  have d3 : z.cell? ⟨y.heap.size, 0, none⟩ = some (.int .i64 (now + 1)) := by simp [World.cell?, HZX.out]
  have htk := take_m 43 y.heap.size (now + 1) (fun x => x.2.1 == now + 1) (enters_of Try.func43 (by kernel_rfl) rfl) (tick_pred y.heap.size (now + 1)) z b sb mb n S c D L (now + 1) last (now + 1) (hmy.keep fun g hg => HZ.out.block g (hmy.lt g hg)) ok.one ok.inc ok.num hl ok.pos ok.top (by omega) (fun x hx hp => by simpa using hp) HZX.out
  have s0 : now + 1 ≤ 9223372036854775807 := by omega
  have s1 : -9223372036854775808 ≤ now + 1 := by omega
  have HS : Hid (y.heap.size = w.heap.size) := hy ▸ setCell_size _ _ _
  clear hm hb ok hB n0 hmy hl hnow
  go_enter Try.func31, Try.ntmps31
  go_wp2_with fail
  refine htk.mono ?_
  rintro e z2 ⟨v, rfl, ho, S', D', hw, hf, hg⟩
  have HEND : Hid (z2.ownsRow w.heap.size tT 1 v (L.filter fun x => x.2.1 == now + 1).length (thgs (L.filter fun x => x.2.1 == now + 1)) ∧ Trn w b B n (L.filter fun x => !(x.2.1 == now + 1)) (now + 1) last z2) := by
    have h1 := HZ.out.size
    have h2 := HS.out
    refine ⟨own_lift ho (by omega), Bk b sb mb n S', ⟨sb, mb, S', c, D', hw, fun g => Iff.rfl⟩, ?_, ?_⟩
    · exact (HF.out.behind HZ.out).trans hf (fun g h => .inl ((HB.out g).2 h))
    · intro g hgg
      rcases hg g hgg with h | h
      · exact .inl ((HB.out g).2 h)
      · exact .inr (by omega)
  clear ho hw hf hg htk
  go_wp2_with fail
  go_ret
  exact ⟨_, rfl, HEND.out⟩
theorem len_any (w : World) (b : Nat) (B : Nat → Prop) (n : Nat) (L : LT) (now last : Int) (h : Wl w b B n L now last) :
    Calls Try.prog 22 #[.pointer (some ⟨b, 0, none⟩)] w fun e w' => e = .returned (.int .i64 (L.length : Nat)) ∧ w' = w := by
  obtain ⟨sb, mb, S, c, D, hm, hB⟩ := h
  exact len_m w b sb mb n S c D L now last hm
/-- a wheel that was made since H -/
def Fsh (w0 : World) (w : World) (b : Nat) (n : Nat) (L : LT) (now last : Int) : Prop := ∃ B, Wl w b B n L now last ∧ Below w0.heap.size w0 w ∧ ∀ g, B g → w0.heap.size ≤ g
theorem Trn.fresh {w0 w w' : World} {b : Nat} {B : Nat → Prop} {n : Nat} {L' : LT} {now' last' : Int} (h : Trn w b B n L' now' last' w') (hb : Below w0.heap.size w0 w) (hB : ∀ g, B g → w0.heap.size ≤ g) : Fsh w0 w' b n L' now' last' := by
  obtain ⟨B', h1, h2, h3⟩ := h
  refine ⟨B', h1, ((FrP.of (B := fun _ => False) hb).trans h2 (fun g hg => .inr (hB g hg))).below (fun _ h => h.elim), fun g hg => ?_⟩
  rcases h3 g hg with h | h
  · exact hB g h
  · exact Nat.le_trans hb.size h
theorem Ok.new {n : Nat} (h1 : 1 ≤ n) (h2 : n ≤ 4096) : Ok n [] 0 0 := ⟨h1, h2, (fun x hx => by cases hx), List.Pairwise.nil, (fun x hx => by cases hx), (fun x hx => by cases hx), by decide, by decide, by decide, by decide⟩
end Go.Proofs.Ytgchdjjafgkcbaa.Th
