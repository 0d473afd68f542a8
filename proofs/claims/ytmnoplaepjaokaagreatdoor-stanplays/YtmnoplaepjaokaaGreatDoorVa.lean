/- StanPlays: numbers and the document's, side by side; deal. -/
import Derived.Test.YtmnoplaepjaokaaGreatDoorZk
import Derived.Test.YtmnoplaepjaokaaGreatDoorYf
import Derived.Test.YtmnoplaepjaokaaGreatDoorPick
namespace Go.Proofs.YtmnoplaepjaokaaGreatDoor.Va
set_option linter.unusedVariables false
set_option linter.unusedSimpArgs false
open Go.RowKit Lib0 Kb Xp Ya Yb Yc Yd Yf Yg Zk
/-- both in one state -/
structure Tw (w y : World) (b d rb rd : Nat) (S : St) : Prop where
  kn : Kn w y b d S
  rm : Rm y rb rd S
  ok : OK S
  r0 : w.heap.size ≤ rb
  r1 : w.heap.size ≤ rd
def F4 (b d rb rd : Nat) (g : Nat) : Prop := g = b ∨ g = d ∨ g = rb ∨ g = rd
section
variable {w y x : World} {b d rb rd : Nat} {S S' : St}
theorem kn_ne (h : Kn w y b d S) (k : Rm y rb rd S') : rb ≠ b ∧ rb ≠ d ∧ rd ≠ b ∧ rd ≠ d := by
  obtain ⟨W, hn⟩ := h.nm
  exact ⟨ty_ne k.blk hn.blk (by decide), ty_ne k.blk hn.row (by decide), ty_ne k.row hn.blk (by decide), ty_ne k.row hn.row (by decide)⟩
theorem kn_below (h : Kn w y b d S) (k : Below y.heap.size y x) : Kn w x b d S := by
  obtain ⟨W, hn⟩ := h.nm
  exact ⟨⟨W, Yd.Nm.below hn k⟩, keepB h.bel k, h.b0, h.d0, h.tb⟩
theorem Tw.below (h : Tw w y b d rb rd S) (k : Below y.heap.size y x) : Tw w x b d rb rd S := ⟨kn_below h.kn k, h.rm.below k, h.ok, h.r0, h.r1⟩
theorem Tw.lo (h : Tw w y b d rb rd S) : ∀ g, F4 b d rb rd g → w.heap.size ≤ g := by
  rintro g (rfl | rfl | rfl | rfl)
  · exact h.kn.b0
  · exact h.kn.d0
  · exact h.r0
  · exact h.r1
theorem Tw.lt (h : Tw w y b d rb rd S) : ∀ g, F4 b d rb rd g → g < y.heap.size := by
  obtain ⟨W, hn⟩ := h.kn.nm
  rintro g (rfl | rfl | rfl | rfl)
  · exact hn.lt.1
  · exact hn.lt.2
  · exact h.rm.lt.1
  · exact h.rm.lt.2
/-- the program's call -/
theorem Tw.one (h : Tw w y b d rb rd S) (hn : ∃ W, Nm x b d S' W) (hf : FrP (fun g => g = b ∨ g = d) y x) : Kn w x b d S' ∧ Rm x rb rd S ∧ FrP (F4 b d rb rd) y x := by
  obtain ⟨n1, n2, n3, n4⟩ := kn_ne h.kn h.rm
  refine ⟨⟨hn, bl_fr h.kn.bel hf (fun g hg => by rcases hg with rfl | rfl; exact h.kn.b0; exact h.kn.d0), h.kn.b0, h.kn.d0, h.kn.tb⟩, h.rm.keep (hf.block _ h.rm.lt.1 (by rintro (e | e); exact n1 e; exact n2 e)) (hf.block _ h.rm.lt.2 (by rintro (e | e); exact n3 e; exact n4 e)), hf.mono ?_⟩
  rintro g (e | e)
  · exact .inl e
  · exact .inr (.inl e)
/-- the document's call behind it -/
theorem two (ok : OK S') (h : Kn w y b d S') (r0 : w.heap.size ≤ rb) (r1 : w.heap.size ≤ rd) (hr0 : Rm y rb rd S) (hr : Rm x rb rd S') (hf : FrP (fun g => g = rb ∨ g = rd) y x) : Tw w x b d rb rd S' ∧ FrP (F4 b d rb rd) y x := by
  obtain ⟨n1, n2, n3, n4⟩ := kn_ne h hr0
  obtain ⟨W, hn⟩ := h.nm
  refine ⟨⟨⟨⟨W, Yd.Nm.keep hn (hf.block _ hn.lt.1 (by rintro (e | e); exact n1 e.symm; exact n3 e.symm)) (hf.block _ hn.lt.2 (by rintro (e | e); exact n2 e.symm; exact n4 e.symm))⟩, bl_fr h.bel hf (fun g hg => by rcases hg with rfl | rfl; exact r0; exact r1), h.b0, h.d0, h.tb⟩, hr, ok, r0, r1⟩, hf.mono ?_⟩
  rintro g (e | e)
  · exact .inr (.inr (.inl e))
  · exact .inr (.inr (.inr e))
theorem fr4 {u : World} (h : FrP (F4 b d rb rd) y x) (k : FrP (F4 b d rb rd) x u) : FrP (F4 b d rb rd) y u := h.trans k (fun g hg => .inl hg)
end
set_option maxRecDepth 100000 in
theorem deal_any {w y : World} {b d rb rd : Nat} {S : St} (h : Tw w y b d rb rd S) : Calls Tryz.prog 40 #[.pointer (some ⟨b, 0, none⟩), .pointer (some ⟨rb, 0, none⟩)] y fun e w' => e = .returned (.bool true) ∧ Tw w w' b d rb rd (tk S) ∧ FrP (F4 b d rb rd) y w' := by
  have HT : Hid (Calls Tryz.prog 26 #[.pointer (some ⟨b, 0, none⟩)] y fun e w' => e = .returned (.tuple #[.int .i64 ((nxt S : Nat) : Int), .int .i64 (tkE S)]) ∧ Kn w w' b d (tk S) ∧ Rm w' rb rd S ∧ FrP (F4 b d rb rd) y w') := by
    obtain ⟨W, hn⟩ := h.kn.nm
    refine (Ye.take_dealt hn h.ok (h.kn.tb.next h.kn.bel).tz).mono ?_
    rintro e w' ⟨he, hn', hf⟩
    exact ⟨he, h.one hn' hf⟩
  have HR : Hid (∀ x, Kn w x b d (tk S) → Rm x rb rd S → Calls Tryz.prog 75 #[.pointer (some ⟨rb, 0, none⟩)] x fun e w' => e = .returned (.tuple #[.int .i64 ((nxt S : Nat) : Int), .int .i64 (tkE S)]) ∧ Tw w w' b d rb rd (tk S) ∧ FrP (F4 b d rb rd) x w') := fun x hk hr => by
    refine (taker_any hr h.ok).mono ?_
    rintro e w' ⟨he, hr', hf⟩
    exact ⟨he, two h.ok.tk hk h.r0 h.r1 hr hr' hf⟩
  clear h
  generalize ((nxt S : Nat) : Int) = t at *
  generalize tkE S = c at *
  go_enter Tryz.func40, Tryz.ntmps40
  go_wp2_with fail
  refine HT.out.mono ?_
  rintro e x ⟨rfl, hk, hr, hf⟩
  have HK : Hid (Kn w x b d (tk S) ∧ Rm x rb rd S ∧ FrP (F4 b d rb rd) y x) := ⟨hk, hr, hf⟩
  clear hk hr hf HT
  go_wp2_with fail
  refine (HR.out x HK.out.1 HK.out.2.1).mono ?_
  rintro e u ⟨rfl, ht, hf⟩
  have HU : Hid (Tw w u b d rb rd (tk S) ∧ FrP (F4 b d rb rd) y u) := ⟨ht, fr4 HK.out.2.2 hf⟩
  clear ht hf HR HK
  go_wp2_with fail
  go_ret
  exact ⟨rfl, HU.out.1, HU.out.2⟩
end Go.Proofs.YtmnoplaepjaokaaGreatDoor.Va
