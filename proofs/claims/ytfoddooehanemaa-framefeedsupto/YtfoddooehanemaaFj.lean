/- Frames: the laws' examples. -/
import Derived.Test.YtfoddooehanemaaFg
import Derived.Test.YtfoddooehanemaaFh
import Derived.Lib.SlBytesConst
namespace Go.Proofs.Ytfoddooehanemaa.Fj
set_option linter.unusedVariables false
set_option linter.unusedSimpArgs false
open Go.RowKit Lib0 Kb Fa Fb Fc Fm Fe Ff Fg Fh
theorem inb_new (w : World) (l : List UInt8) (c : Array Value) (fz : Nat × Nat) (hc : c = (bs l).toArray) : Inb (w.alloc (.cells c 5 fz)) w.heap.size 0 l := by
  subst hc
  intro j u hj
  have hjl := (List.getElem?_eq_some_iff.1 hj).1
  have hu := (List.getElem?_eq_some_iff.1 hj).2
  unfold World.cell?
  rw [h1_0]
  simp [bs, hjl, hu]
/-- Feed of a fresh block of bytes -/
theorem feed_new {w0 : World} {g h m : Nat} {st0 : St} {i0 : Nat} {bb0 : Option Nat} (L : Lie w0 g h m st0 i0 bb0) (h1 : 1 ≤ h) (h4 : h ≤ 4) (hm : m ≤ 9999) (bl : List UInt8) (hi0 : i0 + bl.length ≤ 4611686018427387904) (hl0 : bl.length ≤ 8796093022000) (c : Array Value) (fz : Nat × Nat) (hc : c = (bs bl).toArray) (n : Nat) (hn : bl.length = n) :
    Calls Try.prog 12 #[.pointer (some ⟨g, 0, none⟩), .slice (some ⟨w0.heap.size, 0, none⟩) n n] (w0.alloc (.cells c 5 fz)) (PostF (w0.alloc (.cells c 5 fz)) g h m bb0 (run h m ⟨st0, i0, []⟩ bl)) := by
  subst hn
  have hlt := L.lt
  refine feed_any (L.below (below_one w0 _)) h1 h4 hm w0.heap.size 0 bl.length bl (Nat.le_refl _) (inb_new w0 bl c fz hc) (by omega) (fun q hq => ?_) (by simp) hi0 hl0
  have := (L.blt q hq).1
  omega
theorem own_one {w : World} {B : Nat} {v : Value} {x : Value} (h : w.ownsRow B 9 1 v 1 [x]) : ∃ g c, v = .slice (some ⟨g, 0, none⟩) 1 c ∧ w.cell? ⟨g, 0, none⟩ = some x ∧ g < w.heap.size ∧ B ≤ g := by
  rcases h.2 with ⟨_, h2⟩ | ⟨g, cap, cur, rfl, h3, h4, h5, h6, h7, h8⟩
  · cases h2
  · refine ⟨g, cap, rfl, ?_, (Array.getElem?_eq_some_iff.1 h4).1, h3⟩
    unfold World.cell?
    rw [h4]
    have : (cur.toList.take (1 * 1))[0]? = some x := by rw [h8]; rfl
    rw [List.getElem?_take, if_pos (by decide)] at this
    simpa using this
theorem own_zero {w : World} {B : Nat} {v : Value} (h : w.ownsRow B 9 1 v 0 []) : ∃ a c, v = .slice a 0 c := by
  rcases h.2 with ⟨h1, h2⟩ | ⟨g, cap, cur, h1, _⟩
  · exact ⟨_, _, h1⟩
  · exact ⟨_, _, h1⟩
theorem hdr_none {w : World} {g h m : Nat} {l : List UInt8} {i : Nat} {bb : Option Nat} (L : Lie w g h m (.hdr l) i bb) : bb = none := by
  obtain ⟨a, b, c, d, body, t, e, S, L⟩ := L
  exact L.1
theorem r1 : run 1 10 ⟨.hdr [], 0, []⟩ [0, 3, 97, 98, 99, 0] = ⟨.hdr [0], 0, [[97, 98, 99]]⟩ := by rfl
theorem r2 : run 1 10 ⟨.hdr [0], 0, []⟩ [0, 0, 2, 120] = ⟨.bod 2 [120], 1, []⟩ := by rfl
theorem wq : wrp 3 100 ⟨#[97, 98, 99, 100, 101, 102, 103, 104, 105, 106, 107, 108]⟩ = (⟨#[0, 18, 97, 98, 99, 100, 101, 102, 103, 104, 105, 106, 107, 108]⟩, 0) := by decide +kernel
set_option maxRecDepth 100000 in
set_option maxHeartbeats 3200000 in
theorem examples_any (w : World) : Calls Try.prog 8 #[] w fun e w' => e = .returned (.bool true) ∧ Below w.heap.size w w' := by
  have z1 : ((errN (.hdr [0]) : Nat) : Int) = 0 := rfl
  have z2 : ((waitN 1 (.hdr [0]) : Nat) : Int) = 1 := rfl
  have z3 : ((errN (.bod 2 [120]) : Nat) : Int) = 0 := rfl
  have z4 : ((waitN 1 (.bod 2 [120]) : Nat) : Int) = 3 := rfl
  have z5 : str [97, 98, 99] = .string ⟨#[97, 98, 99]⟩ := rfl
  have pn := fun w => new_lie 1 10 (by decide) w
  have pw := fun w => wrap_any 3 100 ⟨#[97, 98, 99, 100, 101, 102, 103, 104, 105, 106, 107, 108]⟩ (by decide) w
  rw [wq] at pw
  go_enter Try.func8, Try.ntmps8
  go_wp2_with fail
  refine (pn _).mono ?_
  rintro e x ⟨rfl, L, hb⟩
  clear pn
  have hlt := L.lt
  go_wp2_with fail
  rw [Lib.run_convert_bytes_const x 37 5 _ 6 6 Try.underlying37 Try.underlying5]
  go_wp2_with fail
  refine (feed_new L (by decide) (by decide) (by decide) [0, 3, 97, 98, 99, 0] (by decide) (by decide) _ _ rfl 6 rfl).mono ?_
  rw [r1]
  rintro e x1 ⟨v1, bb1, rfl, own1, L1, nb1, f1, _⟩
  obtain ⟨g1, k1, rfl, ce1, lt1, lo1⟩ := own_one own1
  have hgn : w.heap.size ≠ g1 := by simp at lo1; omega
  rw [z1]
  have F1 : Hid (Below w.heap.size w x1) := Fr.below (((Fr.of hb : Fr [] w x).behind ((Below.refl _ _).alloc hb.size _)).trans2 f1 (by
    intro q hq
    simp only [Option.toList, List.mem_cons, List.not_mem_nil, or_false] at hq
    exact .inr (by omega)))
  clear f1 own1 hb nb1 L
  go_wp2_with fail
  refine (waits_any L1 (by decide) (by decide) (by decide)).mono ?_
  rintro e x2 ⟨rfl, hb2⟩
  rw [z2]
  have L2 := L1.below hb2
  have ce2 := (hb2.cell (p := ⟨g1, 0, none⟩) lt1).trans ce1
  have lt2 : g1 < x2.heap.size := Nat.lt_of_lt_of_le lt1 hb2.size
  have F2 : Hid (Below w.heap.size w x2) := keepB F1.out hb2
  clear L1 ce1 lt1 hb2 F1
  go_wp2_with fail
  rw [Lib.run_convert_bytes_const x2 37 5 _ 4 4 Try.underlying37 Try.underlying5]
  go_wp2_with fail
  obtain rfl := hdr_none L2
  have lt2b := L2.lt
  refine (feed_new L2 (by decide) (by decide) (by decide) [0, 0, 2, 120] (by decide) (by decide) _ _ rfl 4 rfl).mono ?_
  rw [r2]
  rintro e x3 ⟨v3, bb3, rfl, own3, L3, nb3, f3, _⟩
  obtain ⟨a3, k3, rfl⟩ := own_zero own3
  rw [z3]
  have F3 : Hid (Below w.heap.size w x3) := Fr.below (((Fr.of F2.out : Fr [] w x2).behind ((Below.refl _ _).alloc F2.out.size _)).trans2 f3 (by
    intro q hq
    simp only [Option.toList, List.mem_cons, List.not_mem_nil, or_false] at hq
    exact .inr (by omega)))
  have ce3 : x3.cell? ⟨g1, 0, none⟩ = some (str [97, 98, 99]) := by
    rw [← ce2]
    refine World.cell?_of_block ((f3.block g1 (by simp; omega) ?_).trans (heap_alloc_old _ _ lt2))
    simp only [Option.toList, List.mem_cons, List.not_mem_nil, or_false]
    exact fun h => hgn h.symm
  have lt3 : g1 < x3.heap.size := Nat.lt_of_lt_of_le (by simp; omega) f3.size
  clear f3 own3 nb3 L2 ce2 lt2 F2
  go_wp2_with fail
  refine (waits_any L3 (by decide) (by decide) (by decide)).mono ?_
  rintro e x4 ⟨rfl, hb4⟩
  rw [z4]
  have L4 := L3.below hb4
  have ce4 := (hb4.cell (p := ⟨g1, 0, none⟩) lt3).trans ce3
  have lt4 : g1 < x4.heap.size := Nat.lt_of_lt_of_le lt3 hb4.size
  have F4 : Hid (Below w.heap.size w x4) := keepB F3.out hb4
  clear L3 ce3 lt3 hb4 F3
  go_wp2_with fail
  refine (pw _).mono ?_
  rintro e x5 ⟨rfl, hb5⟩
  have L5 := L4.below hb5
  have ce5 := (hb5.cell (p := ⟨g1, 0, none⟩) lt4).trans ce4
  rw [z5] at ce5
  have F5 : Hid (Below w.heap.size w x5) := keepB F4.out hb5
  clear L4 ce4 lt4 hb5 F4 pw
  have pi := idle_any L5
  go_wp2_with fail
  refine pi.mono ?_
  rintro e x6 ⟨rfl, rfl⟩
  go_wp2_with fail
  go_ret
  exact ⟨rfl, F5.out⟩
end Go.Proofs.Ytfoddooehanemaa.Fj
