/- A group that came in. -/
import Derived.Test.YtheeicjoblkfnaaGreatDoorRc
import Derived.Test.YtheeicjoblkfnaaGreatDoorSb
import Derived.ProofKit
import Derived.OpenShut
import Derived.ChangeSlices
import Derived.Below
namespace Go.Proofs.YtheeicjoblkfnaaGreatDoor.Og
set_option linter.unusedVariables false
set_option linter.unusedSimpArgs false
open Go.ChangeShapes Go.WideShapes Go.ChangeAt Go.RowKit Rc
theorem cellsG : Tryz.prog.cellsOf 47 = 6 := by kernel_rfl
theorem cellsI : Tryz.prog.cellsOf 3 = 1 := by kernel_rfl
theorem six_of {cs : Array Value} (h : cs.size = 6) : ∃ a b c d e f, cs = #[a, b, c, d, e, f] := by
  obtain ⟨l⟩ := cs
  match l, h with
  | [a, b, c, d, e, f], _ => exact ⟨a, b, c, d, e, f, rfl⟩
set_option maxRecDepth 100000 in
theorem open_grp {H : Type} {enc : TypeId × Value → H} {W : World} {b0 : Nat} {r : Reach} {v : Value} {d : DataW H} {ps : List MemPlace}
    (hval : Value.okWide Tryz.prog W r b0 47 v) (hd : DataW.Trod enc Tryz.prog W 0 (fun _ => true) true 47 v d ps) :
    ∃ (nm : ByteArray) (l : Value) (z : List Int) (s1 s2 s3 s4 : Int), v = .agg #[.string nm, l, .int .i64 s1, .int .i64 s2, .int .i64 s3, .int .i64 s4] ∧ RI W l z ∧ (∀ x ∈ ps, x.block < W.heap.size) := by
  obtain ⟨cs, rfl, hsz⟩ := okWide_struct Tryz.underlying47 hval
  rw [cellsG] at hsz
  obtain ⟨c0, c1, c2, c3, c4, c5, rfl⟩ := six_of hsz
  obtain ⟨fuel, hf⟩ := hd
  obtain ⟨xs, q, hq, hxy, _, hxl, hfl⟩ := DataW.trod_struct Tryz.underlying47 hf
  match xs, hxl with
  | [y0, y1, y2], _ =>
    have g0 : DataW.trod enc Tryz.prog W 0 (fun _ => true) true q 9 [c0] = some y0 := hfl 0 _ rfl
    have g1 : DataW.trod enc Tryz.prog W 0 (fun _ => true) true q 43 [c1] = some y1 := hfl 1 _ rfl
    have g2 : DataW.trod enc Tryz.prog W 0 (fun _ => true) true q 45 [c2, c3, c4, c5] = some y2 := hfl 2 _ rfl
    obtain ⟨s0, e0, rfl, w0⟩ := DataW.trod_string Tryz.underlying9 g0
    cases e0
    obtain ⟨us, q2, hq2, hxy2, _, hul, hfl2⟩ := DataW.trod_struct Tryz.underlying45 g2
    match us, hul with
    | [u0, u1, u2, u3], _ =>
      have f0 : DataW.trod enc Tryz.prog W 0 (fun _ => true) true q2 3 [c2] = some u0 := hfl2 0 _ rfl
      have f1 : DataW.trod enc Tryz.prog W 0 (fun _ => true) true q2 3 [c3] = some u1 := hfl2 1 _ rfl
      have f2 : DataW.trod enc Tryz.prog W 0 (fun _ => true) true q2 3 [c4] = some u2 := hfl2 2 _ rfl
      have f3 : DataW.trod enc Tryz.prog W 0 (fun _ => true) true q2 3 [c5] = some u3 := hfl2 3 _ rfl
      obtain ⟨s1, e1, rfl, _⟩ := DataW.trod_int Tryz.underlying3 f0
      obtain ⟨s2, e2, rfl, _⟩ := DataW.trod_int Tryz.underlying3 f1
      obtain ⟨s3, e3, rfl, _⟩ := DataW.trod_int Tryz.underlying3 f2
      obtain ⟨s4, e4, rfl, _⟩ := DataW.trod_int Tryz.underlying3 f3
      cases e1
      cases e2
      cases e3
      cases e4
      simp only [List.flatMap_cons, List.flatMap_nil, List.append_nil, List.nil_append] at hxy2
      rw [hxy2] at hxy
      simp only [Prod.mk.injEq, List.flatMap_cons, List.flatMap_nil, List.append_nil, List.nil_append] at hxy
      rcases open_ints Tryz.underlying43 Tryz.underlying3 cellsI g1 with ⟨hcs, hx⟩ | ⟨a, len, cap, zs, hcs, _, hl, hm, hz, hx, hcell, hwz⟩
      · cases hcs
        refine ⟨s0, _, [], s1, s2, s3, s4, rfl, ⟨none, 0, rfl, by simp, fun i hi => by simp at hi⟩, fun x hx2 => ?_⟩
        rw [hxy.2, hx] at hx2
        simp at hx2
      · cases hcs
        simp only [if_true] at hz
        have hlen : (zs.take len).length = len := by rw [List.length_take]; omega
        refine ⟨s0, _, zs.take len, s1, s2, s3, s4, rfl, ⟨some a, cap, by rw [hlen], by rw [hlen]; unfold maxLen at hm; omega, fun i hi => ⟨a, rfl, ?_⟩⟩, fun x hx2 => ?_⟩
        · rw [hcell i (by omega)]
          congr 2
          rw [List.getElem_take, List.getD, List.getElem?_eq_getElem (by omega)]; rfl
        · rw [hxy.2, hx] at hx2
          simp only [MemPlace.row, List.mem_map, List.mem_range] at hx2
          obtain ⟨i, hi, rfl⟩ := hx2
          have := World.block_lt_of_cell? W (a.add 0) (hcell 0 (by omega))
          have e : (a.add 0).block = a.block := by unfold Addr.add; split <;> rfl
          rw [e] at this
          exact this
theorem rb_of {w : World} {v : Value} {z : Nat → Bool} {n : Nat} (h : Sb.Lies w v z n) : RB w v ((List.range n).map z) := by
  rcases h with ⟨rfl, rfl⟩ | ⟨a, cap, rfl, h1, h2, hc⟩
  · exact ⟨none, 0, rfl, by simp, fun i hi => by simp at hi⟩
  · refine ⟨some a, cap, by simp, by simp; unfold maxLen at h2; omega, fun i hi => ⟨a, rfl, ?_⟩⟩
    simp only [List.length_map, List.length_range] at hi
    rw [hc i hi]; simp
end Go.Proofs.YtheeicjoblkfnaaGreatDoor.Og
