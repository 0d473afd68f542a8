/- A slice of journal entries that came in: rows of outputs within a row. -/
import Derived.Test.YtabmpngliphdpaaDoorRows
import Derived.Test.YtabmpngliphdpaaDoorLb
import Derived.WalkKit
import Derived.ProofKit
import Derived.OpenShut
import Derived.ChangeSlices
import Derived.Deep.Slices
import Derived.Below
import Derived.SizedLaws
namespace Go.Proofs.YtabmpngliphdpaaDoor.Oe
set_option linter.unusedVariables false
open Go.ChangeShapes Go.WideShapes Go.ChangeAt Go.RowKit Ke Kf La Lb
instance : Inhabited Ou := ⟨⟨0, 0, 0, 0, .empty⟩⟩
instance : Inhabited EV := ⟨(⟨0, 0, 0, .empty, []⟩, .nilIface)⟩
theorem wf_i64 {a : Int} (h : (Lit.int .i64 a).wf = true) : i64in a := by
  unfold i64in
  simp [Lit.wf, IntKind.min, IntKind.max, IntKind.signed, IntKind.bits] at h; omega
theorem cellsO : Tryd.prog.cellsOf 85 = 5 := by kernel_rfl
theorem bytesO : 1 ≤ Tryd.prog.bytesOf 85 := of_decide_eq_true (by kernel_rfl)
theorem cellsE : Tryd.prog.cellsOf 40 = 5 := by kernel_rfl
theorem bytesE : 1 ≤ Tryd.prog.bytesOf 40 := of_decide_eq_true (by kernel_rfl)
theorem weights_all {H : Type} {P : Program} {e : TypeId} : ∀ {l : List (DataW H)} {d : DataW H}, d ∈ l → ∀ n ∈ d.weights P e, n ∈ DataW.weightsAll P e l
  | [], _, h, _, _ => by cases h
  | x :: l, d, h, n, hn => by
    simp only [DataW.weightsAll, List.mem_append]
    rcases List.mem_cons.1 h with rfl | h
    · exact Or.inl hn
    · exact Or.inr (weights_all h n hn)
def OuIn (Q : Nat) (y : Ou) : Prop := (i64in y.k ∧ i64in y.l ∧ i64in y.c ∧ i64in y.a) ∧ y.b.size ≤ Q
set_option maxRecDepth 100000 in
theorem open_outs {H : Type} {enc : TypeId × Value → H} {W : World} {q : Nat} {cs : List Value} {y : DataW H × List MemPlace}
    (hf : DataW.trod enc Tryd.prog W 0 (fun _ => true) true q 38 cs = some y) :
    ∃ v L, cs = [v] ∧ RowO W v L ∧ (∀ p ∈ y.2, p.block < W.heap.size) ∧ ∀ Q, (∀ n ∈ y.1.weights Tryd.prog 38, n ≤ Q) → (∀ z ∈ L, OuIn Q z) ∧ L.length ≤ Q := by
  rcases Deep.open_slice Tryd.underlying38 hf with ⟨hcs, hx⟩ | ⟨a, len, cap, m, n, D, Pl, hcs, _, hl, hm, hmm, hx, hel⟩
  · subst hx
    exact ⟨_, [], hcs, rowo_nil W, (fun x hx => by simp at hx), fun Q _ => ⟨(fun z hz => by cases hz), Nat.zero_le _⟩⟩
  · subst hx
    simp only [if_true] at hmm
    have hel : ∀ i, i < m → ∃ o : Ou, (∀ j u, (o.cs)[j]? = some u → W.cell? ((a.add (i * 5)).add j) = some u) ∧ (∀ Q, (∀ n ∈ (D i).weights Tryd.prog 85, n ≤ Q) → OuIn Q o) ∧ Pl i = [] := by
      intro i hi
      obtain ⟨cs', h1, h2⟩ := hel i hi
      rw [cellsO] at h1
      obtain ⟨_, hlen, hcell⟩ := World.cells?_some h1
      obtain ⟨xs, q, hq, hxy, _, hxl, hfl⟩ := DataW.trod_struct Tryd.underlying85 h2
      match xs, hxl, cs', hlen with
      | [y0, y1, y2, y3, y4], _, [v0, v1, v2, v3, v4], _ =>
        have g0 : DataW.trod enc Tryd.prog W 0 (fun _ => true) true q 3 [v0] = some y0 := hfl 0 _ rfl
        have g1 : DataW.trod enc Tryd.prog W 0 (fun _ => true) true q 3 [v1] = some y1 := hfl 1 _ rfl
        have g2 : DataW.trod enc Tryd.prog W 0 (fun _ => true) true q 43 [v2] = some y2 := hfl 2 _ rfl
        have g3 : DataW.trod enc Tryd.prog W 0 (fun _ => true) true q 3 [v3] = some y3 := hfl 3 _ rfl
        have g4 : DataW.trod enc Tryd.prog W 0 (fun _ => true) true q 9 [v4] = some y4 := hfl 4 _ rfl
        obtain ⟨n0, e0, rfl, w0⟩ := DataW.trod_int Tryd.underlying3 g0
        obtain ⟨n1, e1, rfl, w1⟩ := DataW.trod_int Tryd.underlying3 g1
        obtain ⟨n2, e2, rfl, w2⟩ := DataW.trod_int Tryd.underlying43 g2
        obtain ⟨n3, e3, rfl, w3⟩ := DataW.trod_int Tryd.underlying3 g3
        obtain ⟨n4, e4, rfl, w4⟩ := DataW.trod_string Tryd.underlying9 g4
        cases e0; cases e1; cases e2; cases e3; cases e4
        have l4 : n4.data.toList.length = n4.size := by rw [Array.length_toList]; rfl
        simp only [Prod.mk.injEq] at hxy
        refine ⟨⟨n0, n1, n2, n3, n4⟩, fun j u hu => ?_, fun Q hQ => ⟨⟨wf_i64 w0, wf_i64 w1, wf_i64 w2, wf_i64 w3⟩, ?_⟩, ?_⟩
        · have hj : j < 5 := (List.getElem?_eq_some_iff.1 hu).1
          rw [hcell j hj]; exact hu
        · rw [hxy.1] at hQ; rw [← l4]; refine hQ _ ?_; simp [DataW.weights, DataW.weightsEach, Tryd.underlying85]
        · rw [hxy.2]; rfl
    obtain ⟨f, hF⟩ := Deep.choose_lt hel
    have hln : ((List.range len).map f).length = len := by simp
    refine ⟨_, (List.range len).map f, hcs, ⟨some a, cap, by rw [hln], fun i h => ?_⟩, ?_, fun Q hQ => ⟨fun z hz => ?_, ?_⟩⟩
    · rw [hln] at h
      have e : ((List.range len).map f)[i]'(by rw [hln]; exact h) = f i := by simp
      rw [e]
      exact ⟨a, rfl, (hF i (by omega)).1⟩
    · intro x hx
      rcases List.mem_append.1 hx with hx | hx
      · rw [cellsO] at hx
        simp only [MemPlace.row, List.mem_map, List.mem_range] at hx
        obtain ⟨i, hi, rfl⟩ := hx
        have hm0 : 0 < m := by omega
        have := World.block_lt_of_cell? W _ ((hF 0 hm0).1 0 _ rfl)
        have e : ((a.add (0 * 5)).add 0).block = a.block := by unfold Addr.add; repeat (split <;> try rfl)
        rw [e] at this
        exact this
      · obtain ⟨i, hi, hxi⟩ := List.mem_flatMap.1 hx
        rw [(hF i (List.mem_range.1 hi)).2.2] at hxi
        cases hxi
    · simp only [DataW.weights, Tryd.underlying38, List.mem_cons, List.mem_append, List.length_map, List.length_range] at hQ
      obtain ⟨i, hi, rfl⟩ := List.mem_map.1 hz
      exact (hF i (by have := List.mem_range.1 hi; omega)).2.1 Q fun n hn => hQ n (Or.inr (Or.inl (weights_all (List.mem_map.2 ⟨i, hi, rfl⟩) n hn)))
    · simp only [DataW.weights, Tryd.underlying38, List.mem_cons, List.mem_append, List.length_map, List.length_range] at hQ
      rw [hln]
      have h1 := hQ _ (Or.inl rfl)
      have h2 := Nat.mul_le_mul (show len ≤ len + (m - len) by omega) bytesO
      omega
def EnIn (Q : Nat) (x : En) : Prop := (i64in x.k ∧ i64in x.l ∧ i64in x.n ∧ x.t.size ≤ Q) ∧ (∀ y ∈ x.L, OuIn Q y) ∧ x.L.length ≤ Q
set_option maxRecDepth 100000 in
theorem open_ents {H : Type} {enc : TypeId × Value → H} {W : World} {b0 : Nat} {r : Reach} {v : Value} {d : DataW H} {ps : List MemPlace} {R : Nat}
    (hval : Value.okWide Tryd.prog W r b0 26 v) (hd : DataW.Trod enc Tryd.prog W 0 (fun _ => true) true 26 v d ps) (hR : ∀ n ∈ d.weights Tryd.prog 26, n ≤ R) :
    ∃ Es, RowE W v Es ∧ (∀ x ∈ ps, x.block < W.heap.size) ∧ Es.length ≤ R ∧ ∀ e ∈ Es, EnIn R e.1 := by
  obtain ⟨a0, len, cap, rfl⟩ := okWide_slice Tryd.underlying26 hval
  obtain ⟨fuel, hf⟩ := hd
  rcases Deep.open_slice Tryd.underlying26 hf with ⟨hcs, hx⟩ | ⟨a, len', cap', m, n, D, Pl, hcs, _, hl, hm, hmm, hx, hel⟩
  · simp only [Prod.mk.injEq] at hx
    obtain ⟨rfl, rfl⟩ := hx
    simp [Value.cells] at hcs
    obtain ⟨rfl, rfl, rfl⟩ := hcs
    exact ⟨[], ⟨Option.none, 0, rfl, fun i h => absurd h (Nat.not_lt_zero _)⟩, (fun x hx => by simp at hx), Nat.zero_le _, fun e he => by cases he⟩
  · simp only [Prod.mk.injEq] at hx
    obtain ⟨rfl, rfl⟩ := hx
    simp [Value.cells] at hcs
    obtain ⟨rfl, rfl, rfl⟩ := hcs
    simp only [if_true] at hmm
    simp only [DataW.weights, Tryd.underlying26, List.mem_cons, List.mem_append, List.length_map, List.length_range] at hR
    have hel : ∀ i, i < m → ∃ e : EV, ((∀ j u, (ecs e)[j]? = some u → W.cell? ((a.add (i * 5)).add j) = some u) ∧ RowO W e.2 e.1.L) ∧ (∀ Q, (∀ n ∈ (D i).weights Tryd.prog 40, n ≤ Q) → EnIn Q e.1) ∧ ∀ p ∈ Pl i, p.block < W.heap.size := by
      intro i hi
      obtain ⟨cs', h1, h2⟩ := hel i hi
      rw [cellsE] at h1
      obtain ⟨_, hlen, hcell⟩ := World.cells?_some h1
      obtain ⟨xs, q, hq, hxy, _, hxl, hfl⟩ := DataW.trod_struct Tryd.underlying40 h2
      match xs, hxl, cs', hlen with
      | [z0, z1], _, [v0, v1, v2, v3, v4], _ =>
        have k0 : DataW.trod enc Tryd.prog W 0 (fun _ => true) true q 37 [v0, v1, v2, v3] = some z0 := hfl 0 _ rfl
        have k1 : DataW.trod enc Tryd.prog W 0 (fun _ => true) true q 38 [v4] = some z1 := hfl 1 _ rfl
        obtain ⟨v4', L, hv4, hrow, hpl, hw⟩ := open_outs k1
        simp only [List.cons.injEq, and_true] at hv4
        subst hv4
        obtain ⟨ys, q2, hq2, hxy2, _, hxl2, hfl2⟩ := DataW.trod_struct Tryd.underlying37 k0
        match ys, hxl2 with
        | [y0, y1, y2, y3], _ =>
          have g0 : DataW.trod enc Tryd.prog W 0 (fun _ => true) true q2 3 [v0] = some y0 := hfl2 0 _ rfl
          have g1 : DataW.trod enc Tryd.prog W 0 (fun _ => true) true q2 3 [v1] = some y1 := hfl2 1 _ rfl
          have g2 : DataW.trod enc Tryd.prog W 0 (fun _ => true) true q2 3 [v2] = some y2 := hfl2 2 _ rfl
          have g3 : DataW.trod enc Tryd.prog W 0 (fun _ => true) true q2 9 [v3] = some y3 := hfl2 3 _ rfl
          obtain ⟨n0, e0, rfl, w0⟩ := DataW.trod_int Tryd.underlying3 g0
          obtain ⟨n1, e1, rfl, w1⟩ := DataW.trod_int Tryd.underlying3 g1
          obtain ⟨n2, e2, rfl, w2⟩ := DataW.trod_int Tryd.underlying3 g2
          obtain ⟨n3, e3, rfl, w3⟩ := DataW.trod_string Tryd.underlying9 g3
          cases e0; cases e1; cases e2; cases e3
          have l3 : n3.data.toList.length = n3.size := by rw [Array.length_toList]; rfl
          subst hxy2
          simp only [Prod.mk.injEq] at hxy
          refine ⟨(⟨n0, n1, n2, n3, L⟩, v4), ⟨fun j u hu => ?_, hrow⟩, fun Q hQ => ⟨⟨wf_i64 w0, wf_i64 w1, wf_i64 w2, ?_⟩, ?_⟩, ?_⟩
          · have hj : j < 5 := (List.getElem?_eq_some_iff.1 hu).1
            rw [hcell j hj]; exact hu
          · rw [hxy.1] at hQ; rw [← l3]; refine hQ _ ?_; simp [DataW.weights, DataW.weightsEach, Tryd.underlying40, Tryd.underlying37]
          · rw [hxy.1] at hQ
            refine hw Q fun n hn => hQ n ?_
            simp [DataW.weights, DataW.weightsEach, Tryd.underlying40, Tryd.underlying37, hn]
          · rw [hxy.2]
            intro p hp
            simp only [List.flatMap_cons, List.flatMap_nil, List.append_nil, List.nil_append] at hp
            exact hpl p hp
    obtain ⟨f, hF⟩ := Deep.choose_lt hel
    have hln : ((List.range len).map f).length = len := by simp
    refine ⟨(List.range len).map f, ⟨some a, cap, by rw [hln], fun i h => ?_⟩, ?_, ?_, fun e he => ?_⟩
    · rw [hln] at h
      have e : ((List.range len).map f)[i]'(by rw [hln]; exact h) = f i := by simp
      rw [e]
      obtain ⟨⟨h1, h2⟩, _⟩ := hF i (by omega)
      exact ⟨⟨a, rfl, h1⟩, h2⟩
    · intro x hx
      rcases List.mem_append.1 hx with hx | hx
      · rw [cellsE] at hx
        simp only [MemPlace.row, List.mem_map, List.mem_range] at hx
        obtain ⟨i, hi, rfl⟩ := hx
        have hm0 : 0 < m := by omega
        have := World.block_lt_of_cell? W _ ((hF 0 hm0).1.1 0 _ rfl)
        have e : ((a.add (0 * 5)).add 0).block = a.block := by unfold Addr.add; repeat (split <;> try rfl)
        rw [e] at this
        exact this
      · obtain ⟨i, hi, hxi⟩ := List.mem_flatMap.1 hx
        exact (hF i (List.mem_range.1 hi)).2.2 x hxi
    · rw [hln]
      have h1 := hR _ (Or.inl rfl)
      have h2 := Nat.mul_le_mul (show len ≤ len + (m - len) by omega) bytesE
      omega
    · obtain ⟨i, hi, rfl⟩ := List.mem_map.1 he
      exact (hF i (by have := List.mem_range.1 hi; omega)).2.1 R fun n hn => hR n (Or.inr (Or.inl (weights_all (List.mem_map.2 ⟨i, hi, rfl⟩) n hn)))
theorem rw_of {x : En} (h : EnIn 140737488351232 x) : Rw x :=
  ⟨⟨h.1.1, h.1.2.1, h.1.2.2.1, Nat.le_trans h.1.2.2.2 (by decide)⟩, fun y hy => ⟨(h.2.1 y hy).1, Nat.le_trans (h.2.1 y hy).2 (by decide)⟩, Nat.le_trans h.2.2 (by decide)⟩
end Go.Proofs.YtabmpngliphdpaaDoor.Oe
