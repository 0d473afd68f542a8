/- A slice of deals that came in. -/
import Derived.Test.YteaanenhefbkjaaDoorRows
import Derived.WalkKit
import Derived.ProofKit
import Derived.OpenShut
import Derived.ChangeSlices
import Derived.Deep.Slices
import Derived.Below
import Derived.SizedLaws
namespace Go.Proofs.YteaanenhefbkjaaDoor.So
set_option linter.unusedVariables false
open Go.ChangeShapes Go.WideShapes Go.ChangeAt Go.RowKit
structure Opv where
  lk : Int
  wh : Int
  am : Int
  cr : Bool
  ys : Bool
instance : Inhabited Opv := ⟨⟨0, 0, 0, false, false⟩⟩
/-- where it lies -/
def At (w : World) (a : Addr) (i : Nat) (o : Opv) : Prop :=
  w.cell? (a.add (i * 5)) = some (.int .i64 o.lk) ∧ w.cell? (a.add (i * 5 + 1)) = some (.int .i64 o.wh) ∧ w.cell? (a.add (i * 5 + 2)) = some (.int .i64 o.am) ∧ w.cell? (a.add (i * 5 + 3)) = some (.bool o.cr) ∧ w.cell? (a.add (i * 5 + 4)) = some (.bool o.ys)
def Opv.Fine (o : Opv) (B : Nat) : Prop := (Lit.int .i64 o.lk).wf = true ∧ (Lit.int .i64 o.wh).wf = true ∧ (Lit.int .i64 o.am).wf = true ∧ True ∧ True
/-- the value is a slice of these; nil, if there are none -/
def Lies (w : World) (v : Value) (z : List Opv) (B : Nat) : Prop :=
  (∃ (o : Option Addr) (cap : Nat), v = .slice o z.length cap ∧ ∀ i (h : i < z.length), ∃ a : Addr, o = some a ∧ At w a i z[i] ∧ z[i].Fine B) ∧ z.length * 32 ≤ B
theorem cellsN : Tryd.prog.cellsOf 47 = 5 := by kernel_rfl
theorem bytes_is : Tryd.prog.bytesOf 47 = 32 := by kernel_rfl
theorem weights_all {H : Type} {P : Program} {e : TypeId} : ∀ {l : List (DataW H)} {d : DataW H}, d ∈ l → ∀ n ∈ d.weights P e, n ∈ DataW.weightsAll P e l
  | [], _, h, _, _ => by cases h
  | x :: l, d, h, n, hn => by
    simp only [DataW.weightsAll, List.mem_append]
    rcases List.mem_cons.1 h with rfl | h
    · exact Or.inl hn
    · exact Or.inr (weights_all h n hn)
set_option maxRecDepth 100000 in
theorem open_so {H : Type} {enc : TypeId × Value → H} {W : World} {b0 : Nat} {r : Reach} {v : Value} {d : DataW H} {ps : List MemPlace} {R : Nat}
    (hval : Value.okWide Tryd.prog W r b0 22 v) (hd : DataW.Trod enc Tryd.prog W 0 (fun _ => true) true 22 v d ps) (hR : ∀ n ∈ d.weights Tryd.prog 22, n ≤ R) :
    ∃ z, Lies W v z R ∧ (∀ x ∈ ps, x.block < W.heap.size) ∧ z.length ≤ R := by
  obtain ⟨a0, len, cap, rfl⟩ := okWide_slice Tryd.underlying22 hval
  obtain ⟨fuel, hf⟩ := hd
  rcases Deep.open_slice Tryd.underlying22 hf with ⟨hcs, hx⟩ | ⟨a, len', cap', m, n, D, Pl, hcs, _, hl, hm, hmm, hx, hel⟩
  · simp only [Prod.mk.injEq] at hx
    obtain ⟨rfl, rfl⟩ := hx
    simp [Value.cells] at hcs
    obtain ⟨rfl, rfl, rfl⟩ := hcs
    exact ⟨[], ⟨⟨Option.none, 0, rfl, fun i h => absurd h (Nat.not_lt_zero _)⟩, by simp⟩, (fun x hx => by simp at hx), Nat.zero_le _⟩
  · simp only [Prod.mk.injEq] at hx
    obtain ⟨rfl, rfl⟩ := hx
    simp [Value.cells] at hcs
    obtain ⟨rfl, rfl, rfl⟩ := hcs
    simp only [if_true] at hmm
    simp only [DataW.weights, Tryd.underlying22, List.mem_cons, List.mem_append, List.length_map, List.length_range] at hR
    have hel : ∀ i, i < m → ∃ o : Opv, At W a i o ∧ (∀ Q, (∀ n ∈ (D i).weights Tryd.prog 47, n ≤ Q) → o.Fine Q) ∧ Pl i = [] := by
      intro i hi
      obtain ⟨cs', h1, h2⟩ := hel i hi
      rw [cellsN] at h1
      obtain ⟨_, hlen, hcell⟩ := World.cells?_some h1
      obtain ⟨xs, q, hq, hxy, _, hxl, hfl⟩ := DataW.trod_struct Tryd.underlying47 h2
      simp only [Deep.add_add] at hcell
      match xs, hxl, cs', hlen with
      | [y0, y1, y2, y3, y4], _, [v0, v1, v2, v3, v4], _ =>
        have g0 : DataW.trod enc Tryd.prog W 0 (fun _ => true) true q 3 [v0] = some y0 := hfl 0 _ rfl
        have g1 : DataW.trod enc Tryd.prog W 0 (fun _ => true) true q 3 [v1] = some y1 := hfl 1 _ rfl
        have g2 : DataW.trod enc Tryd.prog W 0 (fun _ => true) true q 3 [v2] = some y2 := hfl 2 _ rfl
        have g3 : DataW.trod enc Tryd.prog W 0 (fun _ => true) true q 4 [v3] = some y3 := hfl 3 _ rfl
        have g4 : DataW.trod enc Tryd.prog W 0 (fun _ => true) true q 4 [v4] = some y4 := hfl 4 _ rfl
        obtain ⟨n0, e0, rfl, w0⟩ := DataW.trod_int Tryd.underlying3 g0
        obtain ⟨n1, e1, rfl, w1⟩ := DataW.trod_int Tryd.underlying3 g1
        obtain ⟨n2, e2, rfl, w2⟩ := DataW.trod_int Tryd.underlying3 g2
        obtain ⟨n3, e3, rfl⟩ := DataW.trod_bool Tryd.underlying4 g3
        obtain ⟨n4, e4, rfl⟩ := DataW.trod_bool Tryd.underlying4 g4
        cases e0; cases e1; cases e2; cases e3; cases e4
        simp only [Prod.mk.injEq] at hxy
        refine ⟨⟨n0, n1, n2, n3, n4⟩, ⟨?_, ?_, ?_, ?_, ?_⟩, fun Q hQ => ⟨?_, ?_, ?_, ?_, ?_⟩, ?_⟩
        · exact hcell 0 (by decide)
        · exact hcell 1 (by decide)
        · exact hcell 2 (by decide)
        · exact hcell 3 (by decide)
        · exact hcell 4 (by decide)
        · exact w0
        · exact w1
        · exact w2
        · trivial
        · trivial
        · rw [hxy.2]; rfl
    obtain ⟨f, hF⟩ := Deep.choose_lt hel
    have hln : ((List.range len).map f).length = len := by simp
    have hbd : len * 32 ≤ R := by
      have h1 := hR _ (Or.inl rfl)
      rw [bytes_is] at h1
      have h2 := Nat.mul_le_mul_right 32 (show len ≤ len + (m - len) by omega)
      omega
    refine ⟨(List.range len).map f, ⟨⟨some a, cap, by rw [hln], fun i h => ?_⟩, by rw [hln]; exact hbd⟩, ?_, ?_⟩
    · rw [hln] at h
      have e : ((List.range len).map f)[i]'(by rw [hln]; exact h) = f i := by simp
      rw [e]
      obtain ⟨h1, h2, h3⟩ := hF i (by omega)
      refine ⟨a, rfl, h1, h2 R fun n hn => hR n (Or.inr (Or.inl ?_))⟩
      exact weights_all (List.mem_map.2 ⟨i, List.mem_range.2 h, rfl⟩) n hn
    · intro x hx
      rcases List.mem_append.1 hx with hx | hx
      · rw [cellsN] at hx
        simp only [MemPlace.row, List.mem_map, List.mem_range] at hx
        obtain ⟨i, hi, rfl⟩ := hx
        have hm0 : 0 < m := by omega
        have := World.block_lt_of_cell? W _ (hF 0 hm0).1.1
        have e : (a.add (0 * 5)).block = a.block := by unfold Addr.add; split <;> rfl
        rw [e] at this
        exact this
      · obtain ⟨i, hi, hxi⟩ := List.mem_flatMap.1 hx
        rw [(hF i (List.mem_range.1 hi)).2.2] at hxi
        cases hxi
    · rw [hln]; omega
theorem at_below {w x : World} {a : Addr} {i : Nat} {o : Opv} {n : Nat} (h : At w a i o) (hn : n = w.heap.size) (hb : Below n w x) : At x a i o := by
  subst hn
  obtain ⟨h0, h1, h2, h3, h4⟩ := h
  exact ⟨(hb.cell (World.block_lt_of_cell? w _ h0)).trans h0, (hb.cell (World.block_lt_of_cell? w _ h1)).trans h1, (hb.cell (World.block_lt_of_cell? w _ h2)).trans h2, (hb.cell (World.block_lt_of_cell? w _ h3)).trans h3, (hb.cell (World.block_lt_of_cell? w _ h4)).trans h4⟩
theorem add_field (a : Addr) (m j : Nat) (hj : 0 < j) : a.add (m + j) = ⟨(a.add m).block, (a.add m).off + j, Option.none⟩ := by
  unfold Addr.add
  rw [if_neg (by omega)]
  split
  · next h => subst h; simp
  · simp [Nat.add_assoc]
end Go.Proofs.YteaanenhefbkjaaDoor.So
