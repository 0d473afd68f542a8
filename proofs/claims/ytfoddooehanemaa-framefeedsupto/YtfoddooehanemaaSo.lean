/- A slice of steps that came in. -/
import Derived.Test.YtfoddooehanemaaRows
import Derived.WalkKit
import Derived.ProofKit
import Derived.OpenShut
import Derived.ChangeSlices
import Derived.Deep.Slices
import Derived.Below
namespace Go.Proofs.Ytfoddooehanemaa.So
set_option linter.unusedVariables false
open Go.ChangeShapes Go.WideShapes Go.ChangeAt Go.RowKit
/-- one step -/
structure Opv where
  k : Int
  two : Bool
  s : ByteArray
instance : Inhabited Opv := ⟨⟨0, false, .empty⟩⟩
/-- where it lies -/
def At (w : World) (a : Addr) (i : Nat) (o : Opv) : Prop :=
  w.cell? (a.add (i * 3)) = some (.int .i64 o.k) ∧ w.cell? (a.add (i * 3 + 1)) = some (.bool o.two) ∧ w.cell? (a.add (i * 3 + 2)) = some (.string o.s)
def Opv.Fine (o : Opv) (B : Nat) : Prop := (Lit.int .i64 o.k).wf = true ∧ o.s.size ≤ B
/-- the value is a slice of these steps; nil, if there are none -/
def Lies (w : World) (v : Value) (z : List Opv) (B : Nat) : Prop :=
  ∃ (o : Option Addr) (cap : Nat), v = .slice o z.length cap ∧ ∀ i (h : i < z.length), ∃ a : Addr, o = some a ∧ At w a i z[i] ∧ z[i].Fine B
theorem cells3 : Try.prog.cellsOf 36 = 3 := by kernel_rfl
theorem bulk_one {H : Type} (d : DataW H) : 1 ≤ Rows.uptoBulk d := by
  match d with
  | .lit (.string _) => simp [Rows.uptoBulk]
  | .lit (.int _ _) => simp [Rows.uptoBulk]
  | .lit (.bool _) => simp [Rows.uptoBulk]
  | .lit l => cases l <;> simp [Rows.uptoBulk]
  | .nil => simp [Rows.uptoBulk]
  | .ptr _ => simp [Rows.uptoBulk]
  | .slice _ _ => simp [Rows.uptoBulk]
  | .agg _ => simp [Rows.uptoBulk]
  | .iface _ _ => simp [Rows.uptoBulk]
  | .map _ => simp [Rows.uptoBulk]
  | .held _ => simp [Rows.uptoBulk]
theorem bulk_len {H : Type} (l : List (DataW H)) : l.length ≤ Rows.uptoBulkAll l := by
  induction l with
  | nil => exact Nat.zero_le _
  | cons d l ih =>
    have := bulk_one d
    simp only [List.length_cons, Rows.uptoBulkAll]; omega
theorem bulk_mem {H : Type} (l : List (DataW H)) (d : DataW H) (h : d ∈ l) : Rows.uptoBulk d ≤ Rows.uptoBulkAll l := by
  induction l with
  | nil => cases h
  | cons e l ih =>
    simp only [Rows.uptoBulkAll]
    rcases List.mem_cons.1 h with rfl | h
    · omega
    · have := ih h; omega
set_option maxRecDepth 100000 in
theorem open_so {H : Type} {enc : TypeId × Value → H} {W : World} {b0 : Nat} {r : Reach} {v : Value} {d : DataW H} {ps : List MemPlace}
    (hval : Value.okWide Try.prog W r b0 22 v) (hd : DataW.Trod enc Try.prog W 0 (fun _ => true) true 22 v d ps) :
    ∃ z, Lies W v z (Rows.uptoBulk d) ∧ (∀ x ∈ ps, x.block < W.heap.size) ∧ z.length ≤ Rows.uptoBulk d := by
  obtain ⟨a0, len, cap, rfl⟩ := okWide_slice Try.underlying22 hval
  obtain ⟨fuel, hf⟩ := hd
  rcases Deep.open_slice Try.underlying22 hf with ⟨hcs, hx⟩ | ⟨a, len', cap', m, n, D, Pl, hcs, _, hl, hm, hmm, hx, hel⟩
  · simp only [Prod.mk.injEq] at hx
    obtain ⟨rfl, rfl⟩ := hx
    simp [Value.cells] at hcs
    obtain ⟨rfl, rfl, rfl⟩ := hcs
    exact ⟨[], ⟨Option.none, 0, rfl, fun i h => absurd h (Nat.not_lt_zero _)⟩, (fun x hx => by simp at hx), Nat.zero_le _⟩
  · simp only [Prod.mk.injEq] at hx
    obtain ⟨rfl, rfl⟩ := hx
    simp [Value.cells] at hcs
    obtain ⟨rfl, rfl, rfl⟩ := hcs
    simp only [if_true] at hmm
    have hel : ∀ i, i < m → ∃ o : Opv, At W a i o ∧ o.Fine (Rows.uptoBulk (D i)) ∧ Pl i = [] := by
      intro i hi
      obtain ⟨cs', h1, h2⟩ := hel i hi
      rw [cells3] at h1
      obtain ⟨_, hlen, hcell⟩ := World.cells?_some h1
      obtain ⟨xs, q, hq, hxy, _, hxl, hfl⟩ := DataW.trod_struct Try.underlying36 h2
      simp only [Deep.add_add] at hcell
      match xs, hxl, cs', hlen with
      | [y0, y1, y2], _, [v0, v1, v2], _ =>
        have g0 : DataW.trod enc Try.prog W 0 (fun _ => true) true q 3 [v0] = some y0 := hfl 0 _ rfl
        have g1 : DataW.trod enc Try.prog W 0 (fun _ => true) true q 4 [v1] = some y1 := hfl 1 _ rfl
        have g2 : DataW.trod enc Try.prog W 0 (fun _ => true) true q 9 [v2] = some y2 := hfl 2 _ rfl
        obtain ⟨n0, e0, rfl, w0⟩ := DataW.trod_int Try.underlying3 g0
        obtain ⟨b1, e1, rfl⟩ := DataW.trod_bool Try.underlying4 g1
        obtain ⟨s2, e2, rfl, w2⟩ := DataW.trod_string Try.underlying9 g2
        cases e0; cases e1; cases e2
        have l2 : s2.data.toList.length = s2.size := by rw [Array.length_toList]; rfl
        simp only [Prod.mk.injEq] at hxy
        have hB : s2.size ≤ Rows.uptoBulk (D i) := by
          rw [hxy.1]
          simp only [List.map_cons, List.map_nil, Rows.uptoBulk, Rows.uptoBulkAll]
          omega
        refine ⟨⟨n0, b1, s2⟩, ⟨?_, ?_, ?_⟩, ⟨w0, hB⟩, ?_⟩
        · exact hcell 0 (by decide)
        · exact hcell 1 (by decide)
        · exact hcell 2 (by decide)
        · rw [hxy.2]; rfl
    obtain ⟨f, hF⟩ := Deep.choose_lt hel
    have hln : ((List.range len).map f).length = len := by simp
    refine ⟨(List.range len).map f, ⟨some a, cap, by rw [hln], fun i h => ?_⟩, ?_, ?_⟩
    · rw [hln] at h
      have e : ((List.range len).map f)[i]'(by rw [hln]; exact h) = f i := by simp
      rw [e]
      obtain ⟨h1, h2, h3⟩ := hF i (by omega)
      refine ⟨a, rfl, h1, ?_⟩
      have hb : Rows.uptoBulk (D i) ≤ Rows.uptoBulk (DataW.slice ((List.range len).map D) ((List.range (m - len)).map fun j => D (len + j))) := by
        have := bulk_mem ((List.range len).map D) (D i) (List.mem_map.2 ⟨i, List.mem_range.2 h, rfl⟩)
        simp only [Rows.uptoBulk]; omega
      exact ⟨h2.1, Nat.le_trans h2.2 hb⟩
    · intro x hx
      rcases List.mem_append.1 hx with hx | hx
      · rw [cells3] at hx
        simp only [MemPlace.row, List.mem_map, List.mem_range] at hx
        obtain ⟨i, hi, rfl⟩ := hx
        have hm0 : 0 < m := by omega
        have := World.block_lt_of_cell? W _ (hF 0 hm0).1.1
        have e : (a.add (0 * 3)).block = a.block := by unfold Addr.add; split <;> rfl
        rw [e] at this
        exact this
      · obtain ⟨i, hi, hxi⟩ := List.mem_flatMap.1 hx
        rw [(hF i (List.mem_range.1 hi)).2.2] at hxi
        cases hxi
    · rw [hln]
      have := bulk_len ((List.range len).map D)
      simp only [List.length_map, List.length_range] at this
      simp only [Rows.uptoBulk]; omega
theorem at_below {w x : World} {a : Addr} {i : Nat} {o : Opv} {n : Nat} (h : At w a i o) (hn : n = w.heap.size) (hb : Below n w x) : At x a i o := by
  subst hn
  obtain ⟨h0, h1, h2⟩ := h
  exact ⟨(hb.cell (World.block_lt_of_cell? w _ h0)).trans h0, (hb.cell (World.block_lt_of_cell? w _ h1)).trans h1, (hb.cell (World.block_lt_of_cell? w _ h2)).trans h2⟩
theorem lies_mono {w : World} {v : Value} {z : List Opv} {B C : Nat} (h : Lies w v z B) (hBC : B ≤ C) : Lies w v z C := by
  obtain ⟨o, cap, e, hc⟩ := h
  refine ⟨o, cap, e, fun i hi => ?_⟩
  obtain ⟨a, ea, h1, p1, p2⟩ := hc i hi
  exact ⟨a, ea, h1, p1, Nat.le_trans p2 hBC⟩
theorem add_field (a : Addr) (m j : Nat) (hj : 0 < j) : a.add (m + j) = ⟨(a.add m).block, (a.add m).off + j, Option.none⟩ := by
  unfold Addr.add
  rw [if_neg (by omega)]
  split
  · next h => subst h; simp
  · simp [Nat.add_assoc]
end Go.Proofs.Ytfoddooehanemaa.So
