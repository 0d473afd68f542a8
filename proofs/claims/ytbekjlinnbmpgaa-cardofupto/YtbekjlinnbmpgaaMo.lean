/- A message as an argument: its fields as a tree. -/
import Derived.Test.YtbekjlinnbmpgaaLl
import Derived.OpenShut
import Derived.ChangeSlices
import Derived.Deep.Slices
import Derived.Lib.SmallJoins
namespace Go.Proofs.Ytbekjlinnbmpgaa.Mo
set_option linter.unusedVariables false
open Go.ChangeShapes Go.WideShapes Go.ChangeAt Go.RowKit Go.Joins Nd
theorem cellsS : Try.prog.cellsOf 9 = 1 := by kernel_rfl
theorem cellsM : Try.prog.cellsOf 24 = 2 := by kernel_rfl
theorem cellsF : Try.prog.cellsOf 32 = 3 := by kernel_rfl
theorem cellsN : Try.prog.cellsOf 59 = 3 := by kernel_rfl
theorem cellsL : Try.prog.cellsOf 22 = 1 := by kernel_rfl
theorem bulk_one {H : Type} (d : DataW H) : 1 ≤ Rows.uptoBulk d := by
  match d with
  | .lit (.string _) => simp [Rows.uptoBulk]
  | .lit (.int _ _) => simp [Rows.uptoBulk]
  | .lit (.bool _) => simp [Rows.uptoBulk]
  | .lit l => cases l <;> simp [Rows.uptoBulk]
  | .nil => simp [Rows.uptoBulk]
  | .ptr _ => simp [Rows.uptoBulk]
  | .slice _ _ => simp [Rows.uptoBulk]
  | .agg _ => simp [Rows.uptoBulk]
  | .iface _ _ => simp [Rows.uptoBulk]
  | .map _ => simp [Rows.uptoBulk]
  | .held _ => simp [Rows.uptoBulk]
theorem bulk_len {H : Type} (l : List (DataW H)) : l.length ≤ Rows.uptoBulkAll l := by
  induction l with
  | nil => exact Nat.zero_le _
  | cons d l ih =>
    have := bulk_one d
    simp only [List.length_cons, Rows.uptoBulkAll]; omega
theorem bulk_mem {H : Type} (l : List (DataW H)) (d : DataW H) (h : d ∈ l) : Rows.uptoBulk d ≤ Rows.uptoBulkAll l := by
  induction l with
  | nil => cases h
  | cons e l ih =>
    simp only [Rows.uptoBulkAll]
    rcases List.mem_cons.1 h with rfl | h
    · omega
    · have := ih h; omega
theorem laid_of {w : World} {a : Addr} : ∀ (ts : List Tr) (i : Nat), (∀ j (h : j < ts.length), laid w a (i + j) [ts[j]]) → laid w a i ts
  | [], _, _ => by unfold laid; trivial
  | .mk tag val kids :: ts, i, h => by
    have h0 := h 0 (by simp)
    simp only [List.getElem_cons_zero, Nat.add_zero] at h0
    unfold laid at h0 ⊢
    refine ⟨h0.1, laid_of ts (i + 1) fun j hj => ?_⟩
    have := h (j + 1) (by simpa using hj)
    rw [show i + (j + 1) = i + 1 + j by omega] at this
    simpa using this
instance : Inhabited Tr := ⟨.mk 0 .empty []⟩
section
variable {H : Type} {enc : TypeId × Value → H} {W : World}
/-- what a field and a node are alike in -/
def Elem (enc : TypeId × Value → H) (W : World) (et : TypeId) : Prop := ∀ (n : Nat) (cs : List Value) (D : DataW H) (Pl : List MemPlace), DataW.trod enc Try.prog W 0 (fun _ => true) true n et cs = some (D, Pl) → cs.length = 3 →
    ∃ (tag : Int) (val : ByteArray) (v : Value) (q : Nat) (d : DataW H) (p : List MemPlace), cs = [.int .i64 tag, .string val, v] ∧ DataW.trod enc Try.prog W 0 (fun _ => true) true q 30 [v] = some (d, p) ∧ val.size + Rows.uptoBulk d < Rows.uptoBulk D ∧ Pl = p
theorem elem_node : Elem enc W 59 := by
  intro n cs D Pl h hlen
  obtain ⟨xs, q, hq, hxy, _, hxl, hfl⟩ := DataW.trod_struct Try.underlying59 h
  match xs, hxl, cs, hlen with
  | [y0, y1, y2], _, [v0, v1, v2], _ =>
    have g0 : DataW.trod enc Try.prog W 0 (fun _ => true) true q 3 [v0] = some y0 := hfl 0 _ rfl
    have g1 : DataW.trod enc Try.prog W 0 (fun _ => true) true q 9 [v1] = some y1 := hfl 1 _ rfl
    have g2 : DataW.trod enc Try.prog W 0 (fun _ => true) true q 30 [v2] = some y2 := hfl 2 _ rfl
    obtain ⟨n0, e0, rfl, w0⟩ := DataW.trod_int Try.underlying3 g0
    obtain ⟨s1, e1, rfl, w1⟩ := DataW.trod_string Try.underlying9 g1
    cases e0; cases e1
    obtain ⟨d2, p2⟩ := y2
    simp only [Prod.mk.injEq] at hxy
    have l1 : s1.data.toList.length = s1.size := by rw [Array.length_toList]; rfl
    refine ⟨n0, s1, v2, q, d2, p2, rfl, g2, ?_, ?_⟩
    · rw [hxy.1]
      simp only [List.map_cons, List.map_nil, Rows.uptoBulk, Rows.uptoBulkAll]
      omega
    · rw [hxy.2]; simp
theorem elem_field : Elem enc W 32 := by
  intro n cs D Pl h hlen
  obtain ⟨xs, q, hq, hxy, _, hxl, hfl⟩ := DataW.trod_struct Try.underlying32 h
  match xs, hxl, cs, hlen with
  | [y0, y1, y2], _, [v0, v1, v2], _ =>
    have g0 : DataW.trod enc Try.prog W 0 (fun _ => true) true q 3 [v0] = some y0 := hfl 0 _ rfl
    have g1 : DataW.trod enc Try.prog W 0 (fun _ => true) true q 9 [v1] = some y1 := hfl 1 _ rfl
    have g2 : DataW.trod enc Try.prog W 0 (fun _ => true) true q 30 [v2] = some y2 := hfl 2 _ rfl
    obtain ⟨n0, e0, rfl, w0⟩ := DataW.trod_int Try.underlying3 g0
    obtain ⟨s1, e1, rfl, w1⟩ := DataW.trod_string Try.underlying9 g1
    cases e0; cases e1
    obtain ⟨d2, p2⟩ := y2
    simp only [Prod.mk.injEq] at hxy
    have l1 : s1.data.toList.length = s1.size := by rw [Array.length_toList]; rfl
    refine ⟨n0, s1, v2, q, d2, p2, rfl, g2, ?_, ?_⟩
    · rw [hxy.1]
      simp only [List.map_cons, List.map_nil, Rows.uptoBulk, Rows.uptoBulkAll]
      omega
    · rw [hxy.2]; simp
def Opens (enc : TypeId × Value → H) (W : World) (st : TypeId) (B : Nat) : Prop := ∀ (fuel : Nat) (v : Value) (d : DataW H) (ps : List MemPlace), DataW.trod enc Try.prog W 0 (fun _ => true) true fuel st [v] = some (d, ps) → Rows.uptoBulk d ≤ B →
    (∃ ts, Lien W v ts) ∧ ∀ x ∈ ps, x.block < W.heap.size
theorem rows {st et : TypeId} (hu : Try.prog.underlying st = some (.slice et)) (hc3 : Try.prog.cellsOf et = 3) (he : Elem enc W et) {B : Nat} (hB : B ≤ 1048576) (ih : ∀ C, C < B → Opens enc W 30 C) : Opens enc W st B := by
  intro fuel v d ps h hb
  rcases Deep.open_slice hu h with ⟨hcs, hx⟩ | ⟨a, len, cap, m, n, D, Pl, hcs, _, hl, hm, hmm, hx, hel⟩
  · simp only [Prod.mk.injEq] at hx
    obtain ⟨rfl, rfl⟩ := hx
    simp only [List.cons.injEq, and_true] at hcs
    subst hcs
    exact ⟨⟨[], none, 0, rfl, by simp, fun h => absurd rfl h⟩, fun x hx => by simp at hx⟩
  · simp only [Prod.mk.injEq] at hx
    obtain ⟨rfl, rfl⟩ := hx
    simp only [List.cons.injEq, and_true] at hcs
    subst hcs
    simp only [if_true] at hmm
    subst hmm
    simp only [Rows.uptoBulk] at hb
    have hbD : ∀ i, i < m → Rows.uptoBulk (D i) < B := fun i hi => by
      by_cases hil : i < len
      · have := bulk_mem ((List.range len).map D) (D i) (List.mem_map.2 ⟨i, List.mem_range.2 hil, rfl⟩)
        omega
      · have := bulk_mem ((List.range (m - len)).map fun j => D (len + j)) (D i) (List.mem_map.2 ⟨i - len, List.mem_range.2 (by omega), by rw [show len + (i - len) = i by omega]⟩)
        omega
    have hel2 : ∀ i, i < m → ∃ t : Tr, laid W a i [t] ∧ (∀ x ∈ Pl i, x.block < W.heap.size) ∧ a.block < W.heap.size := by
      intro i hi
      obtain ⟨cs', h1, h2⟩ := hel i hi
      rw [hc3] at h1
      obtain ⟨_, hlen, hcell⟩ := World.cells?_some h1
      obtain ⟨tag, val, v2, q, d2, p2, rfl, h3, h4, rfl⟩ := he n cs' (D i) (Pl i) h2 hlen
      have hbi := hbD i hi
      obtain ⟨⟨kids, o, kc, rfl, k1, k2⟩, k3⟩ := ih (Rows.uptoBulk d2) (by omega) q v2 d2 (Pl i) h3 (Nat.le_refl _)
      have c0 := hcell 0 (by decide)
      have c1 := hcell 1 (by decide)
      have c2 := hcell 2 (by decide)
      refine ⟨.mk tag val kids, ?_, k3, ?_⟩
      · unfold laid
        refine ⟨⟨o, kc, c0, c1, c2, by omega, k1, k2⟩, ?_⟩
        unfold laid; trivial
      · have := World.block_lt_of_cell? W _ c0
        have e : ((a.add (i * 3)).add 0).block = a.block := by
          show (a.add (i * 3)).block = a.block
          unfold Addr.add; split <;> rfl
        rw [e] at this
        exact this
    obtain ⟨f, hF⟩ := Deep.choose_lt hel2
    have hln : ((List.range len).map f).length = len := by simp
    refine ⟨⟨(List.range len).map f, some a, m, by rw [hln], ?_, fun _ => ⟨a, rfl, laid_of _ 0 fun j hj => ?_⟩⟩, ?_⟩
    · rw [hln]
      have := bulk_len ((List.range len).map D)
      simp only [List.length_map, List.length_range] at this
      omega
    · have hj' : j < len := by rw [hln] at hj; exact hj
      have e : ((List.range len).map f)[j]'hj = f j := by simp
      rw [e, Nat.zero_add]
      exact (hF j (by omega)).1
    · intro x hx
      rcases List.mem_append.1 hx with hx | hx
      · rw [hc3] at hx
        simp only [MemPlace.row, List.mem_map, List.mem_range] at hx
        obtain ⟨i, hi, rfl⟩ := hx
        exact (hF 0 (by omega)).2.2
      · obtain ⟨i, hi, hxi⟩ := List.mem_flatMap.1 hx
        exact (hF i (List.mem_range.1 hi)).2.1 x hxi
theorem nodes : ∀ B, B ≤ 1048576 → Opens enc W 30 B := by
  intro B
  induction B using Nat.strongRecOn with
  | ind B ih => exact fun hB => rows Try.underlying30 cellsN elem_node hB fun C hC => ih C hC (by omega)
theorem fields (B : Nat) (hB : B ≤ 1048576) : Opens enc W 22 B :=
  rows Try.underlying22 cellsF elem_field hB fun C hC => nodes C (by omega)
theorem two_of {cs : Array Value} (h : cs.size = 2) : ∃ a b, cs = #[a, b] := by
  obtain ⟨l⟩ := cs
  match l, h with
  | [a, b], _ => exact ⟨a, b, rfl⟩
theorem open_msg {b0 : Nat} {r : Reach} {v : Value} {d : DataW H} {ps : List MemPlace}
    (hval : Value.okWide Try.prog W r b0 24 v) (hd : DataW.Trod enc Try.prog W 0 (fun _ => true) true 24 v d ps) (hb : Rows.uptoBulk d ≤ 1048576) :
    ∃ (mti : ByteArray) (vf : Value) (ts : List Tr), v = .agg #[.string mti, vf] ∧ Lien W vf ts ∧ mti.size ≤ 1048576 ∧ ∀ x ∈ ps, x.block < W.heap.size := by
  obtain ⟨cs, rfl, hsz⟩ := okWide_struct Try.underlying24 hval
  rw [cellsM] at hsz
  obtain ⟨c0, c1, rfl⟩ := two_of hsz
  obtain ⟨fuel, hf⟩ := hd
  obtain ⟨xs, q, hq, hxy, _, hxl, hfl⟩ := DataW.trod_struct Try.underlying24 hf
  match xs, hxl with
  | [y0, y1], _ =>
    have g0 : DataW.trod enc Try.prog W 0 (fun _ => true) true q 9 [c0] = some y0 := hfl 0 _ rfl
    have g1 : DataW.trod enc Try.prog W 0 (fun _ => true) true q 22 [c1] = some y1 := hfl 1 _ rfl
    obtain ⟨s0, e0, rfl, w0⟩ := DataW.trod_string Try.underlying9 g0
    cases e0
    obtain ⟨d1, p1⟩ := y1
    simp only [Prod.mk.injEq] at hxy
    have l0 : s0.data.toList.length = s0.size := by rw [Array.length_toList]; rfl
    have hB : s0.size + Rows.uptoBulk d1 < Rows.uptoBulk d := by
      rw [hxy.1]
      simp only [List.map_cons, List.map_nil, Rows.uptoBulk, Rows.uptoBulkAll]
      omega
    obtain ⟨⟨ts, ht⟩, hp⟩ := fields (Rows.uptoBulk d1) (by omega) q c1 d1 p1 g1 (Nat.le_refl _)
    refine ⟨s0, c1, ts, rfl, ht, by omega, fun x hx => hp x ?_⟩
    rw [hxy.2] at hx
    simpa using hx
end
end Go.Proofs.Ytbekjlinnbmpgaa.Mo
