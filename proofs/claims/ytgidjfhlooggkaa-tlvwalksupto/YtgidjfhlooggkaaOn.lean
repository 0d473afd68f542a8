/- Nodes as an argument: a tree that can be read. -/
import Derived.Test.YtgidjfhlooggkaaNt
import Derived.OpenShut
import Derived.ChangeSlices
import Derived.Deep.Slices
import Derived.Lib.SmallJoins
namespace Go.Proofs.Ytgidjfhlooggkaa.On
set_option linter.unusedVariables false
set_option linter.unusedSimpArgs false
open Go.ChangeShapes Go.WideShapes Go.ChangeAt Go.RowKit Go.Joins Nt
theorem cellsN : Try.prog.cellsOf 40 = 3 := by kernel_rfl
theorem bulk_one {H : Type} (d : DataW H) : 1 ≤ Rows.uptoBulk d := by
  match d with
  | .lit (.string _) => simp [Rows.uptoBulk]
  | .lit (.int _ _) => simp [Rows.uptoBulk]
  | .lit (.bool _) => simp [Rows.uptoBulk]
  | .lit l => cases l <;> simp [Rows.uptoBulk]
  | .nil => simp [Rows.uptoBulk]
  | .ptr _ => simp [Rows.uptoBulk]
  | .slice _ _ => simp [Rows.uptoBulk]
  | .agg _ => simp [Rows.uptoBulk]
  | .iface _ _ => simp [Rows.uptoBulk]
  | .map _ => simp [Rows.uptoBulk]
  | .held _ => simp [Rows.uptoBulk]
theorem bulk_len {H : Type} (l : List (DataW H)) : l.length ≤ Rows.uptoBulkAll l := by
  induction l with
  | nil => exact Nat.zero_le _
  | cons d l ih =>
    have := bulk_one d
    simp only [List.length_cons, Rows.uptoBulkAll]; omega
theorem bulk_mem {H : Type} (l : List (DataW H)) (d : DataW H) (h : d ∈ l) : Rows.uptoBulk d ≤ Rows.uptoBulkAll l := by
  induction l with
  | nil => cases h
  | cons e l ih =>
    simp only [Rows.uptoBulkAll]
    rcases List.mem_cons.1 h with rfl | h
    · omega
    · have := ih h; omega
instance : Inhabited AT := ⟨.mk 0 .empty (.slice none 0 0) []⟩
theorem rdL_of_at {w : World} : ∀ ts : List AT, (∀ i (h : i < ts.length), Rdn w ts[i].kv ts[i].kids ∧ ts[i].val.size ≤ 1048576 ∧ tagB ts[i].tag) → rdL w ts
  | [], _ => by unfold rdL; trivial
  | .mk t v kv ks :: ts, h => by
    have h0 := h 0 (by simp)
    simp only [List.getElem_cons_zero, AT.kv, AT.kids, AT.val, AT.tag] at h0
    unfold rdL
    refine ⟨⟨h0.1.row, h0.1.kids, h0.2.1, h0.2.2⟩, rdL_of_at ts fun i hi => ?_⟩
    have := h (i + 1) (by simpa using hi)
    simpa using this
section
variable {H : Type} {enc : TypeId × Value → H} {W : World}
set_option maxRecDepth 100000 in
theorem elem_node (n : Nat) (cs : List Value) (D : DataW H) (Pl : List MemPlace) (h : DataW.trod enc Try.prog W 0 (fun _ => true) true n 40 cs = some (D, Pl)) (hlen : cs.length = 3) :
    ∃ (tag : Int) (val : ByteArray) (v : Value) (q : Nat) (d : DataW H) (p : List MemPlace), cs = [.int .i64 tag, .string val, v] ∧ tagB tag ∧ DataW.trod enc Try.prog W 0 (fun _ => true) true q 23 [v] = some (d, p) ∧ val.size + Rows.uptoBulk d < Rows.uptoBulk D ∧ Pl = p := by
  obtain ⟨xs, q, hq, hxy, _, hxl, hfl⟩ := DataW.trod_struct Try.underlying40 h
  match xs, hxl, cs, hlen with
  | [y0, y1, y2], _, [v0, v1, v2], _ =>
    have g0 : DataW.trod enc Try.prog W 0 (fun _ => true) true q 3 [v0] = some y0 := hfl 0 _ rfl
    have g1 : DataW.trod enc Try.prog W 0 (fun _ => true) true q 9 [v1] = some y1 := hfl 1 _ rfl
    have g2 : DataW.trod enc Try.prog W 0 (fun _ => true) true q 23 [v2] = some y2 := hfl 2 _ rfl
    obtain ⟨n0, e0, rfl, w0⟩ := DataW.trod_int Try.underlying3 g0
    obtain ⟨s1, e1, rfl, w1⟩ := DataW.trod_string Try.underlying9 g1
    cases e0; cases e1
    obtain ⟨d2, p2⟩ := y2
    simp only [Prod.mk.injEq] at hxy
    have l1 : s1.data.toList.length = s1.size := by rw [Array.length_toList]; rfl
    have tb : tagB n0 := by
      have := w0
      simp [Lit.wf] at this
      have e1 : IntKind.i64.min = -9223372036854775808 := by decide
      have e2 : IntKind.i64.max = 9223372036854775807 := by decide
      unfold tagB
      omega
    refine ⟨n0, s1, v2, q, d2, p2, rfl, tb, g2, ?_, ?_⟩
    · rw [hxy.1]
      simp only [List.map_cons, List.map_nil, Rows.uptoBulk, Rows.uptoBulkAll]
      omega
    · rw [hxy.2]; simp
def Opens (enc : TypeId × Value → H) (W : World) (B : Nat) : Prop := ∀ (fuel : Nat) (v : Value) (d : DataW H) (ps : List MemPlace), DataW.trod enc Try.prog W 0 (fun _ => true) true fuel 23 [v] = some (d, ps) → Rows.uptoBulk d ≤ B →
    (∃ ts, Rdn W v ts) ∧ ∀ x ∈ ps, x.block < W.heap.size
set_option maxRecDepth 100000 in
theorem rows {B : Nat} (hB : B ≤ 1048576) (ih : ∀ C, C < B → Opens enc W C) : Opens enc W B := by
  intro fuel v d ps h hb
  rcases Deep.open_slice Try.underlying23 h with ⟨hcs, hx⟩ | ⟨a, len, cap, m, n, D, Pl, hcs, _, hl, hm, hmm, hx, hel⟩
  · simp only [Prod.mk.injEq] at hx
    obtain ⟨rfl, rfl⟩ := hx
    simp only [List.cons.injEq, and_true] at hcs
    subst hcs
    exact ⟨⟨[], (own_nil W 0).reads⟩, fun x hx => by simp at hx⟩
  · simp only [Prod.mk.injEq] at hx
    obtain ⟨rfl, rfl⟩ := hx
    simp only [List.cons.injEq, and_true] at hcs
    subst hcs
    simp only [if_true] at hmm
    subst hmm
    simp only [Rows.uptoBulk] at hb
    have hbD : ∀ i, i < m → Rows.uptoBulk (D i) < B := fun i hi => by
      by_cases hil : i < len
      · have := bulk_mem ((List.range len).map D) (D i) (List.mem_map.2 ⟨i, List.mem_range.2 hil, rfl⟩)
        omega
      · have := bulk_mem ((List.range (m - len)).map fun j => D (len + j)) (D i) (List.mem_map.2 ⟨i - len, List.mem_range.2 (by omega), by rw [show len + (i - len) = i by omega]⟩)
        omega
    have hel2 : ∀ i, i < m → ∃ t : AT, (W.cell? (a.add (i * 3)) = some (.int .i64 t.tag) ∧ W.cell? ⟨(a.add (i * 3)).block, (a.add (i * 3)).off + 1, none⟩ = some (.string t.val) ∧ W.cell? ⟨(a.add (i * 3)).block, (a.add (i * 3)).off + 2, none⟩ = some t.kv) ∧ (Rdn W t.kv t.kids ∧ t.val.size ≤ 1048576 ∧ tagB t.tag) ∧ (∀ x ∈ Pl i, x.block < W.heap.size) ∧ a.block < W.heap.size := by
      intro i hi
      obtain ⟨cs', h1, h2⟩ := hel i hi
      rw [cellsN] at h1
      obtain ⟨_, hlen, hcell⟩ := World.cells?_some h1
      obtain ⟨tag, val, v2, q, d2, p2, rfl, htb, h3, h4, rfl⟩ := elem_node n cs' (D i) (Pl i) h2 hlen
      have hbi := hbD i hi
      obtain ⟨⟨kids, hk⟩, k3⟩ := ih (Rows.uptoBulk d2) (by omega) q v2 d2 (Pl i) h3 (Nat.le_refl _)
      have c0 := hcell 0 (by decide)
      have c1 := hcell 1 (by decide)
      have c2 := hcell 2 (by decide)
      refine ⟨.mk tag val v2 kids, ⟨c0, c1, c2⟩, ⟨hk, by simp only [AT.val]; omega, htb⟩, k3, ?_⟩
      have := World.block_lt_of_cell? W _ c0
      have e : ((a.add (i * 3)).add 0).block = a.block := by
        show (a.add (i * 3)).block = a.block
        unfold Addr.add; split <;> rfl
      rw [e] at this
      exact this
    obtain ⟨f, hF⟩ := Deep.choose_lt hel2
    have hln : ((List.range len).map f).length = len := by simp
    have hat : ∀ i (h : i < ((List.range len).map f).length), ((List.range len).map f)[i] = f i := fun i h => by simp
    refine ⟨⟨(List.range len).map f, ⟨some a, m, by rw [hln], ?_, fun i hi => ⟨a, rfl, ?_⟩⟩, rdL_of_at _ fun i hi => ?_⟩, ?_⟩
    · rw [hln]
      have := bulk_len ((List.range len).map D)
      simp only [List.length_map, List.length_range] at this
      omega
    · rw [hat i hi]
      exact (hF i (by rw [hln] at hi; omega)).1
    · rw [hat i hi]
      exact (hF i (by rw [hln] at hi; omega)).2.1
    · intro x hx
      rcases List.mem_append.1 hx with hx | hx
      · rw [cellsN] at hx
        simp only [MemPlace.row, List.mem_map, List.mem_range] at hx
        obtain ⟨i, hi, rfl⟩ := hx
        exact (hF 0 (by omega)).2.2.2
      · obtain ⟨i, hi, hxi⟩ := List.mem_flatMap.1 hx
        exact (hF i (List.mem_range.1 hi)).2.2.1 x hxi
theorem nodes : ∀ B, B ≤ 1048576 → Opens enc W B := by
  intro B
  induction B using Nat.strongRecOn with
  | ind B ih => exact fun hB => rows hB fun C hC => ih C hC (by omega)
set_option maxRecDepth 100000 in
theorem open_nodes {b0 : Nat} {r : Reach} {v : Value} {d : DataW H} {ps : List MemPlace} (hval : Value.okWide Try.prog W r b0 23 v) (hd : DataW.Trod enc Try.prog W 0 (fun _ => true) true 23 v d ps) (hb : Rows.uptoBulk d ≤ 1048576) : ∃ ts, Rdn W v ts ∧ ∀ x ∈ ps, x.block < W.heap.size := by
  obtain ⟨a0, len, cap, rfl⟩ := okWide_slice Try.underlying23 hval
  obtain ⟨fuel, hf⟩ := hd
  obtain ⟨⟨ts, h1⟩, h2⟩ := nodes _ hb fuel _ d ps hf (Nat.le_refl _)
  exact ⟨ts, h1, h2⟩
end
end Go.Proofs.Ytgidjfhlooggkaa.On
