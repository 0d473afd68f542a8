import Derived.Test.YtpifebapodfeaaaGreatQ21
import Derived.Test.YtpifebapodfeaaaGreatRows
import Derived.WalkKit
import Derived.ProofKit
import Derived.OpenShut
import Derived.ChangeSlices
import Derived.Deep.Slices
import Derived.Below
/- Rows of slots, side by side. -/
namespace Go.Proofs.YtpifebapodfeaaaGreat.Dp
set_option linter.unusedVariables false
open Go.RowKit Pla Cb Sm Wd Nw Bk Eb Et Cc Ch Pm Fp Sp Pe Se Tg Sd Sq Sr Dd De Rg Df Wk Sx Sy Dg Dh Sw Di Dj Dk Dl Dm
theorem infoA : (Tryz.prog.info? 26).map (fun i => (i.zero, i.size, i.bytes)) = some (some (.pointer Option.none), 1, 8) := by kernel_rfl
theorem infoB : (Tryz.prog.info? 30).map (fun i => (i.zero, i.size, i.bytes)) = some (some (.pointer Option.none), 1, 8) := by kernel_rfl
theorem slotsA_below {a w : World} {b d n : Nat} {f : Nat → Option Held} (h : Below a.heap.size a w) (hS : Slots a b d n f) : Slots w b d n f := slots_fl (L := []) (FL.of_below h) (fun k hk => by cases hk) hS (by simp) (by simp)
structure Quad where
  b1 : Nat
  d1 : Nat
  b2 : Nat
  d2 : Nat
  n : Nat
def Quad.L (q : Quad) : List Nat := [q.b1, q.d1, q.b2, q.d2]
def ptr (b : Nat) : Value := .pointer (some ⟨b, 0, Option.none⟩)
def rowA (q : Nat → Quad) (j : Nat) : List Value := (List.range j).map fun i => ptr (q i).b1
def rowB (q : Nat → Quad) (j : Nat) : List Value := (List.range j).map fun i => ptr (q i).b2
structure Has2 (B : Nat) (w : World) (va vb : Value) (j : Nat) (q : Nat → Quad) (fs : Nat → Nat → Option Held) : Prop where
  a : w.ownsRow B 26 1 va j (rowA q j)
  b : w.ownsRow B 30 1 vb j (rowB q j)
  syn : ∀ i, i < j → Syn w (q i).b1 (q i).d1 (q i).b2 (q i).d2 (q i).n (fs i)
  apart : ∀ i k, i < j → k < j → i ≠ k → ∀ x ∈ (q i).L, x ∉ (q k).L
  far : ∀ i, i < j → ∀ x ∈ (q i).L, B ≤ x
theorem own_fl {L : List Nat} {a w : World} {B e n : Nat} {v : Value} {xs : List Value} (h : a.ownsRow B e 1 v n xs) (hF : FL L a w) (hn : ∀ k, v.ownBlock = some k → k ∉ L) : w.ownsRow B e 1 v n xs := by
  refine ⟨h.1, ?_⟩
  rcases h.2 with h0 | ⟨g, cap, cur, hv, hb, hg, r⟩
  · exact .inl h0
  · exact .inr ⟨g, cap, cur, hv, hb, hF.keep hg (hn g (by rw [hv]; rfl)), r⟩
theorem own_block {w : World} {B e n k : Nat} {v : Value} {xs : List Value} (h : w.ownsRow B e 1 v n xs) (hk : v.ownBlock = some k) : B ≤ k ∧ ∃ cur, w.heap[k]? = some (.cells cur e) := by
  rcases h.2 with ⟨rfl, _⟩ | ⟨g, cap, cur, rfl, hb, hg, r⟩
  · cases hk
  · have : g = k := by simpa [Value.ownBlock] using hk
    subst this
    exact ⟨hb, cur, hg⟩
theorem own_cells {w : World} {B e n : Nat} {v : Value} {xs : List Value} (h : w.ownsRow B e 1 v n xs) (hn : 0 < n) : ∃ g cap, v = .slice (some ⟨g, 0, Option.none⟩) n cap ∧ ∀ i, i < n → w.cell? ⟨g, i, Option.none⟩ = xs[i]? := by
  rcases h.2 with ⟨_, h0⟩ | ⟨g, cap, cur, hv, hb, hg, h1, h2, h3, h4⟩
  · omega
  · refine ⟨g, cap, hv, fun i hi => ?_⟩
    rw [cell_of_row w g i _ e _ hg, ← h4, List.getElem?_take_of_lt (by omega)]
    simp
theorem own_at {w : World} {B e n g cap : Nat} {xs : List Value} (h : w.ownsRow B e 1 (.slice (some ⟨g, 0, Option.none⟩) n cap) n xs) (i : Nat) (hi : i < n) : w.cell? ⟨g, i, Option.none⟩ = xs[i]? := by
  obtain ⟨g', cap', e, hc⟩ := own_cells h (by omega)
  cases e
  exact hc i hi
theorem rowA_get (q : Nat → Quad) (j i : Nat) (h : i < j) : (rowA q j)[i]? = some (ptr (q i).b1) := by
  simp [rowA, h]
theorem rowB_get (q : Nat → Quad) (j i : Nat) (h : i < j) : (rowB q j)[i]? = some (ptr (q i).b2) := by
  simp [rowB, h]
/-- the types of the four blocks -/
theorem syn_type {w : World} {b1 d1 b2 d2 n k : Nat} {f : Nat → Option Held} {A : Array Value} {t : TypeId} (hS : Syn w b1 d1 b2 d2 n f) (h : w.heap[k]? = some (.cells A t)) (ht : t = 26 ∨ t = 30) : k ∉ [b1, d1, b2, d2] := by
  obtain ⟨⟨hm, _, _, A1, hr⟩, ⟨gm, _, _, B1, gr⟩⟩ := hS
  simp only [List.mem_cons, List.not_mem_nil, or_false, not_or]
  rcases ht with rfl | rfl
  · exact ⟨ne_of_type h hm (by decide), ne_of_type h hr.2.1 (by decide), ne_of_type h gm (by decide), ne_of_type h gr.2.1 (by decide)⟩
  · exact ⟨ne_of_type h hm (by decide), ne_of_type h hr.2.1 (by decide), ne_of_type h gm (by decide), ne_of_type h gr.2.1 (by decide)⟩
theorem Has2.fl {L : List Nat} {B j : Nat} {w y : World} {va vb : Value} {q : Nat → Quad} {fs : Nat → Nat → Option Held} (H : Has2 B w va vb j q fs) (hF : FL L w y) (hL : Lt w L) (hq : ∀ i, i < j → ∀ x ∈ (q i).L, x ∉ L)
    (ha : ∀ k, va.ownBlock = some k → k ∉ L) (hb : ∀ k, vb.ownBlock = some k → k ∉ L) : Has2 B y va vb j q fs :=
  ⟨own_fl H.a hF ha, own_fl H.b hF hb, fun i hi => syn_fl (H.syn i hi) hF hL (hq i hi _ (by simp [Quad.L])) (hq i hi _ (by simp [Quad.L])) (hq i hi _ (by simp [Quad.L])) (hq i hi _ (by simp [Quad.L])), H.apart, H.far⟩
theorem Has2.below {B j : Nat} {w y : World} {va vb : Value} {q : Nat → Quad} {fs : Nat → Nat → Option Held} (H : Has2 B w va vb j q fs) (h : Below w.heap.size w y) : Has2 B y va vb j q fs :=
  H.fl (L := []) (FL.of_below h) (fun k hk => by cases hk) (fun _ _ _ _ => by simp) (fun _ _ => by simp) (fun _ _ => by simp)
def up2 (fs : Nat → Nat → Option Held) (p : Nat) (f : Nat → Option Held) : Nat → Nat → Option Held := fun i => if i = p then f else fs i
/-- behind a step on one of them -/
theorem Has2.step {B j p : Nat} {w y : World} {va vb : Value} {q : Nat → Quad} {fs : Nat → Nat → Option Held} (H : Has2 B w va vb j q fs) (hp : p < j) {f : Nat → Option Held}
    (hS : Syn y (q p).b1 (q p).d1 (q p).b2 (q p).d2 (q p).n f) (hF : FL (q p).L w y) : Has2 B y va vb j q (up2 fs p f) := by
  refine ⟨own_fl H.a hF fun k hk => ?_, own_fl H.b hF fun k hk => ?_, fun i hi => ?_, H.apart, H.far⟩
  · obtain ⟨_, cur, hc⟩ := own_block H.a hk
    exact syn_type (H.syn p hp) hc (.inl rfl)
  · obtain ⟨_, cur, hc⟩ := own_block H.b hk
    exact syn_type (H.syn p hp) hc (.inr rfl)
  · by_cases e : i = p
    · subst e; simp only [up2, if_true]; exact hS
    · simp only [up2, if_neg e]
      have ha := H.apart i p hi hp e
      exact syn_fl (H.syn i hi) hF (syn_lt (H.syn p hp)) (ha _ (by simp [Quad.L])) (ha _ (by simp [Quad.L])) (ha _ (by simp [Quad.L])) (ha _ (by simp [Quad.L]))
theorem Has2.step_below {B j p : Nat} {w y : World} {va vb : Value} {q : Nat → Quad} {fs : Nat → Nat → Option Held} (H : Has2 B w va vb j q fs) (hp : p < j) (hF : FL (q p).L w y) (hB : B ≤ w.heap.size) : Below B w y :=
  hF.below (H.far p hp) hB
theorem Has2.cellA {B p g cap j : Nat} {w : World} {vb : Value} {q : Nat → Quad} {fs : Nat → Nat → Option Held} (H : Has2 B w (.slice (some ⟨g, 0, Option.none⟩) j cap) vb j q fs) (hp : p < j) : w.cell? ⟨g, p, Option.none⟩ = some (.pointer (some ⟨(q p).b1, 0, Option.none⟩)) := (own_at H.a p hp).trans (rowA_get q j p hp)
theorem Has2.cellB {B p g cap j : Nat} {w : World} {va : Value} {q : Nat → Quad} {fs : Nat → Nat → Option Held} (H : Has2 B w va (.slice (some ⟨g, 0, Option.none⟩) j cap) j q fs) (hp : p < j) : w.cell? ⟨g, p, Option.none⟩ = some (.pointer (some ⟨(q p).b2, 0, Option.none⟩)) := (own_at H.b p hp).trans (rowB_get q j p hp)
theorem Has2.cellL {B p j : Nat} {w : World} {va vb : Value} {q : Nat → Quad} {fs : Nat → Nat → Option Held} (H : Has2 B w va vb j q fs) (hp : p < j) : w.cell? ⟨(q p).b2, 0, Option.none⟩ = some (.slice (some ⟨(q p).d2, 0, Option.none⟩) (q p).n (q p).n) := DMu.cell (H.syn p hp).2.1
theorem Has2.small {B p j : Nat} {w : World} {va vb : Value} {q : Nat → Quad} {fs : Nat → Nat → Option Held} (H : Has2 B w va vb j q fs) (hp : p < j) : (q p).n ≤ 32 := (H.syn p hp).2.2.2.1
theorem up2_id (fs : Nat → Nat → Option Held) (p : Nat) : up2 fs p (fs p) = fs := by
  funext i
  unfold up2
  split
  · next h => rw [h]
  · rfl
theorem Has2.stepA {B j p : Nat} {w y : World} {va vb : Value} {q : Nat → Quad} {fs : Nat → Nat → Option Held} (H : Has2 B w va vb j q fs) (hp : p < j) (hA : Slots y (q p).b1 (q p).d1 (q p).n (fs p)) (g : Fr (q p).b1 (q p).d1 w y) : Has2 B y va vb j q fs := by
  have h := H.step hp (f := fs p) ⟨hA, syn_a (H.syn p hp) hA g⟩ (fl_a g)
  rwa [up2_id] at h
theorem Has2.belowA {B j p : Nat} {w y : World} {va vb : Value} {q : Nat → Quad} {fs : Nat → Nat → Option Held} (H : Has2 B w va vb j q fs) (hp : p < j) (g : Fr (q p).b1 (q p).d1 w y) (hB : B ≤ w.heap.size) : Below B w y :=
  H.step_below hp (fl_a g) hB
theorem fl_grown {w w1 : World} {row : Option Nat} (h : w.grownBy w1 row) : FL row.toList w w1 :=
  ⟨h.os, h.tape, h.output, h.size, fun k hk hn => h.block k hk fun e => hn (by rw [← e]; simp)⟩
theorem own_lt {w : World} {B e n : Nat} {v : Value} {xs : List Value} (h : w.ownsRow B e 1 v n xs) (h1 : e ≠ 117) (h2 : e ≠ 83) : Lt w v.ownBlock.toList := by
  intro k hk
  obtain ⟨_, cur, hc⟩ := own_block h (by simpa using hk)
  exact ⟨cur, e, hc, h1, h2⟩
theorem rowA_succ (q : Nat → Quad) (j : Nat) (x : Quad) : rowA (fun i => if i = j then x else q i) (j + 1) = rowA q j ++ [ptr x.b1] := by
  unfold rowA
  rw [List.range_succ, List.map_append]
  simp only [List.map_cons, List.map_nil, if_true]
  congr 1
  exact List.map_congr_left fun i hi => by rw [if_neg (by have := List.mem_range.1 hi; omega)]
theorem rowB_succ (q : Nat → Quad) (j : Nat) (x : Quad) : rowB (fun i => if i = j then x else q i) (j + 1) = rowB q j ++ [ptr x.b2] := by
  unfold rowB
  rw [List.range_succ, List.map_append]
  simp only [List.map_cons, List.map_nil, if_true]
  congr 1
  exact List.map_congr_left fun i hi => by rw [if_neg (by have := List.mem_range.1 hi; omega)]
/-- the second row stands behind the first one's growing -/
theorem grow_b {B j : Nat} {y w1 : World} {va vb : Value} {q : Nat → Quad} {fs : Nat → Nat → Option Held} (H : Has2 B y va vb j q fs) (g1 : y.grownBy w1 va.ownBlock) : w1.ownsRow B 30 1 vb j (rowB q j) :=
  own_fl H.b (fl_grown g1) fun k hk hm => by
    obtain ⟨_, cur, hc⟩ := own_block H.b hk
    obtain ⟨_, cur', hc'⟩ := own_block H.a (by simpa using hm)
    exact ne_of_type hc hc' (by decide) rfl
theorem grow {B j n b1 d1 b2 d2 : Nat} {wr y w1 w2 : World} {va vb va' vb' : Value} {q : Nat → Quad} {fs : Nat → Nat → Option Held} {o o' : Obj} (H : Has2 B wr va vb j q fs) (hB : B ≤ wr.heap.size) (BY : Below wr.heap.size wr y)
    (hA : Slots y b1 d1 n emp) (hD : DSlots y b2 d2 n emp) (l1 : wr.heap.size ≤ b1) (l2 : wr.heap.size ≤ d1) (l3 : wr.heap.size ≤ b2) (l4 : wr.heap.size ≤ d2)
    (own1 : w1.ownsRow B 26 1 va' (j + 1) (rowA q j ++ [ptr b1])) (g1 : (y.alloc o).grownBy w1 va.ownBlock)
    (own2 : w2.ownsRow B 30 1 vb' (j + 1) (rowB q j ++ [ptr b2])) (g2 : (w1.alloc o').grownBy w2 vb.ownBlock) :
    ∃ q' fs', Has2 B w2 va' vb' (j + 1) q' fs' ∧ Below B wr w2 := by
  have sy := BY.size
  have F0 : FL [] y (y.alloc o) := FL.of_below (below_one y o)
  have H1 := (H.below BY).below (below_one y o)
  have F1 := fl_grown g1
  have L1 : Lt (y.alloc o) va.ownBlock.toList := own_lt H1.a (by decide) (by decide)
  have s1 := g1.size
  have s2 := g2.size
  have F2 := fl_grown g2
  have HB1 := grow_b H1 g1
  have L2 : Lt (w1.alloc o') vb.ownBlock.toList := own_lt (HB1.alloc o') (by decide) (by decide)
  -- whatever stands in y
  have tr : ∀ {c1 e1 c2 e2 m : Nat} {f : Nat → Option Held}, Syn y c1 e1 c2 e2 m f → Syn w2 c1 e1 c2 e2 m f := by
    intro c1 e1 c2 e2 m f hs
    have h1 := syn_below hs (below_one y o)
    have n1 : ∀ x ∈ [c1, e1, c2, e2], x ∉ va.ownBlock.toList := fun x hx hm => by
      obtain ⟨_, cur, hc⟩ := own_block H1.a (by simpa using hm)
      exact syn_type h1 hc (.inl rfl) hx
    have h2 := syn_fl h1 F1 L1 (n1 _ (by simp)) (n1 _ (by simp)) (n1 _ (by simp)) (n1 _ (by simp))
    have h3 := syn_below h2 (below_one w1 o')
    have n2 : ∀ x ∈ [c1, e1, c2, e2], x ∉ vb.ownBlock.toList := fun x hx hm => by
      obtain ⟨_, cur, hc⟩ := own_block (HB1.alloc o') (by simpa using hm)
      exact syn_type h3 hc (.inr rfl) hx
    exact syn_fl h3 F2 L2 (n2 _ (by simp)) (n2 _ (by simp)) (n2 _ (by simp)) (n2 _ (by simp))
  have bel : Below B wr w2 := by
    have hb1 : Below B wr (y.alloc o) := (BY.mono hB).trans ((below_one y o).mono (by omega))
    have hb2 := hb1.trans (F1.below (B := B) (fun k hk => (own_block H1.a (by simpa using hk)).1) (by simp; omega))
    have hb3 := hb2.trans ((below_one w1 o').mono (by simp at s1; omega))
    exact hb3.trans (F2.below (B := B) (fun k hk => (own_block (HB1.alloc o') (by simpa using hk)).1) (by simp at s1 ⊢; omega))
  -- the row itself
  have keepA : w2.ownsRow B 26 1 va' (j + 1) (rowA q j ++ [ptr b1]) :=
    own_fl (own1.alloc o') F2 fun k hk hm => by
      obtain ⟨_, cur, hc⟩ := own_block (own1.alloc o') hk
      obtain ⟨_, cur', hc'⟩ := own_block (HB1.alloc o') (by simpa using hm)
      exact ne_of_type hc hc' (by decide) rfl
  have old : ∀ i, i < j → ∀ x ∈ (q i).L, x < wr.heap.size := fun i hi x hx => by
    obtain ⟨A, t, e, _⟩ := syn_lt (H.syn i hi) x hx
    exact (Array.getElem?_eq_some_iff.1 e).1
  refine ⟨fun i => if i = j then ⟨b1, d1, b2, d2, n⟩ else q i, fun i => if i = j then emp else fs i, ⟨?_, ?_, fun i hi => ?_, fun i k hi hk hne x hx => ?_, fun i hi x hx => ?_⟩, bel⟩
  · rw [rowA_succ]; exact keepA
  · rw [rowB_succ]; exact own2
  · by_cases e : i = j
    · simp only [if_pos e]; exact tr ⟨hA, hD⟩
    · simp only [if_neg e]; exact tr ((H.below BY).syn i (by omega))
  · by_cases e : i = j
    · have e' : ¬ k = j := by omega
      simp only [if_pos e] at hx
      simp only [if_neg e']
      intro hm
      have := old k (by omega) x hm
      simp [Quad.L] at hx
      omega
    · simp only [if_neg e] at hx
      by_cases e' : k = j
      · simp only [if_pos e']
        intro hm
        have := old i (by omega) x hx
        simp [Quad.L] at hm
        omega
      · simp only [if_neg e']
        exact H.apart i k (by omega) (by omega) hne x hx
  · by_cases e : i = j
    · simp only [if_pos e] at hx
      simp [Quad.L] at hx
      omega
    · simp only [if_neg e] at hx
      exact H.far i (by omega) x hx
end Go.Proofs.YtpifebapodfeaaaGreat.Dp
/- A slice of steps that came in. -/
namespace Go.Proofs.YtpifebapodfeaaaGreat.So
set_option linter.unusedVariables false
open Go.ChangeShapes Go.WideShapes Go.ChangeAt Go.RowKit
/-- one step -/
structure Opv where
  k : Int
  on : Int
  sl : Int
  al : Int
  me : Int
  key : ByteArray
  ex : ByteArray
  text : ByteArray
instance : Inhabited Opv := ⟨⟨0, 0, 0, 0, 0, .empty, .empty, .empty⟩⟩
/-- where it lies -/
def At (w : World) (a : Addr) (i : Nat) (o : Opv) : Prop :=
  w.cell? (a.add (i * 8)) = some (.int .i64 o.k) ∧ w.cell? (a.add (i * 8 + 1)) = some (.int .i64 o.on) ∧ w.cell? (a.add (i * 8 + 2)) = some (.int .i64 o.sl) ∧ w.cell? (a.add (i * 8 + 3)) = some (.int .i64 o.al) ∧
  w.cell? (a.add (i * 8 + 4)) = some (.int .i64 o.me) ∧ w.cell? (a.add (i * 8 + 5)) = some (.string o.key) ∧ w.cell? (a.add (i * 8 + 6)) = some (.string o.ex) ∧ w.cell? (a.add (i * 8 + 7)) = some (.string o.text)
def Opv.Fine (o : Opv) (B : Nat) : Prop :=
  (Lit.int .i64 o.on).wf = true ∧ (Lit.int .i64 o.sl).wf = true ∧ (Lit.int .i64 o.al).wf = true ∧ (Lit.int .i64 o.me).wf = true ∧ o.key.size ≤ B ∧ o.ex.size ≤ B ∧ o.text.size ≤ B
/-- the value is a slice of these steps; nil, if there are none -/
def Lies (w : World) (v : Value) (z : List Opv) (B : Nat) : Prop :=
  ∃ (o : Option Addr) (cap : Nat), v = .slice o z.length cap ∧ ∀ i (h : i < z.length), ∃ a : Addr, o = some a ∧ At w a i z[i] ∧ z[i].Fine B
theorem cells8 : Tryz.prog.cellsOf 35 = 8 := by kernel_rfl
theorem bulk_one {H : Type} (d : DataW H) : 1 ≤ Rows.uptoBulk d := by
  match d with
  | .lit (.string _) => simp [Rows.uptoBulk]
  | .lit (.int _ _) => simp [Rows.uptoBulk]
  | .lit (.bool _) => simp [Rows.uptoBulk]
  | .lit l => cases l <;> simp [Rows.uptoBulk]
  | .nil => simp [Rows.uptoBulk]
  | .ptr _ => simp [Rows.uptoBulk]
  | .slice _ _ => simp [Rows.uptoBulk]
  | .agg _ => simp [Rows.uptoBulk]
  | .iface _ _ => simp [Rows.uptoBulk]
  | .map _ => simp [Rows.uptoBulk]
  | .held _ => simp [Rows.uptoBulk]
theorem bulk_len {H : Type} (l : List (DataW H)) : l.length ≤ Rows.uptoBulkAll l := by
  induction l with
  | nil => exact Nat.zero_le _
  | cons d l ih =>
    have := bulk_one d
    simp only [List.length_cons, Rows.uptoBulkAll]; omega
theorem bulk_mem {H : Type} (l : List (DataW H)) (d : DataW H) (h : d ∈ l) : Rows.uptoBulk d ≤ Rows.uptoBulkAll l := by
  induction l with
  | nil => cases h
  | cons e l ih =>
    simp only [Rows.uptoBulkAll]
    rcases List.mem_cons.1 h with rfl | h
    · omega
    · have := ih h; omega
set_option maxRecDepth 100000 in
theorem open_so {H : Type} {enc : TypeId × Value → H} {W : World} {b0 : Nat} {r : Reach} {v : Value} {d : DataW H} {ps : List MemPlace}
    (hval : Value.okWide Tryz.prog W r b0 22 v) (hd : DataW.Trod enc Tryz.prog W 0 (fun _ => true) true 22 v d ps) :
    ∃ z, Lies W v z (Rows.uptoBulk d) ∧ (∀ x ∈ ps, x.block < W.heap.size) ∧ z.length ≤ Rows.uptoBulk d := by
  obtain ⟨a0, len, cap, rfl⟩ := okWide_slice Tryz.underlying22 hval
  obtain ⟨fuel, hf⟩ := hd
  rcases Deep.open_slice Tryz.underlying22 hf with ⟨hcs, hx⟩ | ⟨a, len', cap', m, n, D, Pl, hcs, _, hl, hm, hmm, hx, hel⟩
  · simp only [Prod.mk.injEq] at hx
    obtain ⟨rfl, rfl⟩ := hx
    simp [Value.cells] at hcs
    obtain ⟨rfl, rfl, rfl⟩ := hcs
    exact ⟨[], ⟨Option.none, 0, rfl, fun i h => absurd h (Nat.not_lt_zero _)⟩, (fun x hx => by simp at hx), Nat.zero_le _⟩
  · simp only [Prod.mk.injEq] at hx
    obtain ⟨rfl, rfl⟩ := hx
    simp [Value.cells] at hcs
    obtain ⟨rfl, rfl, rfl⟩ := hcs
    simp only [if_true] at hmm
    have hel : ∀ i, i < m → ∃ o : Opv, At W a i o ∧ o.Fine (Rows.uptoBulk (D i)) ∧ Pl i = [] := by
      intro i hi
      obtain ⟨cs', h1, h2⟩ := hel i hi
      rw [cells8] at h1
      obtain ⟨_, hlen, hcell⟩ := World.cells?_some h1
      obtain ⟨xs, q, hq, hxy, _, hxl, hfl⟩ := DataW.trod_struct Tryz.underlying35 h2
      simp only [Deep.add_add] at hcell
      match xs, hxl, cs', hlen with
      | [y0, y1, y2, y3, y4, y5, y6, y7], _, [v0, v1, v2, v3, v4, v5, v6, v7], _ =>
        have g0 : DataW.trod enc Tryz.prog W 0 (fun _ => true) true q 3 [v0] = some y0 := hfl 0 _ rfl
        have g1 : DataW.trod enc Tryz.prog W 0 (fun _ => true) true q 3 [v1] = some y1 := hfl 1 _ rfl
        have g2 : DataW.trod enc Tryz.prog W 0 (fun _ => true) true q 3 [v2] = some y2 := hfl 2 _ rfl
        have g3 : DataW.trod enc Tryz.prog W 0 (fun _ => true) true q 3 [v3] = some y3 := hfl 3 _ rfl
        have g4 : DataW.trod enc Tryz.prog W 0 (fun _ => true) true q 3 [v4] = some y4 := hfl 4 _ rfl
        have g5 : DataW.trod enc Tryz.prog W 0 (fun _ => true) true q 9 [v5] = some y5 := hfl 5 _ rfl
        have g6 : DataW.trod enc Tryz.prog W 0 (fun _ => true) true q 9 [v6] = some y6 := hfl 6 _ rfl
        have g7 : DataW.trod enc Tryz.prog W 0 (fun _ => true) true q 9 [v7] = some y7 := hfl 7 _ rfl
        obtain ⟨n0, e0, rfl, w0⟩ := DataW.trod_int Tryz.underlying3 g0
        obtain ⟨n1, e1, rfl, w1⟩ := DataW.trod_int Tryz.underlying3 g1
        obtain ⟨n2, e2, rfl, w2⟩ := DataW.trod_int Tryz.underlying3 g2
        obtain ⟨n3, e3, rfl, w3⟩ := DataW.trod_int Tryz.underlying3 g3
        obtain ⟨n4, e4, rfl, w4⟩ := DataW.trod_int Tryz.underlying3 g4
        obtain ⟨s5, e5, rfl, w5⟩ := DataW.trod_string Tryz.underlying9 g5
        obtain ⟨s6, e6, rfl, w6⟩ := DataW.trod_string Tryz.underlying9 g6
        obtain ⟨s7, e7, rfl, w7⟩ := DataW.trod_string Tryz.underlying9 g7
        cases e0; cases e1; cases e2; cases e3; cases e4; cases e5; cases e6; cases e7
        have l5 : s5.data.toList.length = s5.size := by rw [Array.length_toList]; rfl
        have l6 : s6.data.toList.length = s6.size := by rw [Array.length_toList]; rfl
        have l7 : s7.data.toList.length = s7.size := by rw [Array.length_toList]; rfl
        simp only [Prod.mk.injEq] at hxy
        have hB : s5.size + s6.size + s7.size ≤ Rows.uptoBulk (D i) := by
          rw [hxy.1]
          simp only [List.map_cons, List.map_nil, Rows.uptoBulk, Rows.uptoBulkAll]
          omega
        refine ⟨⟨n0, n1, n2, n3, n4, s5, s6, s7⟩, ⟨?_, ?_, ?_, ?_, ?_, ?_, ?_, ?_⟩, ⟨w1, w2, w3, w4, ?_, ?_, ?_⟩, ?_⟩
        · exact hcell 0 (by decide)
        · exact hcell 1 (by decide)
        · exact hcell 2 (by decide)
        · exact hcell 3 (by decide)
        · exact hcell 4 (by decide)
        · exact hcell 5 (by decide)
        · exact hcell 6 (by decide)
        · exact hcell 7 (by decide)
        · show s5.size ≤ _; omega
        · show s6.size ≤ _; omega
        · show s7.size ≤ _; omega
        · rw [hxy.2]; rfl
    obtain ⟨f, hF⟩ := Deep.choose_lt hel
    have hln : ((List.range len).map f).length = len := by simp
    refine ⟨(List.range len).map f, ⟨some a, cap, by rw [hln], fun i h => ?_⟩, ?_, ?_⟩
    · rw [hln] at h
      have e : ((List.range len).map f)[i]'(by rw [hln]; exact h) = f i := by simp
      rw [e]
      obtain ⟨h1, h2, h3⟩ := hF i (by omega)
      refine ⟨a, rfl, h1, ?_⟩
      have hb : Rows.uptoBulk (D i) ≤ Rows.uptoBulk (DataW.slice ((List.range len).map D) ((List.range (m - len)).map fun j => D (len + j))) := by
        have := bulk_mem ((List.range len).map D) (D i) (List.mem_map.2 ⟨i, List.mem_range.2 h, rfl⟩)
        simp only [Rows.uptoBulk]; omega
      obtain ⟨p1, p2, p3, p4, p5, p6, p7⟩ := h2
      exact ⟨p1, p2, p3, p4, Nat.le_trans p5 hb, Nat.le_trans p6 hb, Nat.le_trans p7 hb⟩
    · intro x hx
      rcases List.mem_append.1 hx with hx | hx
      · rw [cells8] at hx
        simp only [MemPlace.row, List.mem_map, List.mem_range] at hx
        obtain ⟨i, hi, rfl⟩ := hx
        have hm0 : 0 < m := by omega
        have := World.block_lt_of_cell? W _ (hF 0 hm0).1.1
        have e : (a.add (0 * 8)).block = a.block := by unfold Addr.add; split <;> rfl
        rw [e] at this
        exact this
      · obtain ⟨i, hi, hxi⟩ := List.mem_flatMap.1 hx
        rw [(hF i (List.mem_range.1 hi)).2.2] at hxi
        cases hxi
    · rw [hln]
      have := bulk_len ((List.range len).map D)
      simp only [List.length_map, List.length_range] at this
      simp only [Rows.uptoBulk]; omega
theorem at_below {w x : World} {a : Addr} {i : Nat} {o : Opv} (h : At w a i o) (hb : Below w.heap.size w x) : At x a i o := by
  obtain ⟨h0, h1, h2, h3, h4, h5, h6, h7⟩ := h
  exact ⟨(hb.cell (World.block_lt_of_cell? w _ h0)).trans h0, (hb.cell (World.block_lt_of_cell? w _ h1)).trans h1, (hb.cell (World.block_lt_of_cell? w _ h2)).trans h2, (hb.cell (World.block_lt_of_cell? w _ h3)).trans h3, (hb.cell (World.block_lt_of_cell? w _ h4)).trans h4, (hb.cell (World.block_lt_of_cell? w _ h5)).trans h5, (hb.cell (World.block_lt_of_cell? w _ h6)).trans h6, (hb.cell (World.block_lt_of_cell? w _ h7)).trans h7⟩
theorem lies_mono {w : World} {v : Value} {z : List Opv} {B C : Nat} (h : Lies w v z B) (hBC : B ≤ C) : Lies w v z C := by
  obtain ⟨o, cap, e, hc⟩ := h
  refine ⟨o, cap, e, fun i hi => ?_⟩
  obtain ⟨a, ea, h1, p1, p2, p3, p4, p5, p6, p7⟩ := hc i hi
  exact ⟨a, ea, h1, p1, p2, p3, p4, Nat.le_trans p5 hBC, Nat.le_trans p6 hBC, Nat.le_trans p7 hBC⟩
theorem add_field (a : Addr) (m j : Nat) (hj : 0 < j) : a.add (m + j) = ⟨(a.add m).block, (a.add m).off + j, Option.none⟩ := by
  unfold Addr.add
  rw [if_neg (by omega)]
  split
  · next h => subst h; simp
  · simp [Nat.add_assoc]
theorem at_fields {w : World} {a : Addr} {i : Nat} {o : Opv} (h : At w a i o) :
    w.cell? ⟨(a.add (i * 8)).block, (a.add (i * 8)).off + 1, Option.none⟩ = some (.int .i64 o.on) ∧ w.cell? ⟨(a.add (i * 8)).block, (a.add (i * 8)).off + 2, Option.none⟩ = some (.int .i64 o.sl) ∧ w.cell? ⟨(a.add (i * 8)).block, (a.add (i * 8)).off + 3, Option.none⟩ = some (.int .i64 o.al) ∧
    w.cell? ⟨(a.add (i * 8)).block, (a.add (i * 8)).off + 4, Option.none⟩ = some (.int .i64 o.me) ∧ w.cell? ⟨(a.add (i * 8)).block, (a.add (i * 8)).off + 5, Option.none⟩ = some (.string o.key) ∧ w.cell? ⟨(a.add (i * 8)).block, (a.add (i * 8)).off + 6, Option.none⟩ = some (.string o.ex) ∧ w.cell? ⟨(a.add (i * 8)).block, (a.add (i * 8)).off + 7, Option.none⟩ = some (.string o.text) := by
  obtain ⟨h0, h1, h2, h3, h4, h5, h6, h7⟩ := h
  rw [add_field _ _ _ (by decide)] at h1 h2 h3 h4 h5 h6 h7
  exact ⟨h1, h2, h3, h4, h5, h6, h7⟩
end Go.Proofs.YtpifebapodfeaaaGreat.So
