/- Nodes: trees that hang from fields; how many parts they have. -/
import Derived.Test.YtbekjlinnbmpgaaFn
namespace Go.Proofs.Ytbekjlinnbmpgaa.Nd
set_option linter.unusedVariables false
open Go.RowKit Lib0 Kp Kb Kd Kt Ks Kw Ku Kx Fs
/-- a node: its tag, its value, its kids -/
inductive Tr where
  | mk (tag : Int) (val : ByteArray) (kids : List Tr) : Tr
/-- the nodes lie from place i on, one behind another, and so do all kids -/
def laid (w : World) (a : Addr) : Nat → List Tr → Prop
  | _, [] => True
  | i, .mk tag val kids :: ts => (∃ (o : Option Addr) (cap : Nat), w.cell? (a.add (i * 3)) = some (.int .i64 tag) ∧ w.cell? ⟨(a.add (i * 3)).block, (a.add (i * 3)).off + 1, none⟩ = some (.string val) ∧
      w.cell? ⟨(a.add (i * 3)).block, (a.add (i * 3)).off + 2, none⟩ = some (.slice o kids.length cap) ∧ val.size ≤ 4194304 ∧ kids.length ≤ 1048576 ∧ (kids ≠ [] → ∃ b, o = some b ∧ laid w b 0 kids)) ∧ laid w a (i + 1) ts
/-- the value is a slice of these nodes -/
def Lien (w : World) (v : Value) (ts : List Tr) : Prop := ∃ (o : Option Addr) (cap : Nat), v = .slice o ts.length cap ∧ ts.length ≤ 1048576 ∧ (ts ≠ [] → ∃ a, o = some a ∧ laid w a 0 ts)
theorem laid_below {w x : World} (hb : Below w.heap.size w x) : ∀ (a : Addr) (i : Nat) (ts : List Tr), laid w a i ts → laid x a i ts
  | a, i, [], _ => by unfold laid; trivial
  | a, i, .mk tag val kids :: ts, h => by
    unfold laid at h ⊢
    obtain ⟨⟨o, cap, h0, h1, h2, h3, h4, h5⟩, ht⟩ := h
    have c := fun {p : Addr} {v : Value} (hc : w.cell? p = some v) => (hb.cell (World.block_lt_of_cell? w _ hc)).trans hc
    refine ⟨⟨o, cap, c h0, c h1, c h2, h3, h4, fun hk => ?_⟩, laid_below hb a (i + 1) ts ht⟩
    obtain ⟨b, eb, hl⟩ := h5 hk
    exact ⟨b, eb, laid_below hb b 0 kids hl⟩
/-- the k-th of them -/
theorem laid_at {w : World} {a : Addr} : ∀ (ts : List Tr) (i k : Nat) (h : k < ts.length), laid w a i ts → ∃ (tag : Int) (val : ByteArray) (kids : List Tr) (o : Option Addr) (cap : Nat), ts[k] = .mk tag val kids ∧ w.cell? (a.add ((i + k) * 3)) = some (.int .i64 tag) ∧
      w.cell? ⟨(a.add ((i + k) * 3)).block, (a.add ((i + k) * 3)).off + 1, none⟩ = some (.string val) ∧ w.cell? ⟨(a.add ((i + k) * 3)).block, (a.add ((i + k) * 3)).off + 2, none⟩ = some (.slice o kids.length cap) ∧ val.size ≤ 4194304 ∧ Lien w (.slice o kids.length cap) kids
  | [], _, _, h, _ => by simp at h
  | .mk tag val kids :: ts, i, 0, _, hl => by
    unfold laid at hl
    obtain ⟨⟨o, cap, h0, h1, h2, h3, h4, h5⟩, _⟩ := hl
    exact ⟨tag, val, kids, o, cap, rfl, h0, h1, h2, h3, o, cap, rfl, h4, h5⟩
  | t :: ts, i, k + 1, h, hl => by
    have h2 : laid w a (i + 1) ts := by
      cases t
      unfold laid at hl
      exact hl.2
    have := laid_at ts (i + 1) k (by simpa using h) h2
    rw [show i + 1 + k = i + (k + 1) by omega] at this
    simpa using this
/-- what parts reckons -/
def prt (most : Int) : List Tr → Int → Int
  | [], n => n
  | .mk _ val kids :: ts, n => if n ≤ most then prt most ts (prt most kids (n + 1 + (val.size : Int) / 64)) else n
/-- no node's value is too long -/
def fine : List Tr → Prop
  | [] => True
  | .mk _ val kids :: ts => val.size ≤ 4194304 ∧ fine kids ∧ fine ts
theorem laid_fine {w : World} : ∀ (a : Addr) (i : Nat) (ts : List Tr), laid w a i ts → fine ts
  | a, i, [], _ => by unfold fine; trivial
  | a, i, .mk tag val kids :: ts, h => by
    unfold laid at h
    unfold fine
    obtain ⟨⟨o, cap, h0, h1, h2, h3, h4, h5⟩, ht⟩ := h
    refine ⟨h3, ?_, laid_fine a (i + 1) ts ht⟩
    by_cases hk : kids = []
    · subst hk; unfold fine; trivial
    · obtain ⟨b, _, hl⟩ := h5 hk
      exact laid_fine b 0 kids hl
theorem prt_le : ∀ (ts : List Tr) (n : Int), fine ts → 0 ≤ n → n ≤ 135537 → 0 ≤ prt 70000 ts n ∧ prt 70000 ts n ≤ 135537
  | [], n, _, h0, h1 => by unfold prt; exact ⟨h0, h1⟩
  | .mk tag val kids :: ts, n, hf, h0, h1 => by
    unfold prt
    unfold fine at hf
    obtain ⟨f1, f2, f3⟩ := hf
    split
    · have k := prt_le kids (n + 1 + (val.size : Int) / 64) f2 (by omega) (by omega)
      exact prt_le ts _ f3 k.1 k.2
    · exact ⟨h0, h1⟩
theorem prt_done (ts : List Tr) (n : Int) (h : ¬ n ≤ 70000) : prt 70000 ts n = n := by
  cases ts with
  | nil => unfold prt; rfl
  | cons t ts => cases t; unfold prt; rw [if_neg h]
theorem prt_step {ts : List Tr} {k : Nat} {tag : Int} {val : ByteArray} {kids : List Tr} (hk : k < ts.length) (h : ts[k] = .mk tag val kids) (n : Int) (hn : n ≤ 70000) :
    prt 70000 (ts.drop k) n = prt 70000 (ts.drop (k + 1)) (prt 70000 kids (n + 1 + (val.size : Int) / 64)) := by
  rw [List.drop_eq_getElem_cons hk, h]
  conv => lhs; unfold prt
  rw [if_pos hn]
theorem fine_at {ts : List Tr} {tag : Int} {val : ByteArray} {kids : List Tr} (h : fine ts) (hm : Tr.mk tag val kids ∈ ts) : fine kids := by
  induction ts with
  | nil => simp at hm
  | cons t ts ih =>
    cases t
    unfold fine at h
    rcases List.mem_cons.1 hm with e | e
    · injection e with e1 e2 e3; subst e3; exact h.2.1
    · exact ih h.2.2 e
end Go.Proofs.Ytbekjlinnbmpgaa.Nd
