/- Fields without kids: rows of them; soundFields. -/
import Derived.Test.YtgchdjjafgkcbaaIg
import Derived.Test.YtgchdjjafgkcbaaXp
import Derived.Test.YtgchdjjafgkcbaaQc
import Derived.BigQuiet
namespace Go.Proofs.Ytgchdjjafgkcbaa.Za
set_option linter.unusedVariables false
set_option linter.unusedSimpArgs false
open Go.RowKit Lib0 Kb Xp Ic Ix If Ig
abbrev tF : TypeId := 82
abbrev Fl := Int × ByteArray
def fv (x : Fl) : Value := .agg #[.int .i64 x.1, .string x.2, .slice none 0 0]
def fc (L : List Fl) : List Value := L.flatMap fun x => [.int .i64 x.1, .string x.2, .slice none 0 0]
theorem fc_cons (x : Fl) (L : List Fl) : fc (x :: L) = .int .i64 x.1 :: .string x.2 :: .slice none 0 0 :: fc L := by simp [fc]
theorem fc_len : ∀ L : List Fl, (fc L).length = L.length * 3
  | [] => rfl
  | x :: L => by
    have := fc_len L
    rw [fc_cons]
    simp only [List.length_cons, this]
    omega
theorem fc_append (L M : List Fl) : fc (L ++ M) = fc L ++ fc M := by simp [fc]
theorem fc_at : ∀ (L : List Fl) (i : Nat) (h : i < L.length), (fc L)[i * 3]? = some (.int .i64 L[i].1) ∧ (fc L)[i * 3 + 1]? = some (.string L[i].2) ∧ (fc L)[i * 3 + 2]? = some (.slice none 0 0)
  | [], i, h => by simp at h
  | x :: L, 0, h => by simp [fc]
  | x :: L, i + 1, h => by
    have := fc_at L i (by simpa using h)
    rw [fc_cons, show (i + 1) * 3 = i * 3 + 1 + 1 + 1 by omega, show i * 3 + 1 + 1 + 1 + 1 = (i * 3 + 1) + 1 + 1 + 1 by omega, show i * 3 + 1 + 1 + 1 + 2 = (i * 3 + 2) + 1 + 1 + 1 by omega]
    simpa using this
theorem fc_one (L : List Fl) : ∀ u ∈ fc L, u.oneCell' = true := by
  intro u hu
  simp only [fc, List.mem_flatMap] at hu
  obtain ⟨x, hx, hu⟩ := hu
  simp at hu
  rcases hu with rfl | rfl | rfl <;> simp [Value.oneCell']
/-- a row of fields that can be read -/
def RowF (w : World) (v : Value) (L : List Fl) : Prop :=
  ∃ (o : Option Addr) (cap : Nat), v = .slice o L.length cap ∧ ∀ i (h : i < L.length), ∃ a : Addr, o = some a ∧ w.cell? (a.add (i * 3)) = some (.int .i64 L[i].1) ∧ w.cell? ⟨(a.add (i * 3)).block, (a.add (i * 3)).off + 1, none⟩ = some (.string L[i].2) ∧ w.cell? ⟨(a.add (i * 3)).block, (a.add (i * 3)).off + 2, none⟩ = some (.slice none 0 0)
theorem rowf_own {w : World} {base : Nat} {t : TypeId} {v : Value} {L : List Fl} (h : w.ownsRow base t 3 v L.length (fc L)) : RowF w v L := by
  rcases h.2 with ⟨rfl, h0⟩ | ⟨g, cap, cur, rfl, r⟩
  · have e : L = [] := List.eq_nil_of_length_eq_zero h0
    subst e
    exact ⟨none, 0, rfl, fun i hi => by simp at hi⟩
  · refine ⟨some ⟨g, 0, none⟩, cap, rfl, fun i hi => ⟨⟨g, 0, none⟩, rfl, h.cells (g := g) rfl _ _ (fc_at L i hi).1, ?_, ?_⟩⟩
    · have := h.cells (g := g) rfl _ _ (fc_at L i hi).2.1
      rwa [add_field _ _ _ (by decide)] at this
    · have := h.cells (g := g) rfl _ _ (fc_at L i hi).2.2
      rwa [add_field _ _ _ (by decide)] at this
theorem rowf_below {w x : World} {v : Value} {L : List Fl} (h : RowF w v L) (k : Below w.heap.size w x) : RowF x v L := by
  obtain ⟨o, cap, e, hc⟩ := h
  refine ⟨o, cap, e, fun i hi => ?_⟩
  obtain ⟨a, ea, c0, c1, c2⟩ := hc i hi
  have kk : ∀ p u, w.cell? p = some u → x.cell? p = some u := fun p u hp => (k.cell (World.block_lt_of_cell? w _ hp)).trans hp
  exact ⟨a, ea, kk _ _ c0, kk _ _ c1, kk _ _ c2⟩
theorem rowf_nil (w : World) : RowF w (.slice none 0 0) [] := ⟨none, 0, rfl, fun i hi => by simp at hi⟩
/-- fields that may be: numbers and texts of a machine -/
structure Fo (L : List Fl) : Prop where
  len : L.length ≤ 100000
  num : ∀ x ∈ L, -9223372036854775808 ≤ x.1 ∧ x.1 ≤ 9223372036854775807
  str : ∀ x ∈ L, x.2.size ≤ 1000000
end Go.Proofs.Ytgchdjjafgkcbaa.Za
