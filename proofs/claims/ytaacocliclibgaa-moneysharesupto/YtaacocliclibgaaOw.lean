/- A row of the call's own, as a list of numbers. -/
import Derived.Test.YtaacocliclibgaaSc
import Derived.Deep.AppendLies
import Derived.Deep.OwnRows
namespace Go.Proofs.Ytaacocliclibgaa.Ow
set_option linter.unusedVariables false
open Go.RowKit Sl Kb Sc
theorem add0 (g i : Nat) : (⟨g, 0, none⟩ : Addr).add i = ⟨g, i, none⟩ := by unfold Addr.add; simp; omega
def iv (z : List Int) : List Value := z.map (Value.int .i64)
theorem iv_length (z : List Int) : (iv z).length = z.length := by simp [iv]
theorem iv_append (a b : List Int) : iv (a ++ b) = iv a ++ iv b := by simp [iv]
theorem iv_one (z : List Int) : ∀ u ∈ iv z, u.oneCell' = true := by
  intro u hu
  simp only [iv, List.mem_map] at hu
  obtain ⟨x, _, rfl⟩ := hu
  rfl
theorem own_lies {w : World} {base : Nat} {v : Value} {z : List Int} {n : Nat} (hn : n = z.length) (h : w.ownsRow base 3 1 v n (iv z)) (hz : ∀ x ∈ z, (Lit.int .i64 x).wf = true) : Lies w v z := by
  subst hn
  rcases h.2 with ⟨rfl, h0⟩ | ⟨g, cap, cur, rfl, h1, hg, h2, h3, h4, htk⟩
  · have : z = [] := List.length_eq_zero_iff.1 (by simpa using h0)
    subst this
    exact Or.inl ⟨rfl, rfl⟩
  · refine Or.inr ⟨_, cap, rfl, h2, h3, fun i hi => ?_, hz⟩
    rw [add0]
    refine cell_row hg ?_
    rw [Nat.mul_one] at htk
    have e : cur.toList[i]? = some (.int .i64 z[i]) := by
      have e1 : (cur.toList.take z.length)[i]? = (iv z)[i]? := by rw [htk]
      rw [List.getElem?_take_of_lt hi] at e1
      rw [e1]
      simp [iv, hi]
    rw [← e]; simp
/-- what stands in a row that lies somewhere, for an append of it all -/
theorem lies_news {w : World} {v : Value} {z : List Int} {a : Addr} {n c : Nat} (h : Lies w v z) (hv : v = .slice (some a) n c) : n = z.length ∧ ∀ j u, (iv z)[j]? = some u → w.cell? (a.add j) = some u := by
  rcases h with ⟨rfl, rfl⟩ | ⟨b, cap, rfl, h1, h2, hc, hz⟩
  · cases hv
  · cases hv
    refine ⟨rfl, fun j u hu => ?_⟩
    simp only [iv, List.getElem?_map, Option.map_eq_some_iff] at hu
    obtain ⟨x, hx, rfl⟩ := hu
    obtain ⟨hj, rfl⟩ := List.getElem?_eq_some_iff.1 hx
    exact hc j hj
theorem own_nil (w : World) (base e : Nat) : w.ownsRow base e 1 (.slice none 0 0) 0 (iv []) := ⟨rfl, Or.inl ⟨rfl, rfl⟩⟩
theorem info3' : (Try.prog.info? 3).map (fun i => (i.zero, i.size, i.bytes)) = some (some (.int .i64 0), 1, 8) := by kernel_rfl
theorem wfs {l : List Int} (h : ∀ x ∈ l, (Lit.int .i64 x).wf = true) (k : Nat) (n : Int) (hn : (Lit.int .i64 n).wf = true) : ∀ x ∈ l.set k n, (Lit.int .i64 x).wf = true := by
  intro x hx
  rcases List.mem_or_eq_of_mem_set hx with e | e
  · exact h x e
  · rw [e]; exact hn
theorem lies_wf {w : World} {v : Value} {z : List Int} (h : Lies w v z) : ∀ x ∈ z, (Lit.int .i64 x).wf = true := by
  rcases h with ⟨_, rfl⟩ | ⟨_, _, _, _, _, _, hz⟩
  · intro x hx; cases hx
  · exact hz
theorem shape {w : World} {v : Value} {z : List Int} (h : Lies w v z) : ∃ ob cap, v = .slice ob z.length cap := by
  rcases h with ⟨rfl, rfl⟩ | ⟨a, cap, rfl, _, _, _, _⟩
  · exact ⟨_, _, rfl⟩
  · exact ⟨_, _, rfl⟩
end Go.Proofs.Ytaacocliclibgaa.Ow
