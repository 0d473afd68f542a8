/- MoneyFair: its plain part. -/
import Derived.Test.YtgojcebdlafbeabBq
import Derived.Test.YtgojcebdlafbeabSj
import Derived.Test.YtgojcebdlafbeabOw
import Derived.Test.YtgojcebdlafbeabPick
import Derived.OpenShut
import Derived.ShutString
import Derived.ChangeOld
import Derived.Below
import Derived.JoinedCond
import Derived.Carry
import Derived.SizedLaws
namespace Go.Proofs.Ytgojcebdlafbeab.Fp
open Go.ChangeShapes Go.WideShapes Go.ChangeAt Go.RowKit
open Go.ChangeMaps (open_string shut_string)
set_option linter.unusedVariables false
open Sl Kb Mp Sa Sf Ow
def pf (x : Int) : Int := Pick.pickOf x 1000001
def pl (z : List Int) (j : Nat) : List Int := (z.take j).map pf
theorem pl_succ (z : List Int) (j : Nat) (h : j < z.length) : pl z (j + 1) = pl z j ++ [pf z[j]] := by
  rw [pl, pl, take_snoc z j h, List.map_append]; rfl
theorem pl_len (z : List Int) (j : Nat) (h : j ≤ z.length) : (pl z j).length = j := by simp [pl, h]
theorem pf_in (x : Int) : 0 ≤ pf x ∧ pf x ≤ 1000000 := by
  have h1 := Pick.pick_lo x 1000001 (by decide)
  have h2 := Pick.pick_hi x 1000001 (by decide)
  unfold pf; omega
theorem pl_W (z : List Int) (j : Nat) : (pl z j).all Tg.isW = true := by
  rw [List.all_eq_true]
  intro x hx
  obtain ⟨y, _, rfl⟩ := List.mem_map.1 hx
  exact (Tg.isW_iff _).2 (pf_in y)
theorem pl_sm (z : List Int) (j : Nat) (h : j ≤ z.length) : 0 ≤ sm (pl z j) ∧ sm (pl z j) ≤ 1000000 * j := by
  induction j with
  | zero => simp [pl, sm]
  | succ j ih =>
    have := ih (by omega)
    have p := pf_in z[j]
    have e : sm [pf z[j]] = pf z[j] := by simp [sm]
    rw [pl_succ z j (by omega), sm_append, e]; omega
theorem pl_wf (z : List Int) (j : Nat) : ∀ x ∈ pl z j, (Lit.int .i64 x).wf = true := by
  intro x hx
  obtain ⟨y, _, rfl⟩ := List.mem_map.1 hx
  have := pf_in y
  have m1 : IntKind.i64.min = -9223372036854775808 := rfl
  have m2 : IntKind.i64.max = 9223372036854775807 := rfl
  simp only [Lit.wf, Bool.and_eq_true, decide_eq_true_eq, m1, m2]
  omega
theorem own_last {w : World} {base g cap n : Nat} {z : List Int} {x : Int} (hn : n = z.length) (h : w.ownsRow base 3 1 (.slice (some ⟨g, 0, none⟩) (n + 1) cap) (n + 1) (iv z ++ [.int .i64 x])) : w.cell? ⟨g, n, none⟩ = some (.int .i64 x) := by
  rcases h.2 with ⟨h0, _⟩ | ⟨g', cap', cur, e, h1, hg, h2, h3, h4, htk⟩
  · cases h0
  · cases e
    refine Sc.cell_row hg ?_
    rw [Nat.mul_one] at htk
    have e1 : (cur.toList.take (n + 1))[n]? = (iv z ++ [.int .i64 x])[n]? := by rw [htk]
    rw [List.getElem?_take_of_lt (Nat.lt_succ_self n)] at e1
    rw [← Array.getElem?_toList, e1, List.getElem?_append_right (by rw [iv_length]; omega)]
    simp [iv_length, hn]
theorem same {x y : World} (h : y = x) : Below x.heap.size x y := by
  subst h; exact Below.refl _ _
theorem smF_mono (f : Nat → Int) (n : Nat) (h0 : ∀ i, i < n → 0 ≤ f i) (k : Nat) (hk : k ≤ n) : 0 ≤ smF f k ∧ smF f k ≤ smF f n := by
  induction n generalizing k with
  | zero => obtain rfl : k = 0 := by omega
            simp [smF]
  | succ n ih =>
    have ih' := ih (fun i hi => h0 i (by omega))
    have p := h0 n (by omega)
    rw [show smF f (n + 1) = smF f n + f n from rfl]
    by_cases e : k = n + 1
    · subst e
      have := ih' n (Nat.le_refl _)
      rw [show smF f (n + 1) = smF f n + f n from rfl]; omega
    · have := ih' k (by omega)
      omega
def LL (w y : World) (v : Value) (L : List Int) (g j : Nat) (f : Nat → Int) : Prop := Below w.heap.size w y ∧ Lies y v L ∧ y.heap[g]? = some (.cells (inC j f) 3 (0, 0))
theorem LL.on {w y y' : World} {v : Value} {L : List Int} {g j : Nat} {f : Nat → Int} (h : LL w y v L g j f) (b : Below y.heap.size y y') : LL w y' v L g j f := ⟨Kb.keepB h.1 b, Sl.lies_below h.2.1 b, Kb.kept b h.2.2⟩
theorem LL.drew {w y : World} {v : Value} {L : List Int} {g j : Nat} {f : Nat → Int} (h : LL w y v L g j f) : LL w y.drew v L g j f := h.on (Below.refl _ _).drew
theorem LL.fc {w y : World} {v : Value} {L : List Int} {g j : Nat} {f : Nat → Int} (h : LL w y v L g j f) (k : Nat) (hk : k < j) : y.cell? ⟨g, k, none⟩ = some (.int .i64 (f k)) := Sc.cell_row h.2.2 (inC_get _ _ _ hk)
theorem LL.lc {w y : World} {a : Addr} {cap : Nat} {L : List Int} {g j : Nat} {f : Nat → Int} (h : LL w y (.slice (some a) j cap) L g j f) (hL : L.length = j) (k : Nat) (hk : k < j) : y.cell? (a.add k) = some (.int .i64 (zf L k)) := by
  rcases h.2.1 with ⟨e, _⟩ | ⟨a', c', e, _, _, hc, _⟩
  · cases e
  · injection e with e1 e2 e3
    injection e1 with e1
    subst e1
    rw [zf_get L k (by omega)]; exact hc k (by omega)
theorem LL.ad {w y : World} {ob : Option Addr} {cap : Nat} {L : List Int} {g j k : Nat} {f : Nat → Int} (h : LL w y (.slice ob j cap) L g j f) (hL : L.length = j) (hk : k < j) : ∃ a, ob = some a := by
  rcases h.2.1 with ⟨e, e2⟩ | ⟨a', c', e, _⟩
  · rw [e2] at hL; simp at hL; omega
  · injection e with e1 e2 e3; exact ⟨a', e1⟩
theorem share_bad' (u : Int) (z : List Int) (v : Value) (w : World) (hl : z.length ≤ 100) (h : Lies w v z) (hu : isA u = true) (hs : sm z = 0) :
    Calls Try.prog 11 #[.int .i64 u, v] w fun e w' => e = .returned (.tuple #[.slice none 0 0, .int .i64 1]) ∧ Below w.heap.size w w' := by
  have ht : Tg.tgB z = false := by simp [Tg.tgB, hs]
  have := Sj.share_bad u z v w (by omega) h (fun _ => ht)
  rw [Sj.shE, if_pos hu, if_neg (by rw [ht]; decide)] at this
  exact this
end Go.Proofs.Ytgojcebdlafbeab.Fp
