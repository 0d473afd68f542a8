/- The laws' book, plain: rows of marks. -/
import Derived.Test.YtgidjfhlooggkaaLi
import Derived.Test.YtgidjfhlooggkaaGb
import Derived.Deep.MidRow
namespace Go.Proofs.Ytgidjfhlooggkaa.Bo
set_option linter.unusedVariables false
set_option linter.unusedSimpArgs false
open Go.RowKit Kb Nt Li
def putL (c : Array Value) (o : Nat) : List Value → Array Value
  | [] => c
  | v :: r => putL (c.setIfInBounds o v) (o + 1) r
theorem putL_size : ∀ (vs : List Value) (c : Array Value) (o : Nat), (putL c o vs).size = c.size
  | [], c, o => rfl
  | v :: r, c, o => by rw [putL, putL_size r]; simp
theorem putL_get : ∀ (vs : List Value) (c : Array Value) (o i : Nat), i < c.size → (putL c o vs)[i]? = if o ≤ i ∧ i < o + vs.length then vs[i - o]? else c[i]?
  | [], c, o, i, hi => by rw [putL, if_neg (by intro h; simp only [List.length_nil] at h; omega)]
  | v :: r, c, o, i, hi => by
    rw [putL, putL_get r _ (o + 1) i (by simpa using hi)]
    by_cases h1 : o + 1 ≤ i ∧ i < o + 1 + r.length
    · rw [if_pos h1, if_pos (by simp; omega)]
      rw [show i - o = (i - (o + 1)) + 1 by omega]; simp
    · rw [if_neg h1, Array.getElem?_setIfInBounds]
      by_cases h2 : o = i
      · subst h2; rw [if_pos rfl, if_pos hi, if_pos (by simp)]; simp
      · rw [if_neg h2, if_neg (by simp; omega)]
theorem sc_heap {w : World} {g : Nat} {c : Array Value} {t : TypeId} {fr : Nat × Nat} (h : w.heap[g]? = some (.cells c t fr)) (o : Nat) (v : Value) : (w.setCell ⟨g, o, none⟩ v).heap[g]? = some (.cells (c.setIfInBounds o v) t fr) := by
  show (w.heap.modify g _)[g]? = _
  rw [Array.getElem?_modify]; simp [h]
theorem sc_ne {w : World} {g k : Nat} (h : g ≠ k) (o : Nat) (v : Value) : (w.setCell ⟨g, o, none⟩ v).heap[k]? = w.heap[k]? := by
  show (w.heap.modify g _)[k]? = _
  rw [Array.getElem?_modify]; simp [h]
theorem scs_heap {g : Nat} {t : TypeId} {fr : Nat × Nat} : ∀ (vs : List Value) (o : Nat) {w : World} {c : Array Value}, w.heap[g]? = some (.cells c t fr) → (w.setCells g o vs).heap[g]? = some (.cells (putL c o vs) t fr)
  | [], o, w, c, h => h
  | v :: r, o, w, c, h => by rw [World.setCells, putL]; exact scs_heap r (o + 1) (sc_heap h o v)
theorem scs_ne {g k : Nat} (hk : g ≠ k) : ∀ (vs : List Value) (o : Nat) (w : World), (w.setCells g o vs).heap[k]? = w.heap[k]?
  | [], o, w => rfl
  | v :: r, o, w => by rw [World.setCells, scs_ne hk r, sc_ne hk]
theorem scs_size {g : Nat} : ∀ (vs : List Value) (o : Nat) (w : World), (w.setCells g o vs).heap.size = w.heap.size
  | [], o, w => rfl
  | v :: r, o, w => by rw [World.setCells, scs_size r]; simp [World.setCell]
theorem scs_rest {g : Nat} : ∀ (vs : List Value) (o : Nat) (w : World), (w.setCells g o vs).os = w.os ∧ (w.setCells g o vs).tape = w.tape ∧ (w.setCells g o vs).output = w.output
  | [], o, w => ⟨rfl, rfl, rfl⟩
  | v :: r, o, w => by rw [World.setCells]; exact scs_rest r (o + 1) _
/-- a node with a mark -/
abbrev nod (m : Int) : List Value := [.int .i64 m, .string ⟨#[]⟩, .slice none 0 0]
def mkC (m : Int) : Nat → List Value
  | 0 => []
  | n + 1 => mkC m n ++ nod m
theorem mkC_len (m : Int) : ∀ n, (mkC m n).length = n * 3
  | 0 => rfl
  | n + 1 => by rw [mkC, List.length_append, mkC_len m n]; simp; omega
theorem mkC_take (m : Int) : ∀ n k, k ≤ n → (mkC m n).take (k * 3) = mkC m k
  | 0, k, h => by obtain rfl : k = 0 := by omega
                  rfl
  | n + 1, k, h => by
    by_cases e : k = n + 1
    · subst e
      rw [List.take_of_length_le (by rw [mkC_len]; omega)]
    · rw [mkC, List.take_append_of_le_length (by rw [mkC_len]; omega), mkC_take m n k (by omega)]
theorem mkC_at (m : Int) : ∀ n i, i < n → (mkC m n)[i * 3]? = some (.int .i64 m) ∧ (mkC m n)[i * 3 + 1]? = some (.string ⟨#[]⟩) ∧ (mkC m n)[i * 3 + 2]? = some (.slice none 0 0)
  | 0, i, h => by omega
  | n + 1, i, h => by
    have hl := mkC_len m n
    by_cases e : i = n
    · subst e
      rw [mkC]
      refine ⟨?_, ?_, ?_⟩
      · rw [List.getElem?_append_right (by omega), show i * 3 - (mkC m i).length = 0 by omega]; rfl
      · rw [List.getElem?_append_right (by omega), show i * 3 + 1 - (mkC m i).length = 1 by omega]; rfl
      · rw [List.getElem?_append_right (by omega), show i * 3 + 2 - (mkC m i).length = 2 by omega]; rfl
    · have := mkC_at m n i (by omega)
      rw [mkC]
      refine ⟨?_, ?_, ?_⟩
      · rw [List.getElem?_append_left (by omega)]; exact this.1
      · rw [List.getElem?_append_left (by omega)]; exact this.2.1
      · rw [List.getElem?_append_left (by omega)]; exact this.2.2
def ln : Value → Nat
  | .slice _ n _ => n
  | _ => 0
/-- a row of nodes, the first of them marked -/
def Rw (w : World) (v : Value) (m : Int) (k : Nat) : Prop := ∃ xs, w.ownsRow 0 40 3 v (ln v) xs ∧ xs.take (k * 3) = mkC m k ∧ k ≤ ln v
theorem Rw.keep {w w' : World} {v : Value} {m : Int} {k : Nat} (h : Rw w v m k) (e : ∀ b, v.ownBlock = some b → w'.heap[b]? = w.heap[b]?) : Rw w' v m k := by
  obtain ⟨xs, h1, h2, h3⟩ := h
  exact ⟨xs, owns_keep h1 e, h2, h3⟩
theorem Rw.zero {w : World} {v : Value} {xs : List Value} (h : w.ownsRow 0 40 3 v (ln v) xs) (m : Int) : Rw w v m 0 := ⟨xs, h, by simp [mkC], Nat.zero_le _⟩
theorem Rw.full {w : World} {v : Value} {m : Int} (h : Rw w v m (ln v)) : w.ownsRow 0 40 3 v (ln v) (mkC m (ln v)) := by
  obtain ⟨xs, h1, h2, h3⟩ := h
  have e : xs = mkC m (ln v) := by rw [← h2, List.take_of_length_le (by rw [h1.1]; exact Nat.le_refl _)]
  rw [e] at h1
  exact h1
theorem Rw.start {w : World} {v : Value} {m m' : Int} {k : Nat} (h : Rw w v m k) : Rw w v m' 0 := by
  obtain ⟨xs, h1, h2, h3⟩ := h
  exact Rw.zero h1 m'
theorem rw_cells {w : World} {g n cap : Nat} {m : Int} {k : Nat} (h : Rw w (.slice (some ⟨g, 0, none⟩) n cap) m k) : ∃ cur, w.heap[g]? = some (.cells cur 40) ∧ n * 3 ≤ cur.size := by
  obtain ⟨xs, h1, h2, h3⟩ := h
  rcases h1.2 with ⟨e, _⟩ | ⟨g', cap', cur, e, hb, hg, hn, hm, hs, ht⟩
  · cases e
  · injection e with e1 e2 e3
    injection e1 with e1
    injection e1 with e1
    subst e1; subst e3
    simp only [ln] at hn
    exact ⟨cur, hg, by rw [hs]; exact Nat.mul_le_mul_right _ hn⟩
theorem rw_store {w : World} {g n cap : Nat} {m : Int} {k : Nat} (h : Rw w (.slice (some ⟨g, 0, none⟩) n cap) m k) (hk : k < n) : Rw (w.setCells g (k * 3) (nod m)) (.slice (some ⟨g, 0, none⟩) n cap) m (k + 1) := by
  obtain ⟨xs, h1, h2, h3⟩ := h
  rcases h1.2 with ⟨e, _⟩ | ⟨g', cap', cur, e, hb, hg, hn, hm, hs, ht⟩
  · cases e
  · injection e with e1 e2 e3
    injection e1 with e1
    injection e1 with e1
    subst e1; subst e3
    simp only [ln] at hn ht h1 h2 h3
    have hsz : n * 3 ≤ cur.size := by rw [hs]; exact Nat.mul_le_mul_right _ hn
    have hp := scs_heap (nod m) (k * 3) hg
    have hps := putL_size (nod m) cur (k * 3)
    refine ⟨(putL cur (k * 3) (nod m)).toList.take (n * 3), ⟨by simp only [ln, List.length_take, Array.length_toList]; omega, .inr ⟨g, cap, _, rfl, Nat.zero_le _, hp, hn, hm, by rw [hps]; exact hs, rfl⟩⟩, ?_, hk⟩
    rw [List.take_take, show min ((k + 1) * 3) (n * 3) = (k + 1) * 3 by omega]
    apply List.ext_getElem?
    intro i
    have hl := mkC_len m k
    by_cases hi : i < (k + 1) * 3
    · rw [List.getElem?_take_of_lt hi, Array.getElem?_toList, putL_get _ _ _ _ (by omega), mkC]
      by_cases hi2 : i < k * 3
      · rw [if_neg (by omega), List.getElem?_append_left (by omega), ← h2, List.getElem?_take_of_lt hi2, ← ht, List.getElem?_take_of_lt (by omega), Array.getElem?_toList]
      · rw [if_pos (by simp; omega), List.getElem?_append_right (by omega), hl]
    · rw [List.getElem?_eq_none (by simp; omega), List.getElem?_eq_none (by rw [mkC_len]; omega)]
/-- an older header of the same block -/
theorem sub_row {w y : World} {v x : Value} {m : Int} (hv : w.ownsRow 0 40 3 v (ln v) (mkC m (ln v))) (hx : w.ownsRow 0 40 3 x (ln x) (mkC m (ln x))) (hy : y.ownsRow 0 40 3 x (ln x) (mkC m (ln x))) {g : Nat} (e1 : v.ownBlock = some g) (e2 : x.ownBlock = some g) (hle : ln v ≤ ln x) :
    y.ownsRow 0 40 3 v (ln v) (mkC m (ln v)) := by
  rcases hv.2 with ⟨rfl, _⟩ | ⟨gv, capv, curv, ev, hbv, hgv, hnv, hmv, hsv, htv⟩
  · simp [Value.ownBlock] at e1
  rcases hx.2 with ⟨rfl, _⟩ | ⟨gx, capx, curx, ex, hbx, hgx, hnx, hmx, hsx, htx⟩
  · simp [Value.ownBlock] at e2
  rcases hy.2 with ⟨rfl, _⟩ | ⟨gy, capy, cury, ey, hby, hgy, hny, hmy, hsy, hty⟩
  · simp [Value.ownBlock] at e2
  have a1 : gv = g := by rw [ev] at e1; simpa [Value.ownBlock] using e1
  have a2 : gx = g := by rw [ex] at e2; simpa [Value.ownBlock] using e2
  have a3 : gy = g := by rw [ey] at e2; simpa [Value.ownBlock] using e2
  subst a1; subst a2; subst a3
  rw [hgv] at hgx
  injection hgx with hgx
  injection hgx with hcc
  subst hcc
  have hcx : capx = capy := by rw [ex] at ey; injection ey
  subst hcx
  have hcv : capv = capx := by omega
  subst hcv
  refine ⟨hv.1, .inr ⟨_, capv, cury, ev, hby, hgy, hnv, hmv, hsy, ?_⟩⟩
  have : (cury.toList.take (ln x * 3)).take (ln v * 3) = (mkC m (ln x)).take (ln v * 3) := by rw [hty]
  rw [List.take_take, show min (ln v * 3) (ln x * 3) = ln v * 3 by omega, mkC_take _ _ _ hle] at this
  exact this
/-- rows of other things lie elsewhere -/
theorem ty_ne {w : World} {b1 b2 e1 e2 s1 s2 n1 n2 : Nat} {v1 v2 : Value} {x1 x2 : List Value} (h1 : w.ownsRow b1 e1 s1 v1 n1 x1) (h2 : w.ownsRow b2 e2 s2 v2 n2 x2) (he : e1 ≠ e2) {g : Nat} (hg : v1.ownBlock = some g) : v2.ownBlock ≠ some g := by
  intro hg2
  rcases h1.2 with ⟨rfl, _⟩ | ⟨g1, c1, u1, rfl, _, k1, _⟩
  · simp [Value.ownBlock] at hg
  rcases h2.2 with ⟨rfl, _⟩ | ⟨g2, c2, u2, rfl, _, k2, _⟩
  · simp [Value.ownBlock] at hg2
  simp only [Value.ownBlock, Option.some.injEq] at hg hg2
  subst hg; subst hg2
  rw [k1] at k2
  injection k2 with k2
  injection k2 with _ k2
  exact he k2
/-- no two share a block -/
def PA (A : List Value) : Prop := ∀ i j (hi : i < A.length) (hj : j < A.length), i ≠ j → ∀ g, A[i].ownBlock = some g → A[j].ownBlock ≠ some g
def obs (A : List Value) : List Nat := A.flatMap fun v => v.ownBlock.toList
theorem obs_mem {A : List Value} {i g : Nat} (hi : i < A.length) (h : A[i].ownBlock = some g) : g ∈ obs A := List.mem_flatMap.2 ⟨A[i], List.getElem_mem hi, by rw [h]; simp⟩
theorem pa_of : ∀ (A : List Value), (obs A).Nodup → PA A
  | [], _, i, j, hi, _, _, _, _ => by simp at hi
  | a :: A, h, i, j, hi, hj, hne, g, hg => by
    have h' : (a.ownBlock.toList ++ obs A).Nodup := h
    have nd := List.nodup_append.1 h'
    cases i with
    | zero => cases j with
      | zero => omega
      | succ j =>
        intro hg2
        exact nd.2.2 g (by simp only [List.getElem_cons_zero] at hg; rw [hg]; simp) g (obs_mem (by simpa using hj) hg2) rfl
    | succ i => cases j with
      | zero =>
        intro hg2
        exact nd.2.2 g (by simp only [List.getElem_cons_zero] at hg2; rw [hg2]; simp) g (obs_mem (by simpa using hi) hg) rfl
      | succ j => exact pa_of A nd.2.1 i j (by simpa using hi) (by simpa using hj) (by omega) g hg
theorem obs_ls : ∀ ts : List AT, obs (lsK ts) = fp ts
  | [] => by simp [obs, lsK, fp]
  | .mk t v kv ks :: ts => by
    have h1 := obs_ls ks
    have h2 := obs_ls ts
    unfold obs at h1 h2 ⊢
    simp only [lsK, fp, List.flatMap_append, List.flatMap_cons, h1, h2, List.cons_append]
    simp
theorem obs_app (a b : List Value) : obs (a ++ b) = obs a ++ obs b := by unfold obs; exact List.flatMap_append
theorem obs_cons (a : Value) (b : List Value) : obs (a :: b) = a.ownBlock.toList ++ obs b := by unfold obs; exact List.flatMap_cons
/-- each list is a row of its own -/
theorem rows_ok {w : World} {base : Nat} : ∀ ts : List AT, ok w base ts → ∀ u ∈ lsK ts, ∃ xs, w.ownsRow base 40 3 u (ln u) xs ∧ ln u ≤ 1048576
  | [], _, u, hu => by simp [lsK] at hu
  | .mk t v kv ks :: ts, h, u, hu => by
    unfold ok at h
    simp only [lsK, List.mem_append, List.mem_cons] at hu
    rcases hu with (rfl | hu) | hu
    · obtain ⟨o, cap, e⟩ := formL h.1.1
      refine ⟨cs ks, ?_, ?_⟩
      · have := h.1.1
        rw [show ln u = ks.length by rw [e]; rfl]
        exact this
      · rw [e]; exact h.1.2.2.2.2
    · exact rows_ok ks h.1.2.1 u hu
    · exact rows_ok ts h.2 u hu
theorem rows_own {w : World} {base : Nat} {v : Value} {ts : List AT} (h : Own w base v ts) : ∀ u ∈ v :: lsK ts, ∃ xs, w.ownsRow base 40 3 u (ln u) xs ∧ ln u ≤ 1048576 := by
  intro u hu
  rcases List.mem_cons.1 hu with rfl | hu
  · obtain ⟨o, cap, e⟩ := h.form
    refine ⟨cs ts, ?_, ?_⟩
    · rw [show ln u = ts.length by rw [e]; rfl]
      exact h.row
    · rw [e]; exact h.few
  · exact rows_ok ts h.kids u hu
/-- what stays -/
structure Fr (B : List Nat) (w w' : World) : Prop where
  os : w'.os = w.os
  tape : w'.tape = w.tape
  output : w'.output = w.output
  size : w.heap.size ≤ w'.heap.size
  block : ∀ b, b < w.heap.size → b ∉ B → w'.heap[b]? = w.heap[b]?
theorem Fr.refl (B : List Nat) (w : World) : Fr B w w := ⟨rfl, rfl, rfl, Nat.le_refl _, fun _ _ _ => rfl⟩
theorem Fr.trans {B : List Nat} {w x y : World} (h : Fr B w x) (k : Fr B x y) : Fr B w y := ⟨k.os.trans h.os, k.tape.trans h.tape, k.output.trans h.output, Nat.le_trans h.size k.size, fun b hb hn => (k.block b (Nat.lt_of_lt_of_le hb h.size) hn).trans (h.block b hb hn)⟩
theorem Fr.of {B : List Nat} {w x : World} (h : Below w.heap.size w x) : Fr B w x := ⟨h.os, h.tape, h.output, h.size, fun b hb _ => h.block b hb⟩
theorem Fr.below {B : List Nat} {w x y : World} (h : Fr B w x) (k : Below w.heap.size x y) : Fr B w y := ⟨k.os.trans h.os, k.tape.trans h.tape, k.output.trans h.output, Nat.le_trans h.size k.size, fun b hb hn => (k.block b hb).trans (h.block b hb hn)⟩
theorem Fr.grown {B : List Nat} {w x y : World} {r : Option Nat} (h : Fr B w x) (k : x.grownBy y r) (hr : ∀ g, r = some g → g ∈ B ∨ w.heap.size ≤ g) : Fr B w y := ⟨k.os.trans h.os, k.tape.trans h.tape, k.output.trans h.output, Nat.le_trans h.size k.size, fun b hb hn => (k.block b (Nat.lt_of_lt_of_le hb h.size) (fun e => by rcases hr b e.symm with h1 | h1; exact hn h1; omega)).trans (h.block b hb hn)⟩
theorem Fr.cells {B : List Nat} {w x : World} {g : Nat} (h : Fr B w x) (hg : g ∈ B ∨ w.heap.size ≤ g) (o : Nat) (vs : List Value) : Fr B w (x.setCells g o vs) := by
  obtain ⟨h1, h2, h3⟩ := scs_rest (g := g) vs o x
  exact ⟨h1.trans h.os, h2.trans h.tape, h3.trans h.output, by rw [scs_size]; exact h.size, fun b hb hn => (scs_ne (fun e => by subst e; rcases hg with hg | hg; exact hn hg; omega) vs o x).trans (h.block b hb hn)⟩
end Go.Proofs.Ytgidjfhlooggkaa.Bo
