/- StandinForgets: the walk's state. -/
import Derived.Test.YtmaikkhemhonhaaEn
namespace Go.Proofs.Ytmaikkhemhonhaa.Eo
set_option linter.unusedVariables false
set_option linter.unusedSimpArgs false
open Go.RowKit Go.Maps Lib0 Kb Xp Da Db Dc Dd De Df Dh Di Dj Dk Dl Dm Dn Dp Dq Dr Ds Dt Du Dv Dw Dy Dz Ea Eb Ec Ed Ee Ef Eg Eh Ei Ej Ek En
attribute [local go_sem] Oper.semAt_some
abbrev tSt : TypeId := 9
abbrev tIt : TypeId := 3
/-- a row that can be read: its values in a block, one behind the other -/
structure Rd (y : World) (t : TypeId) (o : Option Addr) (vs : List Value) : Prop where
  at_ : 0 < vs.length → ∃ g off cc f, o = some ⟨g, off, none⟩ ∧ y.heap[g]? = some (.cells cc t f) ∧ ∀ k (h : k < vs.length), cc[off + k]? = some vs[k]
theorem Rd.nil (y : World) (t : TypeId) (o : Option Addr) : Rd y t o [] := ⟨fun h => by cases h⟩
theorem Rd.below {y z : World} {t : TypeId} {o : Option Addr} {vs : List Value} (h : Rd y t o vs) (k : Below y.heap.size y z) : Rd z t o vs := ⟨fun hp => by
  obtain ⟨g, off, cc, f, e, hg, hc⟩ := h.at_ hp
  exact ⟨g, off, cc, f, e, kept k hg, hc⟩⟩
theorem Rd.kc {y z : World} {t : TypeId} {o : Option Addr} {vs : List Value} (h : Rd y t o vs) (k : KC y z) (ht : sK t = false) : Rd z t o vs := ⟨fun hp => by
  obtain ⟨g, off, cc, f, e, hg, hc⟩ := h.at_ hp
  exact ⟨g, off, cc, f, e, k.block _ _ _ _ hg ht, hc⟩⟩
theorem Rd.cell {y : World} {t : TypeId} {o : Option Addr} {vs : List Value} (h : Rd y t o vs) (k : Nat) (hk : k < vs.length) : ∃ g off, o = some ⟨g, off, none⟩ ∧ y.cell? ⟨g, off + k, none⟩ = some vs[k] := by
  obtain ⟨g, off, cc, f, e, hg, hc⟩ := h.at_ (by omega)
  exact ⟨g, off, e, by simp [World.cell?, hg, hc k hk]⟩
theorem Rd.tail {y : World} {t : TypeId} {g off : Nat} {v : Value} {vs : List Value} (h : Rd y t (some ⟨g, off, none⟩) (v :: vs)) : Rd y t (some ⟨g, off + 1, none⟩) vs := ⟨fun hp => by
  obtain ⟨g2, off2, cc, f, e, hg, hc⟩ := h.at_ (by simp)
  injection e with e
  injection e with e1 e2
  subst e1 e2
  refine ⟨g, off + 1, cc, f, rfl, hg, fun k hk => ?_⟩
  have := hc (k + 1) (by simp; omega)
  rw [Nat.add_assoc, Nat.add_comm 1 k]
  simpa using this⟩
/-- what is appended to can be read -/
theorem Rd.own {y : World} {base n : Nat} {t : TypeId} {g cap : Nat} {xs : List Value} (h : y.ownsRow base t 1 (.slice (some ⟨g, 0, none⟩) n cap) n xs) : Rd y t (some ⟨g, 0, none⟩) xs := ⟨fun hp => by
  obtain ⟨c2, hc2⟩ := own_ty h rfl
  have hc := h.cells (g := g) rfl
  refine ⟨g, 0, _, _, rfl, hc2, fun k hk => ?_⟩
  have h1 := hc k _ (List.getElem?_eq_getElem hk)
  rw [add_zero] at h1
  simpa [World.cell?, hc2] using h1⟩
theorem own_len {y : World} {base n : Nat} {t : TypeId} {v : Value} {xs : List Value} (h : y.ownsRow base t 1 v n xs) : xs.length = n := by
  have := h.1; omega
def sv (R : List ByteArray) : List Value := R.map .string
def iv (M : List Int) : List Value := M.map (.int .i64)
/-- between two rounds, and behind an approval (R: the row's cards that are there, S: the book, m: how many cards it has) -/
structure FS (w w1 : World) (b lb : Nat) (S : St) (m : Nat) (ro mo : Option Addr) (R : List ByteArray) (M : List Int) (y : World) : Prop where
  kn : KN w1 b lb lF S m y
  row : Rd y tSt ro (sv R)
  many : Rd y tIt mo (iv M)
  bel : Below w.heap.size w y
  le : w.heap.size ≤ w1.heap.size
section
variable {w w1 y z : World} {b lb : Nat} {S : St} {m : Nat} {ro mo : Option Addr} {R : List ByteArray} {M : List Int}
theorem FS.below (h : FS w w1 b lb S m ro mo R M y) (k : Below y.heap.size y z) : FS w w1 b lb S m ro mo R M z := ⟨h.kn.below k, h.row.below k, h.many.below k, keepB h.bel k, h.le⟩
theorem FS.used (h : FS w w1 b lb S m ro mo R M y) (h1 : ∀ g ∈ S.G, g.2.2.1 = 1) (c : ByteArray) (hc : c.size ≤ 1000000) (now : Int) (hn : 0 ≤ now ∧ now ≤ 150) : Calls Try.prog 14 #[.pointer (some ⟨b, 0, none⟩), lmv lF, .string c, .int .i64 now] y fun e z => e = .returned (.tuple #[.int .i64 ((lc S.G c).length : Int), .int .i64 ((lc S.G c).length : Int)]) ∧ Below y.heap.size y z := by
  have ha : ∀ g ∈ S.G, now - lF.window + 1 ≤ g.2.2.2 ∧ g.2.2.1 = 1 := fun g hg => ⟨by have := (h.kn.bk.iv.tk g hg).1; show now - 100000 + 1 ≤ _; omega, h1 g hg⟩
  have := used_ok h.kn.bk lF (by decide) c hc now ⟨hn.1, by omega⟩
  rw [cnt_all _ _ _ (fun g hg => (ha g hg).1), smm_all _ _ _ ha] at this
  exact this
/-- what an approval makes of the book: the row of cards that the law then has, cut at its beginning where it is too long -/
def cut (most : Nat) (R : List ByteArray) : List ByteArray := if most < R.length then R.tail else R
structure FN (most : Nat) (i : Nat) (S' : St) (R' : List ByteArray) : Prop where
  rw_ : Rw S' R'
  one : ∀ g ∈ S'.G, g.2.2.1 = 1
  gv : S'.gv = (i : Int)
  mst : S'.most = (most : Int)
  now : S'.now ≤ (i : Int)
  len : S'.G.length ≤ i
  few : R'.length ≤ most
  crd : ∀ c ∈ R', c.size = 5
theorem FS.ask {most i : Nat} (h : FS w w1 b lb S R.length ro mo R M y) (hf : FN most i S R) (hM : M = mny S R) (hi : i < 150) (hm9 : most ≤ 9) (c : ByteArray) (hc : c.size = 5) (hce : c.toList.isEmpty = false) : Calls Try.prog 15 #[.pointer (some ⟨b, 0, none⟩), lmv lF, .string c, .int .i64 1, .int .i64 (i : Int)] y fun e z => e = .returned (.int .i64 0) ∧ ∃ S', FS w w1 b lb S' (cut most (R.filter (fun d => decide (d ≠ c)) ++ [c])).length ro mo R M z ∧ FN most (i + 1) S' (cut most (R.filter (fun d => decide (d ≠ c)) ++ [c])) ∧ mny S' (cut most (R.filter (fun d => decide (d ≠ c)) ++ [c])) = (if most < (R.filter (fun d => decide (d ≠ c)) ++ [c]).length then (mny S (R.filter (fun d => decide (d ≠ c))) ++ [((lc S.G c).length : Int) + 1]).tail else (mny S (R.filter (fun d => decide (d ≠ c))) ++ [((lc S.G c).length : Int) + 1])) ∧ (most < (R.filter (fun d => decide (d ≠ c)) ++ [c]).length → ∀ d ∈ (R.filter (fun d => decide (d ≠ c)) ++ [c]).head?, lc S'.G d = []) := by
  have hiv := h.kn.bk.iv
  have hgv := hf.gv
  have hb := bey_no hiv hf.one (by have := hf.len; omega) c (i : Int) (by omega)
  have hlen := rw_len hf.rw_ c
  refine (ask_any h.kn.bk lF (by decide) c (by omega) hce 1 (i : Int) (by decide) hf.now (by omega) hb (by omega) (by have := hf.few; omega)).mono ?_
  rintro e z ⟨rfl, hz⟩
  have hrg := rw_give hiv hf.rw_ c 1 (i : Int)
  have hmg := mny_give (S := S) (R := R) c 1 (i : Int)
  have hG : (giveS (nowS S (i : Int)) c 1).G = S.G ++ [(c, (S.gv + 1, 1, (i : Int)))] := rfl
  have hone : ∀ g ∈ (giveS (nowS S (i : Int)) c 1).G, g.2.2.1 = 1 := fun g hg => by
    rw [hG] at hg
    rcases List.mem_append.1 hg with k | k
    · exact hf.one g k
    · rw [List.mem_singleton.1 k]
  have hmost : (giveS (nowS S (i : Int)) c 1).most = (most : Int) := hf.mst
  have hGl : (giveS (nowS S (i : Int)) c 1).G.length ≤ i + 1 := by rw [hG, List.length_append, List.length_singleton]; have := hf.len; omega
  have hcr : ∀ d ∈ R.filter (fun d => decide (d ≠ c)) ++ [c], d.size = 5 := fun d hd => by
    rcases List.mem_append.1 hd with k | k
    · exact hf.crd d (List.mem_filter.1 k).1
    · rw [List.mem_singleton.1 k]; exact hc
  have hgv2 : (giveS (nowS S (i : Int)) c 1).gv = ((i + 1 : Nat) : Int) := by show S.gv + 1 = _; omega
  have hnow2 : (giveS (nowS S (i : Int)) c 1).now ≤ ((i + 1 : Nat) : Int) := by show (i : Int) ≤ _; omega
  obtain ⟨L, hL⟩ : ∃ L, R.filter (fun d => decide (d ≠ c)) ++ [c] = L := ⟨_, rfl⟩
  rw [hL] at hlen hrg hmg hcr ⊢
  have hmm2 := hf.mst
  rcases hz with ⟨hle, hz⟩ | ⟨hlt, m', d, hm, hmin, hz⟩
  · have hn : ¬ most < L.length := by rw [hlen]; omega
    refine ⟨rfl, _, ⟨?_, h.row.kc hz.2.1 (by decide), h.many.kc hz.2.1 (by decide), h.bel.trans (hz.2.2.mono ?_), h.le⟩, ⟨?_, hone, hgv2, hmost, hnow2, hGl, ?_, ?_⟩, ?_, fun k => absurd k hn⟩
    · unfold cut; rw [if_neg hn, hlen]; exact h.kn.pb hz
    · exact h.le
    · unfold cut; rw [if_neg hn]; exact hrg
    · unfold cut; rw [if_neg hn]; omega
    · unfold cut; rw [if_neg hn]; exact hcr
    · unfold cut; rw [if_neg hn, if_neg hn]; exact hmg
  · have hn : most < L.length := by rw [hlen]; omega
    cases L with
    | nil => simp at hn
    | cons d0 L =>
      obtain rfl := rw_min hrg hmin
      have hrf := rw_fgt hrg
      have hmf := mny_fgt hrg
      rw [List.length_cons] at hlen hn
      have hm2 : m' = L.length := by omega
      refine ⟨rfl, fgt (giveS (nowS S (i : Int)) c 1) d, ⟨?_, h.row.kc hz.2.1 (by decide), h.many.kc hz.2.1 (by decide), h.bel.trans (hz.2.2.mono ?_), h.le⟩, ⟨?_, fun g hg => hone g (List.mem_filter.1 hg).1, hgv2, hmost, hnow2, ?_, ?_, ?_⟩, ?_, fun _ d2 hd2 => ?_⟩
      · unfold cut; rw [if_pos (by simpa using hn), List.tail_cons, ← hm2]; exact h.kn.pb hz
      · exact h.le
      · unfold cut; rw [if_pos (by simpa using hn)]; exact hrf
      · exact Nat.le_trans (List.length_filter_le _ _) hGl
      · unfold cut; rw [if_pos (by simpa using hn), List.tail_cons]; have := hf.few; have : (mOf S c R.length) ≤ R.length + 1 := by unfold mOf; split <;> omega
        omega
      · unfold cut; rw [if_pos (by simpa using hn)]; exact fun d3 h3 => hcr d3 (List.mem_of_mem_tail h3)
      · unfold cut; rw [if_pos (by simpa using hn), if_pos (by simpa using hn), List.tail_cons, hmf, hmg]
      · simp at hd2; subst hd2; exact rw_gone _ _
end
end Go.Proofs.Ytmaikkhemhonhaa.Eo
