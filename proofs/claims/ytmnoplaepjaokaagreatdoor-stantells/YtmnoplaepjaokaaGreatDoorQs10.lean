import Derived.Test.YtmnoplaepjaokaaGreatDoorQs00
import Derived.Test.YtmnoplaepjaokaaGreatDoorQs09
import Derived.Lib.ItoaNum
import Derived.Lib.Repeat
import Derived.WalkKit
/- digits.Write. -/
namespace Go.Proofs.YtmnoplaepjaokaaGreatDoor.Num
set_option linter.unusedVariables false
open Go.RowKit Lib0 Kb
theorem ret_ss {a b : ByteArray} {x y : Value} (h : a = b) (h2 : x = y) : Ending.returned (.tuple #[.string a, x]) = .returned (.tuple #[.string b, y]) := by rw [h, h2]
def dgs : Nat → Nat → List UInt8
  | 0, _ => []
  | w + 1, n => dgs w (n / 10) ++ [UInt8.ofNat (48 + n % 10)]
theorem dgs_length : ∀ w n, (dgs w n).length = w
  | 0, _ => rfl
  | w + 1, n => by simp [dgs, dgs_length w]
theorem dgs_zero : ∀ w, dgs w 0 = List.replicate w 48
  | 0 => rfl
  | w + 1 => by rw [dgs, dgs_zero w, List.replicate_succ']; rfl
theorem dec_len (u : Nat) : (Lib.decDigits u).length = Lib.nDigits u := by rw [Lib.decDigits_eq]; simp
theorem nd_le : ∀ (w u : Nat), 1 ≤ w → u < 10 ^ w → Lib.nDigits u ≤ w
  | 0, _, h, _ => by omega
  | w + 1, u, _, h => by
    by_cases h1 : u < 10
    · rw [Lib.nDigits_small h1]; omega
    · rw [Lib.nDigits_big h1]
      have hw : 1 ≤ w := by
        rcases Nat.eq_zero_or_pos w with rfl | h2
        · simp at h; omega
        · exact h2
      have := nd_le w (u / 10) hw (by rw [Nat.pow_succ] at h; omega)
      omega
theorem nd_gt (w u : Nat) (h : ¬ u < 10 ^ w) : w < Lib.nDigits u := by
  have h1 := Lib.lt_pow_nDigits u
  rcases Nat.lt_or_ge w (Lib.nDigits u) with h2 | h2
  · exact h2
  · have : 10 ^ Lib.nDigits u ≤ 10 ^ w := Nat.pow_le_pow_right (by omega) h2
    omega
theorem dec_big (u : Nat) (h : ¬ u < 10) : Lib.decDigits u = Lib.decDigits (u / 10) ++ [UInt8.ofNat (48 + u % 10)] := by rw [Lib.decDigits, dif_neg h]
theorem dgs_pad : ∀ (w u : Nat), 1 ≤ w → u < 10 ^ w → dgs w u = List.replicate (w - Lib.nDigits u) 48 ++ Lib.decDigits u
  | 0, _, h, _ => by omega
  | w + 1, u, _, h => by
    by_cases h1 : u < 10
    · rw [dgs, show u / 10 = 0 by omega, dgs_zero, Lib.nDigits_small h1, Lib.decDigits, dif_pos h1, Nat.mod_eq_of_lt h1]; rfl
    · have hw : 1 ≤ w := by
        rcases Nat.eq_zero_or_pos w with rfl | h2
        · simp at h; omega
        · exact h2
      rw [dgs, dgs_pad w (u / 10) hw (by rw [Nat.pow_succ] at h; omega), Lib.nDigits_big h1, dec_big u h1, List.append_assoc, show w + 1 - (Lib.nDigits (u / 10) + 1) = w - Lib.nDigits (u / 10) by omega]
/-- what Write answers -/
def writeR (n width : Int) : List UInt8 × Int := if n < 0 ∨ width < 1 ∨ 18 < width then ([], 1) else if n.toNat < 10 ^ width.toNat then (dgs width.toNat n.toNat, 0) else ([], 13)
theorem rep_one (c : Nat) : Lib.repeatL [48] c = List.replicate c 48 := by
  induction c with
  | zero => rfl
  | succ c ih => rw [Lib.repeatL, ih, List.replicate_succ]; rfl
theorem below_grow (w : World) (k : Nat) (os : Array Obj) : Below w.heap.size w (Go.Sort.grow (w.drewN k) os) := by
  have h1 : Below w.heap.size w (w.drewN k) := below_drewN (Below.refl _ _) k
  have hk : (w.drewN k).heap = w.heap := World.heap_drewN w k
  refine h1.trans ⟨rfl, rfl, rfl, by simp [Go.Sort.grow], fun j hj => ?_⟩
  show ((w.drewN k).heap ++ os)[j]? = _
  rw [Array.getElem?_append_left (by rw [hk]; exact hj)]
set_option maxRecDepth 100000 in
theorem write_any (n width : Int) (w : World) (hn : n ≤ 9223372036854775807) (hT : Lib.TabIs Tryz.prog w "internal/strconv.uint64pow10" .u64 Lib.pow10Tab) :
    Calls Tryz.prog 43 #[.int .i64 n, .int .i64 width] w fun e w' => e = .returned (.tuple #[.string ⟨(writeR n width).1.toArray⟩, .int .i64 (writeR n width).2]) ∧ Below w.heap.size w w' := by
  by_cases h1 : n < 0 ∨ width < 1 ∨ 18 < width
  · have HE : Hid (writeR n width = ([], 1)) := by show _ = _; unfold writeR; rw [if_pos h1]
    clear hT
    by_cases g1 : n < 0
    · clear h1
      go_enter Tryz.func43, Tryz.ntmps43
      go_wp2
      go_ret2
      exact ⟨by rw [HE.out]; rfl, Below.refl _ _⟩
    · by_cases g2 : width < 1
      · clear h1
        go_enter Tryz.func43, Tryz.ntmps43
        go_wp2
        go_ret2
        exact ⟨by rw [HE.out]; rfl, Below.refl _ _⟩
      · have g3 : 18 < width := by omega
        clear h1
        go_enter Tryz.func43, Tryz.ntmps43
        go_wp2
        go_ret2
        exact ⟨by rw [HE.out]; rfl, Below.refl _ _⟩
  · obtain ⟨u, rfl⟩ : ∃ u : Nat, n = (u : Int) := ⟨n.toNat, by omega⟩
    obtain ⟨m, rfl⟩ : ∃ m : Nat, width = (m : Int) := ⟨width.toNat, by omega⟩
    have m1 : 1 ≤ m := by omega
    have m2 : m ≤ 18 := by omega
    have HT : Hid (Lib.TabIs Tryz.prog w "internal/strconv.uint64pow10" .u64 Lib.pow10Tab) := hT
    have hi : Lib.itoa (u : Int) = Lib.decDigits u := by unfold Lib.itoa; rw [if_neg (by omega)]; simp
    have HI : Hid _ := hi
    obtain ⟨d, Hd, hds⟩ : ∃ d, Hid (ByteArray.mk (Lib.decDigits u).toArray = d) ∧ d.size = Lib.nDigits u := ⟨_, rfl, by rw [← dec_len]; simp [ByteArray.size]⟩
    have hnp := Lib.nDigits_pos u
    by_cases h2 : u < 10 ^ m
    · have hle := nd_le m u m1 h2
      have HE : Hid (writeR (u : Int) (m : Int) = (dgs m u, 0)) := by show _ = _; unfold writeR; rw [if_neg h1, if_pos (by simpa using h2)]; simp
      have HP : Hid (dgs m u = List.replicate (m - Lib.nDigits u) 48 ++ Lib.decDigits u) := dgs_pad m u m1 h2
      clear h1 h2 hT hi
      have hlt : ¬ (m : Int) < (d.size : Int) := by omega
      have hsub : (m : Int) - (d.size : Int) = ((m - d.size : Nat) : Int) := by omega
      have HSU : Hid _ := hsub
      clear hsub
      generalize hN : Lib.nDigits u = N at *
      go_enter Tryz.func43, Tryz.ntmps43
      go_wp2_with fail
      refine (Tryz.strconv_Itoa (u : Int) (by omega) hn _ HT.out).mono ?_
      rintro e w' ⟨rfl, k, os, hw⟩
      have hb : Below w.heap.size w w' := hw ▸ below_grow w k os
      clear hw
      rw [HI.out, Hd.out]
      go_wp2_with fail
      rw [show ((m : Int) - (N : Int)) = ((m - N : Nat) : Int) by omega]
      refine (Tryz.strings_Repeat (ByteArray.mk #[48]) (m - N) _ (by omega) (by show 1 * (m - N) ≤ _; omega)).mono ?_
      rintro e w1 ⟨rfl, hb1⟩
      rw [show (ByteArray.mk #[48]).data.toList = [48] from rfl, rep_one]
      have HX : Hid ((ByteArray.mk (List.replicate (m - N) 48).toArray) ++ d = ByteArray.mk (dgs m u).toArray) := by
        show _ = _
        rw [HP.out, ← Hd.out]
        apply ByteArray.ext
        simp
      have hr : (ByteArray.mk (List.replicate (m - N) 48).toArray).size ≤ 18 := by simp [ByteArray.size]; omega
      have hd18 : d.size ≤ 18 := by omega
      generalize (ByteArray.mk (List.replicate (m - N) 48).toArray) = r at *
      go_wp2
      go_ret2
      exact ⟨by rw [HE.out]; exact ret_ss HX.out rfl, hb.trans (hb1.mono hb.size)⟩
    · have hlt0 := nd_gt m u h2
      have HE : Hid (writeR (u : Int) (m : Int) = ([], 13)) := by show _ = _; unfold writeR; rw [if_neg h1, if_neg (by simpa using h2)]
      clear h1 h2 hT hi
      have hlt : (m : Int) < (d.size : Int) := by omega
      generalize hN : Lib.nDigits u = N at *
      go_enter Tryz.func43, Tryz.ntmps43
      go_wp2_with fail
      refine (Tryz.strconv_Itoa (u : Int) (by omega) hn _ HT.out).mono ?_
      rintro e w' ⟨rfl, k, os, hw⟩
      have hb : Below w.heap.size w w' := hw ▸ below_grow w k os
      clear hw
      rw [HI.out, Hd.out]
      go_wp2
      go_ret2
      exact ⟨by rw [HE.out]; rfl, hb⟩
end Go.Proofs.YtmnoplaepjaokaaGreatDoor.Num
/- Numbers that are dealt out, plain. -/
namespace Go.Proofs.YtmnoplaepjaokaaGreatDoor.Ya
set_option linter.unusedVariables false
set_option linter.unusedSimpArgs false
/-- a table of truths with one of them otherwise -/
def upd (f : Nat → Bool) (k : Nat) (b : Bool) : Nat → Bool := fun i => if i = k then b else f i
theorem upd_same (f : Nat → Bool) (k : Nat) (b : Bool) : upd f k b k = b := by simp [upd]
theorem upd_ne (f : Nat → Bool) {k i : Nat} (b : Bool) (h : i ≠ k) : upd f k b i = f i := by simp [upd, h]
/-- the first one from k on up to mo that is not out; 0: there is none -/
def ff (mo : Nat) (out : Nat → Bool) (k : Nat) : Nat := ((List.range' k (mo + 1 - k)).find? fun j => !out j).getD 0
theorem ff_none {mo : Nat} {out : Nat → Bool} {k : Nat} (h : ∀ i, k ≤ i → i ≤ mo → out i = true) : ff mo out k = 0 := by
  rw [ff, List.find?_eq_none.2]
  · rfl
  · intro i hi
    rw [List.mem_range'_1] at hi
    simp [h i (by omega) (by omega)]
theorem ff_some {mo : Nat} {out : Nat → Bool} {k j : Nat} (h1 : k ≤ j) (h2 : j ≤ mo) (h3 : out j = false) (h4 : ∀ i, k ≤ i → i < j → out i = true) : ff mo out k = j := by
  have hf : (List.range' k (mo + 1 - k)).find? (fun j => !out j) = some j := by
    rw [List.find?_eq_some_iff_getElem]
    refine ⟨by simp [h3], j - k, by simp; omega, by simp; omega, fun i hi => ?_⟩
    simp [h4 (k + i) (by omega) (by omega)]
  rw [ff, hf]; rfl
theorem ff_spec (mo : Nat) (out : Nat → Bool) (k : Nat) : (ff mo out k = 0 ∧ ∀ i, k ≤ i → i ≤ mo → out i = true) ∨ (k ≤ ff mo out k ∧ ff mo out k ≤ mo ∧ out (ff mo out k) = false ∧ ∀ i, k ≤ i → i < ff mo out k → out i = true) := by
  cases hf : (List.range' k (mo + 1 - k)).find? fun j => !out j with
  | none =>
    refine .inl ⟨by rw [ff, hf]; rfl, fun i h1 h2 => ?_⟩
    have := List.find?_eq_none.1 hf i (List.mem_range'_1.2 (by omega))
    simpa using this
  | some j =>
    obtain ⟨hj, n, hn, e, h⟩ := List.find?_eq_some_iff_getElem.1 hf
    have e0 : ff mo out k = j := by rw [ff, hf]; rfl
    simp at e hn hj
    subst e
    rw [e0]
    refine .inr ⟨by omega, by omega, hj, fun i h1 h2 => ?_⟩
    have := h (i - k) (by omega)
    simp at this
    rwa [show k + (i - k) = i by omega] at this
/-- how many of 1 to m are out -/
def cnt (out : Nat → Bool) : Nat → Nat
  | 0 => 0
  | m + 1 => cnt out m + (if out (m + 1) then 1 else 0)
theorem cnt_le (out : Nat → Bool) : ∀ m, cnt out m ≤ m
  | 0 => Nat.le_refl _
  | m + 1 => by have := cnt_le out m; simp only [cnt]; split <;> omega
theorem cnt_ext {f g : Nat → Bool} : ∀ m, (∀ i, 1 ≤ i → i ≤ m → f i = g i) → cnt f m = cnt g m
  | 0, _ => rfl
  | m + 1, h => by simp only [cnt, cnt_ext m fun i h1 h2 => h i h1 (by omega), h (m + 1) (by omega) (by omega)]
theorem cnt_all {out : Nat → Bool} : ∀ m, cnt out m = m ↔ ∀ i, 1 ≤ i → i ≤ m → out i = true
  | 0 => ⟨fun _ i h1 h2 => by omega, fun _ => rfl⟩
  | m + 1 => by
    have h0 := cnt_le out m
    have ih := cnt_all (out := out) m
    simp only [cnt]
    constructor
    · intro h i h1 h2
      by_cases ho : out (m + 1) = true
      · rw [if_pos ho] at h
        by_cases e : i = m + 1
        · rw [e]; exact ho
        · exact ih.1 (by omega) i h1 (by omega)
      · rw [if_neg ho] at h; omega
    · intro h
      rw [if_pos (h (m + 1) (by omega) (by omega)), ih.2 fun i h1 h2 => h i h1 (by omega)]
theorem cnt_put {out : Nat → Bool} {k : Nat} (h : out k = false) (h1 : 1 ≤ k) : ∀ m, cnt (upd out k true) m = cnt out m + (if k ≤ m then 1 else 0)
  | 0 => by simp [cnt]; omega
  | m + 1 => by
    simp only [cnt, cnt_put h h1 m]
    by_cases e : m + 1 = k
    · subst e; simp [upd_same, h]
    · rw [upd_ne _ _ e]
      by_cases e2 : k ≤ m
      · have e3 : k ≤ m + 1 := by omega
        simp only [e2, e3, if_true]; omega
      · have e3 : ¬ k ≤ m + 1 := by omega
        simp only [e2, e3, if_false]; omega
theorem cnt_cut {out : Nat → Bool} {k : Nat} (h : out k = true) (h1 : 1 ≤ k) : ∀ m, cnt (upd out k false) m + (if k ≤ m then 1 else 0) = cnt out m
  | 0 => by simp [cnt]; omega
  | m + 1 => by
    have ih := cnt_cut h h1 m
    simp only [cnt]
    by_cases e : m + 1 = k
    · subst e
      have e3 : ¬ m + 1 ≤ m := by omega
      simp only [e3, if_false] at ih
      simp [upd_same, h]; omega
    · rw [upd_ne _ _ e]
      by_cases e2 : k ≤ m
      · have e3 : k ≤ m + 1 := by omega
        simp only [e2, e3, if_true] at ih ⊢; omega
      · have e3 : ¬ k ≤ m + 1 := by omega
        simp only [e2, e3, if_false] at ih ⊢; omega
structure St where
  mo : Nat
  last : Nat
  many : Nat
  out : Nat → Bool
def fresh (mo : Nat) : St := ⟨mo, 0, 0, fun _ => false⟩
/-- the one that comes next; 0: all are out -/
def nxt (S : St) : Nat := if ff S.mo S.out (S.last + 1) = 0 then ff S.mo S.out 1 else ff S.mo S.out (S.last + 1)
def tk (S : St) : St := if nxt S = 0 then S else ⟨S.mo, nxt S, S.many + 1, upd S.out (nxt S) true⟩
def isOut (S : St) (k : Int) : Bool := decide (1 ≤ k) && decide (k ≤ S.mo) && S.out k.toNat
def fr (S : St) (k : Int) : St := if isOut S k then ⟨S.mo, S.last, S.many - 1, upd S.out k.toNat false⟩ else S
def tkE (S : St) : Int := if nxt S = 0 then 180 else 0
def frE (S : St) (k : Int) : Int := if isOut S k then 0 else 181
structure OK (S : St) : Prop where
  mo1 : 1 ≤ S.mo
  mo2 : S.mo ≤ 999999
  last : S.last ≤ S.mo
  many : S.many = cnt S.out S.mo
  zero : S.out 0 = false
theorem ok_fresh {mo : Nat} (h1 : 1 ≤ mo) (h2 : mo ≤ 999999) : OK (fresh mo) := ⟨h1, h2, Nat.zero_le _, by
  have : ∀ m, cnt (fun _ => false) m = 0 := fun m => by induction m with
    | zero => rfl
    | succ m ih => simp [cnt, ih]
  exact (this mo).symm, rfl⟩
theorem OK.many_le {S : St} (h : OK S) : S.many ≤ S.mo := h.many ▸ cnt_le _ _
/-- what comes next is one of the row that is not out, and those that are passed by are out -/
structure Nx (S : St) (t : Nat) : Prop where
  t1 : 1 ≤ t
  t2 : t ≤ S.mo
  free : S.out t = false
  up : S.last < t → ∀ i, S.last < i → i < t → S.out i = true
  hi : t ≤ S.last → ∀ i, S.last < i → i ≤ S.mo → S.out i = true
  lo : t ≤ S.last → ∀ i, 1 ≤ i → i < t → S.out i = true
theorem nxt_spec {S : St} (h : OK S) : (nxt S = 0 ∧ ∀ i, 1 ≤ i → i ≤ S.mo → S.out i = true) ∨ Nx S (nxt S) := by
  unfold nxt
  rcases ff_spec S.mo S.out (S.last + 1) with ⟨e, ha⟩ | ⟨h1, h2, h3, h4⟩
  · rw [if_pos e]
    rcases ff_spec S.mo S.out 1 with ⟨e2, hb⟩ | ⟨k1, k2, k3, k4⟩
    · exact .inl ⟨e2, hb⟩
    · refine .inr ⟨k1, k2, k3, fun hl => ?_, fun _ i h1 h2 => ha i (by omega) h2, fun _ => k4⟩
      have := ha _ hl k2
      rw [k3] at this; cases this
  · rw [if_neg (by omega)]
    exact .inr ⟨by omega, h2, h3, fun _ i k1 k2 => h4 i (by omega) k2, fun hl => absurd hl (by omega), fun hl => absurd hl (by omega)⟩
theorem nx_one {S : St} {t : Nat} (h : Nx S t) : nxt S = t := by
  unfold nxt
  by_cases hl : S.last < t
  · rw [ff_some (j := t) (by omega) h.t2 h.free fun i h1 h2 => h.up hl i (by omega) h2, if_neg (by have := h.t1; omega)]
  · rw [ff_none fun i h1 h2 => h.hi (by omega) i (by omega) h2, if_pos rfl]
    exact ff_some h.t1 h.t2 h.free (h.lo (by omega))
theorem spent {S : St} (h : OK S) : nxt S = 0 ↔ S.many = S.mo := by
  rw [h.many, cnt_all]
  constructor
  · intro e
    rcases nxt_spec h with ⟨_, ha⟩ | hn
    · exact ha
    · have := hn.t1; omega
  · intro ha
    rcases nxt_spec h with ⟨e, _⟩ | hn
    · exact e
    · have := ha _ hn.t1 hn.t2
      rw [hn.free] at this; cases this
theorem OK.tk {S : St} (h : OK S) : OK (tk S) := by
  unfold Ya.tk
  by_cases e : nxt S = 0
  · rw [if_pos e]; exact h
  · rw [if_neg e]
    rcases nxt_spec h with ⟨e2, _⟩ | hn
    · exact absurd e2 e
    · exact ⟨h.mo1, h.mo2, hn.t2, by show S.many + 1 = _; rw [cnt_put hn.free hn.t1, if_pos hn.t2, h.many], (upd_ne _ _ (fun e2 => e e2.symm)).trans h.zero⟩
theorem isOut_at {S : St} {k : Int} (h : isOut S k = true) : 1 ≤ k ∧ k ≤ S.mo ∧ S.out k.toNat = true := by
  simp [isOut] at h; exact ⟨h.1.1, h.1.2, h.2⟩
theorem OK.fr {S : St} (h : OK S) (k : Int) : OK (fr S k) := by
  unfold Ya.fr
  by_cases e : isOut S k = true
  · rw [if_pos e]
    obtain ⟨h1, h2, h3⟩ := isOut_at e
    have := cnt_cut h3 (by omega) S.mo
    rw [if_pos (by omega), ← h.many] at this
    exact ⟨h.mo1, h.mo2, h.last, by show S.many - 1 = cnt (upd S.out k.toNat false) S.mo; omega, (upd_ne _ _ (by omega)).trans h.zero⟩
  · rw [if_neg e]; exact h
theorem OK.pos {S : St} (h : OK S) {k : Int} (e : isOut S k = true) : 1 ≤ S.many := by
  obtain ⟨h1, h2, h3⟩ := isOut_at e
  have := cnt_cut h3 (by omega) S.mo
  rw [if_pos (by omega), ← h.many] at this
  omega
/-- between the rounds of a walk from the last one to the next: K is where it stands -/
structure Iv (S : St) (t K : Nat) : Prop where
  le : K ≤ S.mo
  up : K < t → ∀ i, K < i → i < t → S.out i = true
  hi : t ≤ K → ∀ i, K < i → i ≤ S.mo → S.out i = true
  lo : t ≤ K → ∀ i, 1 ≤ i → i < t → S.out i = true
theorem Nx.iv {S : St} (ho : OK S) {t : Nat} (h : Nx S t) : Iv S t S.last := ⟨ho.last, h.up, h.hi, h.lo⟩
def stp (S : St) (K : Nat) : Nat := if S.mo ≤ K then 1 else K + 1
theorem stp_pos (S : St) (K : Nat) : 1 ≤ stp S K := by unfold stp; split <;> omega
theorem Iv.stp_le {S : St} (ho : OK S) {t K : Nat} (h : Iv S t K) : stp S K ≤ S.mo := by have := ho.mo1; have := h.le; unfold stp; split <;> omega
theorem Iv.out {S : St} {t K : Nat} (hn : Nx S t) (h : Iv S t K) (hne : stp S K ≠ t) : S.out (stp S K) = true := by
  have := hn.t1; have := hn.t2; have := h.le
  unfold stp at hne ⊢
  by_cases e : S.mo ≤ K
  · rw [if_pos e] at hne ⊢
    exact h.lo (by omega) 1 (by omega) (by omega)
  · rw [if_neg e] at hne ⊢
    by_cases e2 : K < t
    · exact h.up e2 _ (by omega) (by omega)
    · exact h.hi (by omega) _ (by omega) (by omega)
theorem Iv.next {S : St} (ho : OK S) {t K : Nat} (hn : Nx S t) (h : Iv S t K) (hne : stp S K ≠ t) : Iv S t (stp S K) := by
  have h1 := hn.t1; have h2 := hn.t2; have h3 := h.le
  have hle := h.stp_le ho
  unfold stp at hne hle ⊢
  by_cases e : S.mo ≤ K
  · rw [if_pos e] at hne hle ⊢
    exact ⟨hle, fun _ i k1 k2 => h.lo (by omega) i (by omega) k2, fun k => absurd k (by omega), fun k => absurd k (by omega)⟩
  · rw [if_neg e] at hne hle ⊢
    exact ⟨hle, fun k i k1 k2 => h.up (by omega) i (by omega) k2, fun k i k1 k2 => h.hi (by omega) i (by omega) k2, fun k i k1 k2 => h.lo (by omega) i k1 k2⟩
/-- how far it is from K to t -/
def far (S : St) (t K : Nat) : Nat := if K < t then t - K else S.mo - K + t + 1
theorem Iv.near {S : St} (ho : OK S) {t K : Nat} (hn : Nx S t) (h : Iv S t K) (hne : stp S K ≠ t) : far S t (stp S K) < far S t K := by
  have h1 := hn.t1; have h2 := hn.t2; have h3 := h.le
  unfold far stp at *
  by_cases e : S.mo ≤ K
  · rw [if_pos e] at hne ⊢
    rw [if_pos (by omega), if_neg (by omega)]; omega
  · rw [if_neg e] at hne ⊢
    by_cases e2 : K < t
    · rw [if_pos (by omega), if_pos e2]; omega
    · rw [if_neg (by omega), if_neg e2]; omega
end Go.Proofs.YtmnoplaepjaokaaGreatDoor.Ya
