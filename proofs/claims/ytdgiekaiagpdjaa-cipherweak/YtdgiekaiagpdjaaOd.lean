/- Odd, Weak. -/
import Derived.Test.YtdgiekaiagpdjaaCk
import Derived.Test.YtdgiekaiagpdjaaShelf
import Derived.Test.YtdgiekaiagpdjaaXo
import Derived.Laws.IdiomStrings
namespace Go.Proofs.Ytdgiekaiagpdjaa.Od
set_option linter.unusedVariables false
open Go.RowKit Pla Cb Tk Sm Wd Nw Bk Aw Eb Et Xo
/-- a byte with its lowest bit such that its ones are odd -/
def oddC (c : UInt8) : UInt8 := if Lib.onesCount c.toNat % 2 = 0 then c ^^^ 1 else c
def oddL (l : List UInt8) : List UInt8 := l.map oddC
theorem oddL_len (l : List UInt8) : (oddL l).length = l.length := by simp [oddL]
theorem xor1 (x : UInt8) : bits .xor .u8 (x.toNat : Int) 1 = ((x ^^^ 1).toNat : Int) := by
  have := u8_xor_nat x.toNat 1 x.toNat_lt (by decide)
  rw [UInt8.toNat_xor]; exact this
/-- the row while it is gone through -/
def Row (s : ByteArray) (j : Nat) (A : Array Value) : Prop := s.size ≤ A.size ∧ ∀ i (h : i < s.size), A[i]? = some (.int .u8 ((if i < j then oddC s[i] else s[i]).toNat : Int))
theorem row_zero (s : ByteArray) (C : Nat) : Row s 0 (bytesRow s C) := by
  refine ⟨by simp [bytesRow], fun i h => ?_⟩
  rw [bytesRow_at s C i h, if_neg (by omega)]; rfl
theorem row_same (s : ByteArray) (j : Nat) (A : Array Value) (h : Row s j A) (hj : j < s.size) (he : oddC s[j] = s[j]) : Row s (j + 1) A := by
  refine ⟨h.1, fun i hi => ?_⟩
  rw [h.2 i hi]
  by_cases c : i < j
  · rw [if_pos c, if_pos (by omega)]
  · by_cases c2 : i = j
    · subst c2; rw [if_neg (by omega), if_pos (by omega), he]
    · rw [if_neg c, if_neg (by omega)]
theorem row_set (s : ByteArray) (j : Nat) (A : Array Value) (h : Row s j A) (hj : j < s.size) (v : UInt8) (he : oddC s[j] = v) : Row s (j + 1) (A.setIfInBounds j (.int .u8 (v.toNat : Int))) := by
  refine ⟨by simpa using h.1, fun i hi => ?_⟩
  rw [Array.getElem?_setIfInBounds]
  by_cases c2 : j = i
  · subst c2; rw [if_pos rfl, if_pos (by have := h.1; omega), if_pos (by omega), he]
  · rw [if_neg c2, h.2 i hi]
    by_cases c : i < j
    · rw [if_pos c, if_pos (by omega)]
    · rw [if_neg c, if_neg (by omega)]
theorem row_str {P : Program} {w : World} {src dst e : TypeId} {g C : Nat} {s : ByteArray} {A : Array Value} {t : TypeId} {fr : Nat × Nat} (h : Row s s.size A) (hs : P.underlying src = some (.slice e)) (he : P.underlying e = some (.int .u8)) (hd : P.underlying dst = some .string)
    (hg : w.heap[g]? = some (.cells A t fr)) : (convert src dst (.slice (some ⟨g, 0, none⟩) s.size C)).run P w = .ok (.string ⟨(oddL s.data.toList).toArray⟩) w := by
  have hl : (oddL s.data.toList).length = s.size := by rw [oddL_len]; simp
  have hh := run_convert_bytes_back (P := P) w src dst e ⟨g, 0, none⟩ C (oddL s.data.toList) hs he hd (fun j hj => by
    have hj' : j < s.size := by rwa [hl] at hj
    rw [show (⟨g, 0, none⟩ : Addr).add j = ⟨g, j, none⟩ by unfold Addr.add; split <;> simp_all, cell_of_row w g j _ t fr hg, h.2 j hj', if_pos hj']
    simp [oddL]; rfl)
  rw [hl] at hh
  exact hh
set_option maxRecDepth 100000 in
set_option maxHeartbeats 1600000 in
theorem odd_any (s : ByteArray) (hs : s.size ≤ 1099511627776) (w : World) :
    Calls Try.prog 14 #[.string s] w fun e w' => e = .returned (.string ⟨(oddL s.data.toList).toArray⟩) ∧ Below w.heap.size w w' := by
  have cv := run_bytes_of_string (P := Try.prog) w 9 25 5 s Try.underlying9 Try.underlying25 Try.underlying5
  have rz := row_zero s (grownCap w s.size 0 5)
  generalize bytesRow s (grownCap w s.size 0 5) = A0 at *
  generalize grownCap w s.size 0 5 = C at *
  have hz : A0.size = A0.size := rfl
  generalize hn : A0.size = n0 at cv
  have g0 : (w.drew.alloc (.cells A0 5 (n0, n0 + 1))).heap[w.heap.size]? = some (.cells A0 5 (n0, n0 + 1)) := h1_0 w.drew _
  have b0 : Below w.heap.size w (w.drew.alloc (.cells A0 5 (n0, n0 + 1))) := ((Below.refl _ w).drew).alloc (Nat.le_refl _) _
  generalize w.drew.alloc (.cells A0 5 (n0, n0 + 1)) = W0 at *
  go_enter Try.func14, Try.ntmps14
  go_wp2
  go_loopw [4, 5, 10] (fun i cc c wr => ∃ (j : Nat) (A : Array Value), j ≤ s.size ∧ c = .int .i64 (j : Int) ∧ Row s j A ∧ A.size = n0 ∧ wr.heap[w.heap.size]? = some (.cells A 5 (n0, n0 + 1)) ∧ Below w.heap.size w wr) (fun _ _ c _ => s.size + 1 - (intOf c).toNat)
  case atStart => exact ⟨0, A0, Nat.zero_le _, rfl, rz, hn, g0, b0⟩
  case round =>
    obtain ⟨j, A, hj, rfl, hA, hAs, hg, hb⟩ := hrel
    by_cases hlt : j < s.size
    · have q0 : (0 : Int) ≤ (j : Int) := by omega
      have q1 : (j : Int) < (s.size : Int) := by omega
      have c0 : wr.cell? ⟨w.heap.size, j, none⟩ = some (.int .u8 (s[j].toNat : Int)) := by rw [cell_of_row wr _ j _ _ _ hg, hA.2 j hlt, if_neg (by omega)]
      have f0 : wr.frozen? ⟨w.heap.size, j, none⟩ = false := by
        have := hA.1
        simp [World.frozen?, hg]; omega
      have x0 : (0 : Int) ≤ (s[j].toNat : Int) := by omega
      have x1 : (s[j].toNat : Int) ≤ 255 := by have := s[j].toNat_lt; omega
      have OC := fun u => Try.bits_OnesCount8 (s[j].toNat : Int) u x0 x1
      rw [Int.toNat_natCast] at OC
      have u1 := xor1 s[j]
      by_cases hev : Lib.onesCount s[j].toNat % 2 = 0
      · have z : (((Lib.onesCount s[j].toNat : Nat) : Int) % 2 == 0) = true := beq_iff_eq.mpr (by omega)
        have HR : Hid (Row s (j + 1) (A.setIfInBounds j (.int .u8 ((s[j] ^^^ 1).toNat : Int)))) := row_set s j A hA hlt _ (by rw [oddC, if_pos hev])
        have hsz : (A.setIfInBounds j (.int .u8 ((s[j] ^^^ 1).toNat : Int))).size = n0 := by simpa using hAs
        have HG := setCell_heap hg j (.int .u8 ((s[j] ^^^ 1).toNat : Int))
        have HB := below_setCell hb (Nat.le_refl w.heap.size) j (.int .u8 ((s[j] ^^^ 1).toNat : Int))
        generalize (s[j] ^^^ 1).toNat = v at *
        generalize Lib.onesCount s[j].toNat = oc at *
        generalize s[j].toNat = x at *
        clear hev hA hg hb cv
        go_wp2_with (go_at_call 21; refine (OC _).mono ?_; rintro e y ⟨rfl, hy⟩; rw [hy])
        exact ⟨⟨j + 1, _, hlt, by simp, HR.out, hsz, HG, HB⟩, by simp only [intOf]; omega⟩
      · have z : (((Lib.onesCount s[j].toNat : Nat) : Int) % 2 == 0) = false := beq_eq_false_iff_ne.mpr (by omega)
        have HR : Hid (Row s (j + 1) A) := row_same s j A hA hlt (by rw [oddC, if_neg hev])
        generalize (s[j] ^^^ 1).toNat = v at *
        generalize Lib.onesCount s[j].toNat = oc at *
        generalize s[j].toNat = x at *
        clear hev hA cv
        go_wp2_with (go_at_call 21; refine (OC _).mono ?_; rintro e y ⟨rfl, hy⟩; rw [hy])
        exact ⟨⟨j + 1, A, hlt, by simp, HR.out, hAs, hg, hb⟩, by simp only [intOf]; omega⟩
    · obtain rfl : j = s.size := by omega
      have cs := row_str (P := Try.prog) (src := 25) (dst := 9) (e := 5) (C := C) hA Try.underlying25 Try.underlying5 Try.underlying9 hg
      have q1 : ¬ (s.size : Int) < (s.size : Int) := by omega
      clear cv hA
      go_wp2
      go_ret
      exact ⟨rfl, hb⟩
end Go.Proofs.Ytdgiekaiagpdjaa.Od
