/- Weak. -/
import Derived.Test.YtdgiekaiagpdjaaOd
namespace Go.Proofs.Ytdgiekaiagpdjaa.Wk
set_option linter.unusedVariables false
open Go.RowKit Pla Cb Tk Sm Wd Nw Bk Aw Eb Et Xo Od
def k1 : List UInt8 := [1, 1, 1, 1, 1, 1, 1, 1]
def k2 : List UInt8 := [254, 254, 254, 254, 254, 254, 254, 254]
def k3 : List UInt8 := [224, 224, 224, 224, 241, 241, 241, 241]
def k4 : List UInt8 := [31, 31, 31, 31, 14, 14, 14, 14]
def oddP (s : ByteArray) (i : Nat) : ByteArray := ⟨(oddL (pt s.data.toList i)).toArray⟩
def isW (x : ByteArray) : Bool := (x.toList == k1) || (x.toList == k2) || (x.toList == k3) || (x.toList == k4)
def wkU (s : ByteArray) (j : Nat) : Bool := (List.range j).any fun i => isW (oddP s i)
theorem wkU_succ (s : ByteArray) (j : Nat) : wkU s (j + 1) = (wkU s j || isW (oddP s j)) := by simp [wkU, List.range_succ]
theorem wkU_mono (s : ByteArray) (j K : Nat) (h : j < K) (hw : isW (oddP s j) = true) : wkU s K = true := by
  rw [wkU, List.any_eq_true]; exact ⟨j, List.mem_range.2 h, hw⟩
set_option maxRecDepth 100000 in
set_option maxHeartbeats 1600000 in
theorem weak_any (s : ByteArray) (w : World) :
    Calls Try.prog 9 #[.string s] w fun e w' => e = .returned (.bool (wkU s (kindN s.size))) ∧ Below w.heap.size w w' := by
  have hsz : 8 * kindN s.size ≤ s.size := by
    unfold kindN
    split
    · omega
    · split
      · omega
      · split <;> omega
  have h3 : kindN s.size ≤ 3 := by
    unfold kindN
    split
    · omega
    · split
      · omega
      · split <;> omega
  have KI := fun u => kind_any s u
  generalize kindN s.size = K at *
  go_enter Try.func9, Try.ntmps9
  go_wp2_with (go_at_call 13; refine (KI _).mono ?_; rintro e x ⟨rfl, hx⟩; rw [hx])
  go_loopw [3, 6] (fun i c wr => ∃ j : Nat, j ≤ K ∧ c = .int .i64 (j : Int) ∧ Hid (wkU s j = false) ∧ Below w.heap.size w wr) (fun _ c _ => 4 - (intOf c).toNat)
  case atStart => exact ⟨0, Nat.zero_le _, rfl, rfl, Below.refl _ _⟩
  case round =>
    obtain ⟨j, hj, rfl, hwk, hb⟩ := hrel
    by_cases hlt : j < K
    · have q0 : (0 : Int) ≤ (j : Int) := by omega
      have q1 : (j : Int) < (K : Int) := by omega
      have PA := fun u => part_any s j (by omega) (by omega) u
      have hps : (s.extract (8 * j) (8 * j + 8)).size ≤ 1099511627776 := by rw [ByteArray.size_extract]; omega
      have OD := fun u => odd_any (s.extract (8 * j) (8 * j + 8)) hps u
      have e0 : (s.extract (8 * j) (8 * j + 8)).data.toList = pt s.data.toList j := by
        rw [pt, ByteArray.data_extract, Array.toList_extract, List.extract_eq_take_drop, show 8 * j + 8 - 8 * j = 8 by omega]
      rw [e0] at OD
      have OD : ∀ u, Calls Try.prog 14 #[.string (s.extract (8 * j) (8 * j + 8))] u fun e w' => e = .returned (.string (oddP s j)) ∧ Below u.heap.size u w' := OD
      have HS : Hid (wkU s (j + 1) = (wkU s j || isW (oddP s j))) := wkU_succ s j
      have HM : Hid (isW (oddP s j) = true → wkU s K = true) := wkU_mono s j K hlt
      have HI : Hid (isW (oddP s j) = (((oddP s j).toList == [1, 1, 1, 1, 1, 1, 1, 1]) || ((oddP s j).toList == [254, 254, 254, 254, 254, 254, 254, 254]) || ((oddP s j).toList == [224, 224, 224, 224, 241, 241, 241, 241]) || ((oddP s j).toList == [31, 31, 31, 31, 14, 14, 14, 14]))) := rfl
      generalize oddP s j = X at *
      clear e0 hps
      cases x1 : (X.toList == [1, 1, 1, 1, 1, 1, 1, 1])
      · cases x2 : (X.toList == [254, 254, 254, 254, 254, 254, 254, 254])
        · cases x3 : (X.toList == [224, 224, 224, 224, 241, 241, 241, 241])
          · cases x4 : (X.toList == [31, 31, 31, 31, 14, 14, 14, 14])
            · have hF : Hid (wkU s (j + 1) = false) := (by rw [HS.out, hwk.out, HI.out, x1, x2, x3, x4]; rfl : wkU s (j + 1) = false)
              clear HM HI HS hwk
              go_wp2_with (first
          | (go_at_call 15; refine (PA _).mono ?_; rintro e y1 ⟨rfl, hy1⟩; rw [hy1])
          | (go_at_call 14; refine (OD _).mono ?_; rintro e y2 ⟨rfl, h2⟩))
              exact ⟨⟨j + 1, hlt, by simp, hF.out, keepB hb h2⟩, by simp only [intOf]; omega⟩
            · have hT : wkU s K = true := HM.out (by rw [HI.out, x1, x2, x3, x4]; simp)
              have HT : Hid (wkU s K = true) := hT
              clear hT HM HI HS hwk
              go_wp2_with (first
          | (go_at_call 15; refine (PA _).mono ?_; rintro e y1 ⟨rfl, hy1⟩; rw [hy1])
          | (go_at_call 14; refine (OD _).mono ?_; rintro e y2 ⟨rfl, h2⟩))
              go_ret
              exact ⟨by rw [HT.out]; rfl, keepB hb h2⟩
          · have hT : wkU s K = true := HM.out (by rw [HI.out, x1, x2, x3]; simp)
            have HT : Hid (wkU s K = true) := hT
            clear hT HM HI HS hwk
            go_wp2_with (first
          | (go_at_call 15; refine (PA _).mono ?_; rintro e y1 ⟨rfl, hy1⟩; rw [hy1])
          | (go_at_call 14; refine (OD _).mono ?_; rintro e y2 ⟨rfl, h2⟩))
            go_ret
            exact ⟨by rw [HT.out]; rfl, keepB hb h2⟩
        · have hT : wkU s K = true := HM.out (by rw [HI.out, x1, x2]; simp)
          have HT : Hid (wkU s K = true) := hT
          clear hT HM HI HS hwk
          go_wp2_with (first
          | (go_at_call 15; refine (PA _).mono ?_; rintro e y1 ⟨rfl, hy1⟩; rw [hy1])
          | (go_at_call 14; refine (OD _).mono ?_; rintro e y2 ⟨rfl, h2⟩))
          go_ret
          exact ⟨by rw [HT.out]; rfl, keepB hb h2⟩
      · have hT : wkU s K = true := HM.out (by rw [HI.out, x1]; simp)
        have HT : Hid (wkU s K = true) := hT
        clear hT HM HI HS hwk
        go_wp2_with (first
          | (go_at_call 15; refine (PA _).mono ?_; rintro e y1 ⟨rfl, hy1⟩; rw [hy1])
          | (go_at_call 14; refine (OD _).mono ?_; rintro e y2 ⟨rfl, h2⟩))
        go_ret
        exact ⟨by rw [HT.out]; rfl, keepB hb h2⟩
    · obtain rfl : j = K := by omega
      have q1 : ¬ (j : Int) < (j : Int) := by omega
      go_wp2
      go_ret
      exact ⟨by rw [hwk.out]; rfl, hb⟩
end Go.Proofs.Ytdgiekaiagpdjaa.Wk
