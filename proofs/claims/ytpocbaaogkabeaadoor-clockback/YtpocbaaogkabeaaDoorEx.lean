/- The chapter's examples. -/
import Derived.Test.YtpocbaaogkabeaaDoorBu
import Derived.Test.YtpocbaaogkabeaaDoorNer
namespace Go.Proofs.YtpocbaaogkabeaaDoor.Ex
set_option linter.unusedVariables false
set_option linter.unusedSimpArgs false
open Go.RowKit Kb Ca Ld De Oe Hx Dy Dz Sg Sm Sn Nr Ner Pa Te Bu
theorem ex_of : ofV 2024 2 29 12 34 56 = 762525296 ∧ ofE 2024 2 29 12 34 56 = 0 := by decide
theorem day_last : IsDay 36524 2099 12 31 := ⟨by decide, by decide, by decide, by decide, by decide, by decide, by decide⟩
theorem day_leap : IsDay 8825 2024 2 29 := ⟨by decide, by decide, by decide, by decide, by decide, by decide, by decide⟩
def nearS : ByteArray := ⟨#[49, 50, 51, 49, 50, 51, 53, 57, 53, 57]⟩
theorem near_is : isSt nearS = true := by decide
theorem near_tw : tw nearS.data.toList 0 = 12 ∧ tw nearS.data.toList 2 = 31 ∧ tw nearS.data.toList 4 = 23 ∧ tw nearS.data.toList 6 = 59 ∧ tw nearS.data.toList 8 = 59 := by decide
theorem ex_near {b : Int} (h : IsNear nearS 31622400 b) : b = 31622399 := by
  unfold IsNear at h
  rw [near_tw.1, near_tw.2.1, near_tw.2.2.1, near_tw.2.2.2.1, near_tw.2.2.2.2] at h
  have e0 : sk 12 31 23 59 59 2000 = 31622399 := by decide
  refine h.one (.inr ⟨2000, by omega, by omega, by decide, e0.symm, fun z z0 z1 hz => ?_⟩)
  rw [e0]
  rcases (by omega : z = 2000 ∨ 2001 ≤ z) with rfl | hz1
  · rw [e0]; exact ⟨Int.le_refl _, fun h => by omega⟩
  · have a := ay_mono (y := 2001) (z := z) (by omega) hz1
    have a1 : ay 2001 = 366 := by decide
    have m := am_bd z (m := 12) (by omega) (by omega)
    have e : sk 12 31 23 59 59 z = (ay z + am z 12 + 31 - 1) * 86400 + 23 * 3600 + 59 * 60 + 59 := rfl
    rw [e]
    unfold fr
    refine ⟨?_, fun h => by omega⟩
    split <;> split <;> omega
theorem ex_week : wkV 0 = 6 ∧ mE 0 = 0 := by decide
set_option maxRecDepth 100000 in
set_option maxHeartbeats 1600000 in
theorem examples_any (w : World) (hT : Tab w) : Calls Tryd.prog 9 #[] w fun e w' => e = .returned (.bool true) ∧ Below w.heap.size w w' := by
  have c1 := fun x hT => of_any 2024 2 29 12 34 56 x hT
  have c2 := fun x hT => date_good 3155759999 (by decide) (by decide) x hT
  have c3 := fun x hT => stampV_good 762525296 (by decide) (by decide) x hT
  have c4 := fun x hT => near_good nearS (by decide) 31622400 (by decide) (by decide) near_is x hT
  have c5 := fun x => weekday_any 0 x
  rw [ex_of.1, ex_of.2] at c1
  rw [ex_week.1, ex_week.2] at c5
  unfold nearS at c4
  unfold dt at c1 c2
  go_enter Tryd.func9, Tryd.ntmps9
  go_wp2_with fail
  refine (c1 _ hT).mono ?_
  rintro e x1 ⟨rfl, b1⟩
  go_wp2_with fail
  refine (c2 _ (hT.next b1)).mono ?_
  rintro e x2 ⟨⟨Y, M, D, hd, rfl⟩, b2⟩
  obtain ⟨rfl, rfl, rfl⟩ := hd.one day_last
  have B2 := keepB b1 b2
  have B3 : ∀ o, Below w.heap.size w (x2.alloc o) := fun o => keepB B2 (below_one _ _)
  clear hd b1 b2
  go_wp2_with fail
  refine (c3 _ (hT.next (B3 _))).mono ?_
  rintro e x3 ⟨⟨Y, M, D, hd, rfl⟩, b3⟩
  obtain ⟨rfl, rfl, rfl⟩ := hd.one day_leap
  have B4 := keepB (B3 _) b3
  have S3 := kept b3 (h1_0 x2 _)
  clear hd
  go_wp2_with fail
  refine (c4 _ (hT.next B4)).mono ?_
  rintro e x4 ⟨⟨b, hn, rfl⟩, b4⟩
  obtain rfl := ex_near hn
  have B5 := keepB B4 b4
  have S4 := kept b4 S3
  clear hn
  go_wp2_with fail
  refine (c5 _).mono ?_
  rintro e x5 ⟨rfl, rfl⟩
  obtain ⟨r0, r1, r2, r3, r4, r5⟩ := held6 S4
  clear c1 c2 c3 c4 c5 S3 B3
  go_wp2
  go_ret
  exact ⟨rfl, B5⟩
end Go.Proofs.YtpocbaaogkabeaaDoor.Ex
