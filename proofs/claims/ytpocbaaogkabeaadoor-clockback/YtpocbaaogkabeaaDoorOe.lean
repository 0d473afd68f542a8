/- Of: the program's. -/
import Derived.Test.YtpocbaaogkabeaaDoorDe
namespace Go.Proofs.YtpocbaaogkabeaaDoor.Oe
set_option linter.unusedVariables false
set_option linter.unusedSimpArgs false
open Go.RowKit Kb Ca Ld De
theorem held6 {x : World} {b : Nat} {t : TypeId} {v0 v1 v2 v3 v4 v5 : Value} (hx : x.heap[b]? = some (Obj.cells #[v0, v1, v2, v3, v4, v5] t)) :
    x.cell? ⟨b, 0, none⟩ = some v0 ∧ x.cell? ⟨b, 1, none⟩ = some v1 ∧ x.cell? ⟨b, 2, none⟩ = some v2 ∧ x.cell? ⟨b, 3, none⟩ = some v3 ∧ x.cell? ⟨b, 4, none⟩ = some v4 ∧ x.cell? ⟨b, 5, none⟩ = some v5 := by
  refine ⟨?_, ?_, ?_, ?_, ?_, ?_⟩ <;> simp [World.cell?, hx]
/-- the moment of a date, and why not -/
def ofV (Y M D h mi s : Int) : Int := if isD Y M D h mi s = true then mom Y M D h mi s else 0
def ofE (Y M D h mi s : Int) : Int := if isD Y M D h mi s = true then 0 else 80
theorem ret_two {a a' b b' : Int} (h : a = a') (g : b = b') : Ending.returned (.tuple #[.int .i64 a, .int .i64 b]) = .returned (.tuple #[.int .i64 a', .int .i64 b']) := by rw [h, g]
set_option maxRecDepth 100000 in
set_option maxHeartbeats 1600000 in
theorem of_any (Y M D h mi s : Int) (w : World) (hT : Tab w) : Calls Tryd.prog 10 #[dt Y M D h mi s] w fun e w' => e = .returned (.tuple #[.int .i64 (ofV Y M D h mi s), .int .i64 (ofE Y M D h mi s)]) ∧ Below w.heap.size w w' := by
  cases hd : isD Y M D h mi s
  · have hI : ∀ o, Calls _ _ _ (w.alloc o) _ := fun o => isDate_any Y M D h mi s (w.alloc o) (hT.next (below_one w o))
    rw [hd] at hI
    rw [show ofV Y M D h mi s = 0 by simp [ofV, hd], show ofE Y M D h mi s = 80 by simp [ofE, hd]]
    clear hd
    unfold dt at hI ⊢
    go_enter Tryd.func10, Tryd.ntmps10
    go_wp2_with fail
    refine (hI _).mono ?_
    rintro e x ⟨rfl, hb⟩
    have hB := keepB (below_one w _) hb
    go_wp2
    go_ret2
    exact ⟨rfl, hB⟩
  · have hI : ∀ o, Calls _ _ _ (w.alloc o) _ := fun o => isDate_any Y M D h mi s (w.alloc o) (hT.next (below_one w o))
    rw [hd] at hI
    have b := (isD_day hd).bd
    have e := of_decide_eq_true hd
    have eY := ay_mono (y := 2000) (z := Y) (by omega) (by omega)
    rw [ay_2000] at eY
    have eM := am_bd Y (m := M) (by omega) (by omega)
    have e31 := dm_bd Y (m := M) (by omega) (by omega)
    obtain ⟨g1, g2, g3, g4, g5, g6, g7, g8, g9, g10, g11, g12⟩ := e
    have g13 : D ≤ 31 := by omega
    have g14 : ay Y ≤ 36525 := by omega
    have g15 : 0 ≤ ay Y := by omega
    obtain ⟨g16, g17⟩ := eM
    have g18 : 0 ≤ ay Y + am Y M + D - 1 := by omega
    have g19 : ay Y + am Y M + D - 1 < 36525 := by omega
    clear b e31 eY
    have cY : ∀ x : World, Calls _ _ _ x _ := fun x => year_any Y (by omega) (by omega) x
    have cM : ∀ x : World, Tab x → Calls _ _ _ x _ := fun x hT => month_any Y M g3 (by omega) x hT
    have eV : mom Y M D h mi s = (ay Y + am Y M + D - 1) * 86400 + h * 3600 + mi * 60 + s := rfl
    have eW : ofV Y M D h mi s = mom Y M D h mi s := by simp [ofV, hd]
    have eE : ofE Y M D h mi s = 0 := by simp [ofE, hd]
    rw [eW, eE, eV]
    clear eW eE eV hd
    generalize ay Y = A at *
    generalize am Y M = B at *
    unfold dt at hI ⊢
    go_enter Tryd.func10, Tryd.ntmps10
    go_wp2_with fail
    refine (hI _).mono ?_
    rintro e x ⟨rfl, hb⟩
    have hB := keepB (below_one w _) hb
    have hT2 : ∀ n, Tab (x.drewN n) := fun n => hT.next (below_drewN hB n)
    obtain ⟨r0, r1, r2, r3, r4, r5⟩ := held6 (kept hb (h1_0 w _))
    clear hI
    go_wp2_with fail
    go_quiet (first | (go_at_call 31; exact Calls.quiet_of_same (cY _)) | (go_at_call 32; exact Calls.quiet_of_same (cM _ (hT2 _))))
    go_wp2
    all_goals (go_ret2; exact ⟨rfl, below_drewN hB _⟩)
end Go.Proofs.YtpocbaaogkabeaaDoor.Oe
