/- The document's Tag and Marked. -/
import Derived.Test.YtgidjfhlooggkaaIj
import Derived.Test.YtgidjfhlooggkaaMk
namespace Go.Proofs.Ytgidjfhlooggkaa.Mr
set_option linter.unusedVariables false
set_option linter.unusedSimpArgs false
open Go.RowKit Kb Ga Gb Gc Nt Ag Ij Mk
set_option maxRecDepth 100000 in
set_option maxHeartbeats 1600000 in
theorem tag_ref (t : Int) (w : World) (h0 : -9223372036854775808 ≤ t) (h1 : t ≤ 9223372036854775807) :
    Calls Try.prog 52 #[.int .i64 t] w fun e w' => e = .returned (.int .i64 (tgS t)) ∧ w' = w := by
  obtain ⟨R, HR⟩ : ∃ R, Hid (tgS t = R) := ⟨_, rfl⟩
  rw [HR.out]
  by_cases a1 : t < 1
  · have HE : Hid (R = 0) := by show _ = _; rw [← HR.out]; unfold tgS; rw [if_pos (by omega)]
    go_enter Try.func52, Try.ntmps52
    go_wp2
    go_ret
    exact ⟨by rw [HE.out]; rfl, rfl⟩
  by_cases a2 : 16777215 < t
  · have HE : Hid (R = 0) := by show _ = _; rw [← HR.out]; unfold tgS; repeat' split
                                all_goals omega
    go_enter Try.func52, Try.ntmps52
    go_wp2
    go_ret
    exact ⟨by rw [HE.out]; rfl, rfl⟩
  have p0 : 0 ≤ t := by omega
  by_cases b1 : t < 256
  · by_cases b2 : t % 32 = 31
    · have HE : Hid (R = 0) := by show _ = _; rw [← HR.out]; unfold tgS; repeat' split
                                  all_goals omega
      have b2' : (t % 32 == 31) = true := by simpa using b2
      clear b2
      go_enter Try.func52, Try.ntmps52
      go_wp2
      go_ret
      exact ⟨by rw [HE.out]; rfl, rfl⟩
    · have HE : Hid (R = 1) := by show _ = _; rw [← HR.out]; unfold tgS; repeat' split
                                  all_goals omega
      have b2' : (t % 32 == 31) = false := by simpa using b2
      clear b2
      go_enter Try.func52, Try.ntmps52
      go_wp2
      go_ret
      exact ⟨by rw [HE.out]; rfl, rfl⟩
  by_cases c1 : t < 65536
  · by_cases c2 : t / 256 % 32 = 31
    · have c2' : (t / 256 % 32 != 31) = false := by simpa using c2
      by_cases c3 : 127 < t % 256
      · have HE : Hid (R = 0) := by show _ = _; rw [← HR.out]; unfold tgS; repeat' split
                                    all_goals omega
        clear c2
        go_enter Try.func52, Try.ntmps52
        go_wp2
        go_ret
        exact ⟨by rw [HE.out]; rfl, rfl⟩
      · have HE : Hid (R = 2) := by show _ = _; rw [← HR.out]; unfold tgS; repeat' split
                                    all_goals omega
        clear c2
        go_enter Try.func52, Try.ntmps52
        go_wp2
        go_ret
        exact ⟨by rw [HE.out]; rfl, rfl⟩
    · have c2' : (t / 256 % 32 != 31) = true := by simpa using c2
      have HE : Hid (R = 0) := by show _ = _; rw [← HR.out]; unfold tgS; repeat' split
                                  all_goals omega
      clear c2
      go_enter Try.func52, Try.ntmps52
      go_wp2
      go_ret
      exact ⟨by rw [HE.out]; rfl, rfl⟩
  by_cases d1 : t / 65536 % 32 = 31
  · have d1' : (t / 65536 % 32 != 31) = false := by simpa using d1
    by_cases d2 : t / 256 % 256 < 129
    · have HE : Hid (R = 0) := by show _ = _; rw [← HR.out]; unfold tgS; repeat' split
                                  all_goals omega
      clear d1
      go_enter Try.func52, Try.ntmps52
      go_wp2
      go_ret
      exact ⟨by rw [HE.out]; rfl, rfl⟩
    · by_cases d3 : 127 < t % 256
      · have HE : Hid (R = 0) := by show _ = _; rw [← HR.out]; unfold tgS; repeat' split
                                    all_goals omega
        clear d1
        go_enter Try.func52, Try.ntmps52
        go_wp2
        go_ret
        exact ⟨by rw [HE.out]; rfl, rfl⟩
      · have HE : Hid (R = 3) := by show _ = _; rw [← HR.out]; unfold tgS; repeat' split
                                    all_goals omega
        clear d1
        go_enter Try.func52, Try.ntmps52
        go_wp2
        go_ret
        exact ⟨by rw [HE.out]; rfl, rfl⟩
  · have d1' : (t / 65536 % 32 != 31) = true := by simpa using d1
    have HE : Hid (R = 0) := by show _ = _; rw [← HR.out]; unfold tgS; repeat' split
                                all_goals omega
    clear d1
    go_enter Try.func52, Try.ntmps52
    go_wp2
    go_ret
    exact ⟨by rw [HE.out]; rfl, rfl⟩
theorem mkd_no {t : Int} (h : ¬ 0 < tgS t) : mkd t = false := by
  cases e : mkd t with
  | false => rfl
  | true => exact absurd (mkd_tg e) h
set_option maxRecDepth 100000 in
set_option maxHeartbeats 1600000 in
theorem marked_ref (t : Int) (w : World) (h0 : -9223372036854775808 ≤ t) (h1 : t ≤ 9223372036854775807) :
    Calls Try.prog 61 #[.int .i64 t] w fun e w' => e = .returned (.bool (mkd t)) ∧ w' = w := by
  have c := tag_ref t w h0 h1
  obtain ⟨B, HB⟩ : ∃ B, Hid (mkd t = B) := ⟨_, rfl⟩
  rw [HB.out]
  by_cases hp : 0 < tgS t
  · rcases tgS_cases t hp with ⟨a, a1, a2, a3⟩ | ⟨a, a1, a2, a3, a4⟩ | ⟨a, a1, a2, a3, a4, a5⟩
    · have HM : Hid ((t / 32 % 2 == 1) = B) := by
        show _ = _
        rw [← HB.out, (tg_one (by omega) a2 a3).2.2.2]
        rfl
      rw [a] at c
      have p0 : 0 ≤ t := by omega
      have hm := HM.out
      clear hp a a3 HB HM
      go_enter Try.func61, Try.ntmps61
      go_wp2_with fail
      refine c.mono ?_
      rintro _ y ⟨rfl, rfl⟩
      go_wp2
      go_ret
      exact ⟨by simp [hm], rfl⟩
    · have HM : Hid ((t / 8192 % 2 == 1) = B) := by
        show _ = _
        rw [← HB.out, (tg_two (by omega) a2 a3 a4).2.2.2, show t / 8192 = t / 256 / 32 by omega]
        rfl
      rw [a] at c
      have p0 : 0 ≤ t := by omega
      have hm := HM.out
      clear hp a a3 a4 HB HM
      go_enter Try.func61, Try.ntmps61
      go_wp2_with fail
      refine c.mono ?_
      rintro _ y ⟨rfl, rfl⟩
      go_wp2
      go_ret
      exact ⟨by simp [hm], rfl⟩
    · have HM : Hid ((t / 2097152 % 2 == 1) = B) := by
        show _ = _
        rw [← HB.out, (tg_three (by omega) a2 a3 a4 a5).2.2.2, show t / 2097152 = t / 65536 / 32 by omega]
        rfl
      rw [a] at c
      have p0 : 0 ≤ t := by omega
      have hm := HM.out
      clear hp a a3 a4 a5 HB HM
      go_enter Try.func61, Try.ntmps61
      go_wp2_with fail
      refine c.mono ?_
      rintro _ y ⟨rfl, rfl⟩
      go_wp2
      go_ret
      exact ⟨by simp [hm], rfl⟩
  · have HM : Hid (B = false) := by show _ = _; rw [← HB.out]; exact mkd_no hp
    have hz : tgS t = 0 := by have := Ls.tgS_bd t; omega
    rw [hz] at c
    clear hp hz HB
    go_enter Try.func61, Try.ntmps61
    go_wp2_with fail
    refine c.mono ?_
    rintro _ y ⟨rfl, rfl⟩
    go_wp2
    go_ret
    exact ⟨by rw [HM.out]; rfl, rfl⟩
end Go.Proofs.Ytgidjfhlooggkaa.Mr
