/- The document's Parse. -/
import Derived.Test.YtgidjfhlooggkaaRy
import Derived.Test.YtgidjfhlooggkaaGn
import Derived.BigQuiet
namespace Go.Proofs.Ytgidjfhlooggkaa.Rp
set_option linter.unusedVariables false
set_option linter.unusedSimpArgs false
open Go.RowKit Kb Ga Gb Gc Gd Nt Gf Gg Nb Rr Np Gj Gn Go_ Ry
set_option maxRecDepth 100000 in
set_option maxHeartbeats 1600000 in
theorem parse_doc (s : ByteArray) (w : World) (hs : s.size ≤ 4611686018427387904) : Calls Try.prog 11 #[.string s] w (PostR w (parseR s)) := by
  unfold parseR
  by_cases h9 : s.size ≤ 9999
  case neg =>
    rw [if_neg h9]
    have h9' : 9999 < (s.size : Int) := by omega
    go_enter Try.func11, Try.ntmps11
    go_wp2
    go_ret3
    exact ⟨rfl, Below.refl _ _⟩
  rw [if_pos h9]
  have h9' : ¬ 9999 < (s.size : Int) := by omega
  have HA : (w.alloc (.cells #[.string s, .int .i64 0, .int .i64 0, .int .i64 0, .int .i64 0] 67)).heap[w.heap.size]? = some (.cells #[.string s, .int .i64 0, .int .i64 0, .int .i64 0, .int .i64 0] 67) := h1_0 w _
  have B0 := below_one w (.cells #[.string s, .int .i64 0, .int .i64 0, .int .i64 0, .int .i64 0] 67)
  have ck := nodesd_all s (by omega) s.size (w.alloc (.cells #[.string s, .int .i64 0, .int .i64 0, .int .i64 0, .int .i64 0] 67)) w.heap.size 0 s.size 1 0 ⟨HA, gr_refl _ _⟩ (Nat.zero_le _) (Nat.le_refl _) (by omega) (by omega) (by omega)
  have hsz : (w.alloc (.cells #[.string s, .int .i64 0, .int .i64 0, .int .i64 0, .int .i64 0] 67)).heap.size = w.heap.size + 1 := by simp
  have hBD := nbad_all s s.size 0 s.size 1 0
  unfold NBad at hBD
  replace hBD : Hid (∀ y a, nodesR s s.size 0 s.size 1 0 = .bad y a → y ≠ 0) := hBD
  replace HA : Hid True := trivial
  go_enter Try.func11, Try.ntmps11
  go_wp2_with fail
  generalize w.alloc (.cells #[.string s, .int .i64 0, .int .i64 0, .int .i64 0, .int .i64 0] 67) = w1 at *
  refine ck.mono ?_
  clear ck
  rintro _ y ⟨v, ats, rfl, ho, hp⟩
  have HBD := hBD.out
  clear hBD HA
  generalize nodesR s s.size 0 s.size 1 0 = R at *
  have hbel : ∀ {a m e b : Int}, Rk w1 w.heap.size s a m e b y → Below w.heap.size w y := fun h => B0.grown h.2 B0.size (by intro k e; injection e with e; omega)
  obtain ⟨o, cap, rfl⟩ := ho.form
  have HO : Hid (Nt.Own y w.heap.size (.slice o ats.length cap) ats) := ho.base (by omega)
  obtain ⟨L, HL⟩ : ∃ L, Hid (ats.length = L) := ⟨_, rfl⟩
  rw [HL.out] at HO ⊢
  clear ho
  cases R with
  | bad yy a =>
    obtain ⟨k, m, hr⟩ := hp
    have hy' : (yy == 0) = false := by have := HBD yy a rfl; simpa using this
    have HB : Hid (Below w.heap.size w y) := hbel hr
    obtain ⟨⟨c0, c1, c2, c3, c4⟩, fz⟩ := hr.1.at
    clear HBD hbel fz c0 c1 c2 hr B0
    go_wp2_with fail
    go_quiet (fail)
    clear c3 c4
    go_wp2_with fail
    go_ret3
    exact ⟨rfl, below_drewN HB.out nq⟩
  | ok ts k b =>
    obtain ⟨he, hr⟩ := hp
    have HB : Hid (Below w.heap.size w y) := hbel hr
    obtain ⟨⟨c0, c1, c2, c3, c4⟩, fz⟩ := hr.1.at
    clear HBD hbel fz c0 c1 c2 c4 hr B0
    go_wp2_with fail
    go_ret3
    exact ⟨_, ats, rfl, he, HO.out, HB.out⟩
end Go.Proofs.Ytgidjfhlooggkaa.Rp
