/- Check; known. -/
import Derived.Test.YtdgiekaiagpdjaaKn
namespace Go.Proofs.Ytdgiekaiagpdjaa.Ck
set_option linter.unusedVariables false
open Go.RowKit Pla Cb Tk Wd Nw Bk Aw Eb Et Kn
open Lib0 (bs bs_length bs_append owns_len run_str own_ge)
def z64 : List Bool := List.replicate 64 false
theorem z64_val : ((val z64 : Nat) : Int) = 0 := by have : val z64 = 0 := by kernel_rfl
                                                    rw [this]; rfl
/-- 'string(b[:3])' -/
theorem run_three {P : Program} {w : World} {src dst e : TypeId} {B : Nat} {v : Value} {l : List UInt8} (hs : P.underlying src = some (.slice e)) (he : P.underlying e = some (.int .u8)) (hd : P.underlying dst = some .string)
    (h : w.ownsRow B e 1 v 8 (bs l)) : ∃ g cap, v = .slice (some ⟨g, 0, none⟩) 8 cap ∧ 8 ≤ cap ∧ (convert src dst (.slice (some ⟨g, 0, none⟩) 3 cap)).run P w = .ok (.string ⟨(l.take 3).toArray⟩) w := by
  rcases h.2 with ⟨rfl, h0⟩ | ⟨g, cap, cur, rfl, hb, hg, hc, hc2, hsz, htk⟩
  · cases h0
  · refine ⟨g, cap, rfl, hc, ?_⟩
    have hown : w.ownsRow B e 1 (.slice (some ⟨g, 0, none⟩) 3 cap) 3 (bs (l.take 3)) := by
      have hl : l.length = 8 := by have := h.1; rw [bs_length] at this; omega
      refine ⟨by rw [bs_length, List.length_take, hl]; decide, .inr ⟨g, cap, cur, rfl, hb, hg, by omega, hc2, hsz, ?_⟩⟩
      have : cur.toList.take (3 * 1) = (cur.toList.take (8 * 1)).take 3 := by rw [List.take_take]; rfl
      rw [this, htk, bs, bs, List.map_take]
    exact run_str hs he hd hown
set_option maxRecDepth 100000 in
set_option maxHeartbeats 1600000 in
theorem check_bad (s : ByteArray) (h : kindN s.size = 0) (w : World) : Calls Try.prog 12 #[.string s] w fun e w' => e = .returned (.tuple #[.string ⟨#[]⟩, .int .i64 30]) ∧ w' = w := by
  go_enter Try.func12, Try.ntmps12
  go_wp2_with (go_at_call 10; refine (new_bad s h _).mono ?_; rintro e x ⟨rfl, rfl⟩)
  exact bodyPost_ret (v := .tuple #[.string ⟨#[]⟩, .int .i64 30]) (by simp [results, Try.results12, go_sem]) rfl ⟨rfl, rfl⟩
set_option maxRecDepth 100000 in
set_option maxHeartbeats 1600000 in
theorem check_good (s : ByteArray) (K : Nat) (h : Hid (kindN s.size = K)) (h1 : 1 ≤ K) (h3 : K ≤ 3) (w : World) : Calls Try.prog 12 #[.string s] w fun e w' => e = .returned (.tuple #[.string ⟨((byW (enc s.data.toList z64)).take 3).toArray⟩, .int .i64 0]) ∧ Below w.heap.size w w' := by
  have hK : Hid (kindN s.data.toList.length = K ∧ 1 ≤ K) := (⟨by rw [show s.data.toList.length = s.size by simp]; exact h, h1⟩ : kindN s.data.toList.length = K ∧ 1 ≤ K)
  have NE := new_good s K h h1 h3
  have EN := fun g y (hy : Key y g K s.data.toList) => encB s.data.toList g K hK z64 (rfl : z64.length = 64) y hy
  rw [z64_val] at EN
  have AP := fun (y : World) => appw (enc s.data.toList z64) (enc_len _ _) w.heap.size 0 (.slice none 0 0) [] y (World.ownsRow_nil _ _ _ _)
  clear h hK
  go_enter Try.func12, Try.ntmps12
  go_wp2_with (first
    | (go_at_call 10; refine (NE _).mono ?_; rintro e x ⟨g, rfl, hg, hx, hbx⟩)
    | (go_at_call 19; refine (EN g _ hx).mono ?_; rintro e y ⟨rfl, hy⟩; have hys : w.heap.size ≤ y.heap.size := Nat.le_trans hbx.size hy.size)
    | (go_at_call 20; refine (AP _ hys (by decide)).mono ?_; rintro e z ⟨v, rfl, hown, hz⟩; obtain ⟨gg, cap, rfl, hcap, hcv⟩ := run_three (P := Try.prog) (src := 25) (dst := 9) Try.underlying25 Try.underlying5 Try.underlying9 hown; have c1 : (3 : Int) ≤ (cap : Int) := by omega))
  exact bodyPost_ret (v := .tuple #[.string ⟨((byW (enc s.data.toList z64)).take 3).toArray⟩, .int .i64 0]) (by simp [results, Try.results12, go_sem]) rfl ⟨rfl, (keepB hbx hy).trans hz⟩
set_option maxRecDepth 100000 in
set_option maxHeartbeats 1600000 in
theorem known_any (w : World) : Calls Try.prog 4 #[] w fun e w' => e = .returned (.bool true) ∧ Below w.heap.size w w' := by
  have N1 := new_good ⟨akey.toArray⟩ 1 (rfl : kindN 8 = 1) (by decide) (by decide)
  have E1 := fun g y (hy : Key y g 1 akey) => Enc_good ⟨ap.toArray⟩ g 1 1 akey y (rfl : (ByteArray.mk ap.toArray).size = 8 * 1) (by decide) (⟨rfl, by decide⟩ : kindN akey.length = 1 ∧ 1 ≤ 1) hy
  rw [show (ByteArray.mk ap.toArray).data.toList = ap from rfl, a_map] at E1
  have C1 := check_good ⟨bkey.toArray⟩ 1 (rfl : kindN 8 = 1) (by decide) (by decide)
  rw [show (ByteArray.mk bkey.toArray).data.toList = bkey from rfl, show z64 = bx from rfl, b_take] at C1
  go_enter Try.func4, Try.ntmps4
  go_wp2_with (first
    | (go_at_call 10; refine (N1 _).mono ?_; rintro e x ⟨g, rfl, hg, hx, hbx⟩)
    | (go_at_call 11; refine (E1 g _ hx).mono ?_; rintro e y ⟨rfl, hy⟩)
    | (go_at_call 12; refine (C1 _).mono ?_; rintro e z ⟨rfl, hz⟩))
  go_ret
  exact ⟨rfl, keepB (keepB hbx hy) hz⟩
end Go.Proofs.Ytdgiekaiagpdjaa.Ck
