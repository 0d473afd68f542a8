import Derived.Test.YtciblmdpngnakaaGreatQs20
import Derived.Test.YtciblmdpngnakaaGreatQs26
import Derived.Test.YtciblmdpngnakaaGreatQs29
/- PINs under keys: the document's. -/
namespace Go.Proofs.YtciblmdpngnakaaGreat.Wb
set_option linter.unusedVariables false
set_option linter.unusedSimpArgs false
open Go.RowKit Lib0 Six Pp Cb Wa
open Rp (Post block_ref)
open Rq (open_ref)
theorem turnE (k s : ByteArray) (hk : k.size = 16) (hs : s.size = 8) (u : World) :
    Calls Tryz.prog 17 #[.string k, .string s, .bool false] u fun e w' => e = .returned (.tuple #[.string (eK k s), .int .i64 0]) ∧ Below u.heap.size u w' := by
  have h := Ru.turn_ref k s false (Or.inr (Or.inl hk)) 1 (by show s.size = 8 * 1; rw [hs]) (by decide) u
  rw [← Tu.map_turn k s 1 (by rw [hs]) false] at h
  exact h
theorem turnD (k s : ByteArray) (hk : k.size = 16) (hs : s.size = 8) (u : World) :
    Calls Tryz.prog 17 #[.string k, .string s, .bool true] u fun e w' => e = .returned (.tuple #[.string (dK k s), .int .i64 0]) ∧ Below u.heap.size u w' := by
  have h := Ru.turn_ref k s true (Or.inr (Or.inl hk)) 1 (by show s.size = 8 * 1; rw [hs]) (by decide) u
  rw [← Tu.map_turn k s 1 (by rw [hs]) true] at h
  exact h
set_option maxRecDepth 100000 in
set_option maxHeartbeats 800000 in
theorem seal_ref (k : ByteArray) (f : Int) (p q fill : ByteArray) (sk : k.size ≤ maxLen) (sp : p.size ≤ maxLen) (sq : q.size ≤ maxLen) (sf : fill.size ≤ maxLen) (w : World) :
    Calls Tryz.prog 7 #[.string k, .int .i64 f, .string p, .string q, .string fill] w (Post (sealR k f p q fill) w) := by
  unfold maxLen at sk
  by_cases h : k.size = 16
  · have x1 : ((k.size : Int) != 16) = false := by rw [h]; rfl
    have BA := fun u => block_ref f p q fill sp sq sf u
    have bs := block_size f p q fill
    have e1 : sealR k f p q fill = if (blockR f p q fill).2 ≠ 0 then (none8, (blockR f p q fill).2) else (eK k (blockR f p q fill).1, 0) := by unfold sealR; rw [if_neg (by simpa using h)]
    rw [e1]
    clear e1
    generalize blockR f p q fill = r at *
    obtain ⟨A, E⟩ := r
    simp only at *
    by_cases hE : E = 0
    · rw [if_neg (by simpa using hE)]
      subst hE
      have TU := fun u => turnE k A h (bs.2 rfl) u
      clear bs
      generalize eK k A = R at *
      go_enter Tryz.func7, Tryz.ntmps7
      go_wp2_with fail
      refine (BA _).mono ?_
      rintro e y ⟨rfl, hy⟩
      go_wp2_with fail
      refine (TU _).mono ?_
      rintro e z ⟨rfl, hz⟩
      go_wp2
      exact bodyPost_ret (v := .tuple #[.string R, .int .i64 0]) (by simp [results, Tryz.results7, go_sem]) rfl ⟨rfl, keepB hy hz⟩
    · rw [if_pos (by simpa using hE)]
      have hE' : (E != 0) = true := by simpa using hE
      clear bs
      go_enter Tryz.func7, Tryz.ntmps7
      go_wp2_with fail
      refine (BA _).mono ?_
      rintro e y ⟨rfl, hy⟩
      go_wp2
      exact bodyPost_ret (v := .tuple #[.string none8, .int .i64 E]) (by simp [results, Tryz.results7, go_sem, none8]) rfl ⟨rfl, hy⟩
  · have x1 : ((k.size : Int) != 16) = true := by rw [bne_iff_ne]; omega
    have e1 : sealR k f p q fill = (none8, 30) := by unfold sealR; rw [if_pos (by simpa using h)]
    rw [e1]
    go_enter Tryz.func7, Tryz.ntmps7
    go_wp2
    exact bodyPost_ret (v := .tuple #[.string none8, .int .i64 30]) (by simp [results, Tryz.results7, go_sem, none8]) rfl ⟨rfl, Below.refl _ _⟩
set_option maxRecDepth 100000 in
set_option maxHeartbeats 800000 in
theorem unseal_ref (k : ByteArray) (f : Int) (b q : ByteArray) (sk : k.size ≤ maxLen) (sb : b.size ≤ maxLen) (sq : q.size ≤ maxLen) (w : World) :
    Calls Tryz.prog 9 #[.string k, .int .i64 f, .string b, .string q] w (Post (unsealR k f b q) w) := by
  unfold maxLen at sk
  by_cases h : k.size = 16
  · have x1 : ((k.size : Int) != 16) = false := by rw [h]; rfl
    by_cases h8 : b.size = 8
    · have e1 : unsealR k f b q = openR f (dK k b) q := by unfold unsealR; rw [if_neg (by simpa using h), if_neg (by simpa using h8)]
      rw [e1]
      have d8 := dK_size k b h8
      have OA := fun u => open_ref f (dK k b) q (by rw [d8]; decide) sq u
      have DE := fun u => turnD k b h h8 u
      have x8 : ((b.size : Int) != 8) = false := by rw [h8]; rfl
      generalize openR f (dK k b) q = r at *
      obtain ⟨A, E⟩ := r
      clear d8 e1 h8
      generalize dK k b = D at *
      go_enter Tryz.func9, Tryz.ntmps9
      go_wp2_with fail
      refine (DE _).mono ?_
      rintro e y ⟨rfl, hy⟩
      go_wp2_with fail
      refine (OA _).mono ?_
      rintro e z ⟨rfl, hz⟩
      go_wp2
      exact bodyPost_ret (v := .tuple #[.string A, .int .i64 E]) (by simp [results, Tryz.results9, go_sem]) rfl ⟨rfl, keepB hy hz⟩
    · have e1 : unsealR k f b q = (none8, 61) := by unfold unsealR; rw [if_neg (by simpa using h), if_pos (by simpa using h8)]
      rw [e1]
      have x8 : ((b.size : Int) != 8) = true := by rw [bne_iff_ne]; omega
      unfold maxLen at sb
      go_enter Tryz.func9, Tryz.ntmps9
      go_wp2
      exact bodyPost_ret (v := .tuple #[.string none8, .int .i64 61]) (by simp [results, Tryz.results9, go_sem, none8]) rfl ⟨rfl, Below.refl _ _⟩
  · have x1 : ((k.size : Int) != 16) = true := by rw [bne_iff_ne]; omega
    have e1 : unsealR k f b q = (none8, 30) := by unfold unsealR; rw [if_pos (by simpa using h)]
    rw [e1]
    go_enter Tryz.func9, Tryz.ntmps9
    go_wp2
    exact bodyPost_ret (v := .tuple #[.string none8, .int .i64 30]) (by simp [results, Tryz.results9, go_sem, none8]) rfl ⟨rfl, Below.refl _ _⟩
set_option maxRecDepth 100000 in
set_option maxHeartbeats 800000 in
theorem move_ref (k l : ByteArray) (f g : Int) (b q fill : ByteArray) (sk : k.size ≤ maxLen) (sl : l.size ≤ maxLen) (sb : b.size ≤ maxLen) (sq : q.size ≤ maxLen) (sf : fill.size ≤ maxLen) (w : World) :
    Calls Tryz.prog 11 #[.string k, .string l, .int .i64 f, .int .i64 g, .string b, .string q, .string fill] w (Post (moveR k l f g b q fill) w) := by
  have UN := fun u => unseal_ref k f b q sk sb sq u
  have us := unseal_size k f b q
  by_cases h : k.size = 16
  · have x1 : ((k.size : Int) != 16) = false := by rw [h]; rfl
    by_cases h2 : l.size = 16
    · have x2 : ((l.size : Int) != 16) = false := by rw [h2]; rfl
      have e1 : moveR k l f g b q fill = if (unsealR k f b q).2 ≠ 0 then (none8, (unsealR k f b q).2) else sealR l g (unsealR k f b q).1 q fill := by
        unfold moveR; rw [if_neg (fun hh => hh.elim (fun h' => h' h) (fun h' => h' h2))]
      rw [e1]
      clear e1 h h2
      generalize unsealR k f b q = r at *
      obtain ⟨A, E⟩ := r
      simp only at *
      have SE := fun u => seal_ref l g A q fill sl (by unfold maxLen; omega) sq sf u
      clear us
      by_cases hE : E = 0
      · rw [if_neg (by simpa using hE)]
        subst hE
        generalize sealR l g A q fill = r2 at *
        obtain ⟨A2, E2⟩ := r2
        go_enter Tryz.func11, Tryz.ntmps11
        go_wp2_with fail
        refine (UN _).mono ?_
        rintro e x ⟨rfl, hx⟩
        go_wp2_with fail
        refine (SE _).mono ?_
        rintro e y ⟨rfl, hy⟩
        go_wp2
        exact bodyPost_ret (v := .tuple #[.string A2, .int .i64 E2]) (by simp [results, Tryz.results11, go_sem]) rfl ⟨rfl, keepB hx hy⟩
      · rw [if_pos (by simpa using hE)]
        have hE' : (E != 0) = true := by simpa using hE
        go_enter Tryz.func11, Tryz.ntmps11
        go_wp2_with fail
        refine (UN _).mono ?_
        rintro e x ⟨rfl, hx⟩
        go_wp2
        exact bodyPost_ret (v := .tuple #[.string none8, .int .i64 E]) (by simp [results, Tryz.results11, go_sem, none8]) rfl ⟨rfl, hx⟩
    · have e1 : moveR k l f g b q fill = (none8, 30) := by unfold moveR; rw [if_pos (Or.inr h2)]
      rw [e1]
      have x2 : ((l.size : Int) != 16) = true := by rw [bne_iff_ne]; omega
      go_enter Tryz.func11, Tryz.ntmps11
      go_wp2
      exact bodyPost_ret (v := .tuple #[.string none8, .int .i64 30]) (by simp [results, Tryz.results11, go_sem, none8]) rfl ⟨rfl, Below.refl _ _⟩
  · have e1 : moveR k l f g b q fill = (none8, 30) := by unfold moveR; rw [if_pos (Or.inl h)]
    rw [e1]
    have x2 : ((k.size : Int) != 16) = true := by rw [bne_iff_ne]; omega
    go_enter Tryz.func11, Tryz.ntmps11
    go_wp2
    exact bodyPost_ret (v := .tuple #[.string none8, .int .i64 30]) (by simp [results, Tryz.results11, go_sem, none8]) rfl ⟨rfl, Below.refl _ _⟩
end Go.Proofs.YtciblmdpngnakaaGreat.Wb
