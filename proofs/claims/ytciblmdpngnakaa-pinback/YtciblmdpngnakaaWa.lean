/- PINs under keys: plain, and the program's. -/
import Derived.Test.YtciblmdpngnakaaPq
import Derived.Test.YtciblmdpngnakaaPy
import Derived.Test.YtciblmdpngnakaaBl
namespace Go.Proofs.Ytciblmdpngnakaa.Wa
set_option linter.unusedVariables false
set_option linter.unusedSimpArgs false
open Go.RowKit Lib0 Six Pp Cb
open Pq (Post block_any open_any)
open Bk (Key key_kept)
open Wd (kindN)
open Et (mapB Enc_good Dec_good)
open Pla (enc dec enc_len dec_len)
def eK (k s : ByteArray) : ByteArray := ⟨(mapB (enc k.data.toList) s.data.toList).toArray⟩
def dK (k s : ByteArray) : ByteArray := ⟨(mapB (dec k.data.toList) s.data.toList).toArray⟩
theorem eK_size (k s : ByteArray) (h : s.size = 8) : (eK k s).size = 8 := by
  rw [← sz]
  show (mapB _ _).length = 8
  rw [Pm.mapB_len _ _ 1 (by rw [sz, h])]
theorem dK_size (k s : ByteArray) (h : s.size = 8) : (dK k s).size = 8 := by
  rw [← sz]
  show (mapB _ _).length = 8
  rw [Pm.mapB_len _ _ 1 (by rw [sz, h])]
def sealR (k : ByteArray) (f : Int) (p q fill : ByteArray) : ByteArray × Int :=
  if k.size ≠ 16 then (none8, 30) else if (blockR f p q fill).2 ≠ 0 then (none8, (blockR f p q fill).2) else (eK k (blockR f p q fill).1, 0)
def unsealR (k : ByteArray) (f : Int) (b q : ByteArray) : ByteArray × Int :=
  if k.size ≠ 16 then (none8, 30) else if b.size ≠ 8 then (none8, 61) else openR f (dK k b) q
def moveR (k l : ByteArray) (f g : Int) (b q fill : ByteArray) : ByteArray × Int :=
  if k.size ≠ 16 ∨ l.size ≠ 16 then (none8, 30) else if (unsealR k f b q).2 ≠ 0 then (none8, (unsealR k f b q).2) else sealR l g (unsealR k f b q).1 q fill
theorem block_size (f : Int) (p q fill : ByteArray) : (blockR f p q fill).1.size ≤ 8 ∧ ((blockR f p q fill).2 = 0 → (blockR f p q fill).1.size = 8) := by
  unfold blockR
  split
  · exact ⟨by show (0 : Nat) ≤ 8; omega, fun h => by simp at h⟩
  · split
    · exact ⟨by show (0 : Nat) ≤ 8; omega, fun h => by simp at h⟩
    · split
      · exact ⟨by show (0 : Nat) ≤ 8; omega, fun h => by simp at h⟩
      · split
        · exact ⟨by show (0 : Nat) ≤ 8; omega, fun h => by simp at h⟩
        · rename_i h1 h2 h3 h4
          have e : (ByteArray.mk (pk (mix f (lay f p fill) q)).toArray).size = 8 := by
            rw [← sz]
            show (pk _).length = 8
            rw [pk_len, mix_len f _ q (by simpa using h3) (lay_len f p fill (by simpa using h2) (by simpa using h4))]
          exact ⟨by show ByteArray.size _ ≤ 8; rw [e]; exact Nat.le_refl _, fun _ => e⟩
theorem read_size (f : Int) (L : List Nat) : (readR f L).1.size ≤ 12 := by
  unfold readR
  split
  · show (0 : Nat) ≤ 12; omega
  · split
    · rename_i h _
      show ByteArray.size _ ≤ 12
      rw [← sz]
      show (List.map hx _).length ≤ 12
      rw [List.length_map, List.length_take]
      omega
    · show (0 : Nat) ≤ 12; omega
theorem open_size (f : Int) (b q : ByteArray) : (openR f b q).1.size ≤ 12 := by
  unfold openR
  split
  · show (0 : Nat) ≤ 12; omega
  · split
    · show (0 : Nat) ≤ 12; omega
    · exact read_size _ _
theorem unseal_size (k : ByteArray) (f : Int) (b q : ByteArray) : (unsealR k f b q).1.size ≤ 12 := by
  unfold unsealR
  split
  · show (0 : Nat) ≤ 12; omega
  · split
    · show (0 : Nat) ≤ 12; omega
    · exact open_size _ _ _
theorem seal_size (k : ByteArray) (f : Int) (p q fill : ByteArray) : (sealR k f p q fill).1.size ≤ 8 := by
  unfold sealR
  split
  · show (0 : Nat) ≤ 8; omega
  · split
    · show (0 : Nat) ≤ 8; omega
    · rename_i h
      rw [eK_size _ _ ((block_size f p q fill).2 (by simpa using h))]
      exact Nat.le_refl _
theorem seal_bd (k : ByteArray) (f : Int) (p q fill : ByteArray) : 0 ≤ (sealR k f p q fill).2 ∧ (sealR k f p q fill).2 ≤ 100 := by
  have := Py.block_bd f p q fill
  unfold sealR
  split
  · constructor <;> simp
  · split
    · exact this
    · constructor <;> simp
theorem unseal_bd (k : ByteArray) (f : Int) (b q : ByteArray) : 0 ≤ (unsealR k f b q).2 ∧ (unsealR k f b q).2 ≤ 100 := by
  unfold unsealR
  split
  · constructor <;> simp
  · split
    · constructor <;> simp
    · exact Py.open_bd _ _ _
theorem move_bd (k l : ByteArray) (f g : Int) (b q fill : ByteArray) : 0 ≤ (moveR k l f g b q fill).2 ∧ (moveR k l f g b q fill).2 ≤ 100 := by
  have := unseal_bd k f b q
  unfold moveR
  split
  · constructor <;> simp
  · split
    · exact this
    · exact seal_bd _ _ _ _ _
theorem ready_bad (k : ByteArray) (h : ((k.size : Int) != 16) = true) (w : World) :
    Calls Try.prog 42 #[.string k] w fun e w' => e = .returned (.tuple #[.pointer none, .int .i64 30]) ∧ w' = w := by
  go_enter Try.func42, Try.ntmps42
  go_wp2
  exact bodyPost_ret (v := .tuple #[.pointer none, .int .i64 30]) (by simp [results, Try.results42, go_sem]) rfl ⟨rfl, rfl⟩
theorem ready_good (k : ByteArray) (h : Hid (k.size = 16)) (w : World) :
    Calls Try.prog 42 #[.string k] w fun e w' => ∃ g, e = .returned (.tuple #[.pointer (some ⟨g, 0, none⟩), .int .i64 0]) ∧ Key w' g 2 k.data.toList ∧ Below w.heap.size w w' := by
  have h' : ((k.size : Int) != 16) = false := by rw [h.out]; rfl
  have NG := fun u => Nw.new_good k 2 (by show kindN k.size = 2; rw [h.out]; rfl) (by decide) (by decide) u
  go_enter Try.func42, Try.ntmps42
  go_wp2_with fail
  refine (NG _).mono ?_
  rintro e x ⟨g, rfl, hg, hx, h2⟩
  have k2 := Bl.keyOf hx
  go_wp2
  exact bodyPost_ret (v := .tuple #[.pointer (some ⟨g, 0, none⟩), .int .i64 0]) (by simp [results, Try.results42, go_sem]) rfl ⟨g, rfl, k2, h2⟩
theorem kind16 (k : ByteArray) (h : k.size = 16) : kindN k.data.toList.length = 2 ∧ 1 ≤ 2 := ⟨by rw [sz, h]; rfl, by decide⟩
set_option maxRecDepth 100000 in
set_option maxHeartbeats 800000 in
theorem seal_any (k : ByteArray) (f : Int) (p q fill : ByteArray) (sk : k.size ≤ maxLen) (sp : p.size ≤ maxLen) (sq : q.size ≤ maxLen) (sf : fill.size ≤ maxLen) (w : World) :
    Calls Try.prog 19 #[.string k, .int .i64 f, .string p, .string q, .string fill] w (Post (sealR k f p q fill) w) := by
  by_cases h : k.size = 16
  · have RG := fun u => ready_good k h u
    have BA := fun u => block_any f p q fill sp sq sf u
    have bs := block_size f p q fill
    have e1 : sealR k f p q fill = if (blockR f p q fill).2 ≠ 0 then (none8, (blockR f p q fill).2) else (eK k (blockR f p q fill).1, 0) := by unfold sealR; rw [if_neg (by simpa using h)]
    rw [e1]
    clear e1
    generalize blockR f p q fill = r at *
    obtain ⟨A, E⟩ := r
    simp only at *
    by_cases hE : E = 0
    · rw [if_neg (by simpa using hE)]
      subst hE
      have a8 := bs.2 rfl
      have EN := fun g u hk => Enc_good A g 2 1 k.data.toList u (by show A.size = 8 * 1; rw [a8]) (by rw [a8]; decide) (kind16 k h) hk
      clear bs a8
      go_enter Try.func19, Try.ntmps19
      go_wp2_with fail
      refine (RG _).mono ?_
      rintro e x ⟨g, rfl, hg, hx⟩
      go_wp2_with fail
      refine (BA _).mono ?_
      rintro e y ⟨rfl, hy⟩
      have hg2 := key_kept hy hg
      go_wp2_with fail
      refine (EN g _ hg2).mono ?_
      rintro e z ⟨rfl, hz⟩
      go_wp2
      exact bodyPost_ret (v := .tuple #[.string (eK k A), .int .i64 0]) (by simp [results, Try.results19, go_sem, eK]) rfl ⟨rfl, keepB (keepB hx hy) hz⟩
    · rw [if_pos (by simpa using hE)]
      have hE' : (E != 0) = true := by simpa using hE
      clear bs
      go_enter Try.func19, Try.ntmps19
      go_wp2_with fail
      refine (RG _).mono ?_
      rintro e x ⟨g, rfl, hg, hx⟩
      go_wp2_with fail
      refine (BA _).mono ?_
      rintro e y ⟨rfl, hy⟩
      go_wp2
      exact bodyPost_ret (v := .tuple #[.string none8, .int .i64 E]) (by simp [results, Try.results19, go_sem, none8]) rfl ⟨rfl, keepB hx hy⟩
  · have RB := fun u => ready_bad k (by rw [bne_iff_ne]; omega) u
    have e1 : sealR k f p q fill = (none8, 30) := by unfold sealR; rw [if_pos (by simpa using h)]
    rw [e1]
    go_enter Try.func19, Try.ntmps19
    go_wp2_with fail
    refine (RB _).mono ?_
    rintro e x ⟨rfl, hx⟩
    rw [hx]
    go_wp2
    exact bodyPost_ret (v := .tuple #[.string none8, .int .i64 30]) (by simp [results, Try.results19, go_sem, none8]) rfl ⟨rfl, Below.refl _ _⟩
set_option maxRecDepth 100000 in
set_option maxHeartbeats 800000 in
theorem unseal_any (k : ByteArray) (f : Int) (b q : ByteArray) (sk : k.size ≤ maxLen) (sb : b.size ≤ maxLen) (sq : q.size ≤ maxLen) (w : World) :
    Calls Try.prog 20 #[.string k, .int .i64 f, .string b, .string q] w (Post (unsealR k f b q) w) := by
  by_cases h : k.size = 16
  · have RG := fun u => ready_good k h u
    by_cases h8 : b.size = 8
    · have e1 : unsealR k f b q = openR f (dK k b) q := by unfold unsealR; rw [if_neg (by simpa using h), if_neg (by simpa using h8)]
      rw [e1]
      have d8 := dK_size k b h8
      have OA := fun u => open_any f (dK k b) q (by rw [d8]; decide) sq u
      have DE := fun g u hk => Dec_good b g 2 1 k.data.toList u (by show b.size = 8 * 1; rw [h8]) (by rw [h8]; decide) (kind16 k h) hk
      have DE' : ∀ g u, Key u g 2 k.data.toList → Calls Try.prog 47 #[.pointer (some ⟨g, 0, none⟩), .string b] u fun e w' => e = .returned (.tuple #[.string (dK k b), .int .i64 0]) ∧ Below u.heap.size u w' := DE
      have x8 : ((b.size : Int) != 8) = false := by rw [h8]; rfl
      generalize openR f (dK k b) q = r at *
      obtain ⟨A, E⟩ := r
      clear DE d8 e1 h8
      generalize dK k b = D at *
      go_enter Try.func20, Try.ntmps20
      go_wp2_with fail
      refine (RG _).mono ?_
      rintro e x ⟨g, rfl, hg, hx⟩
      go_wp2_with fail
      refine (DE' g _ hg).mono ?_
      rintro e y ⟨rfl, hy⟩
      go_wp2_with fail
      refine (OA _).mono ?_
      rintro e z ⟨rfl, hz⟩
      go_wp2
      exact bodyPost_ret (v := .tuple #[.string A, .int .i64 E]) (by simp [results, Try.results20, go_sem]) rfl ⟨rfl, keepB (keepB hx hy) hz⟩
    · have e1 : unsealR k f b q = (none8, 61) := by unfold unsealR; rw [if_neg (by simpa using h), if_pos (by simpa using h8)]
      rw [e1]
      have x8 : ((b.size : Int) != 8) = true := by rw [bne_iff_ne]; omega
      unfold maxLen at sb
      go_enter Try.func20, Try.ntmps20
      go_wp2_with fail
      refine (RG _).mono ?_
      rintro e x ⟨g, rfl, hg, hx⟩
      go_wp2
      exact bodyPost_ret (v := .tuple #[.string none8, .int .i64 61]) (by simp [results, Try.results20, go_sem, none8]) rfl ⟨rfl, hx⟩
  · have RB := fun u => ready_bad k (by rw [bne_iff_ne]; omega) u
    have e1 : unsealR k f b q = (none8, 30) := by unfold unsealR; rw [if_pos (by simpa using h)]
    rw [e1]
    go_enter Try.func20, Try.ntmps20
    go_wp2_with fail
    refine (RB _).mono ?_
    rintro e x ⟨rfl, hx⟩
    rw [hx]
    go_wp2
    exact bodyPost_ret (v := .tuple #[.string none8, .int .i64 30]) (by simp [results, Try.results20, go_sem, none8]) rfl ⟨rfl, Below.refl _ _⟩
set_option maxRecDepth 100000 in
set_option maxHeartbeats 800000 in
theorem move_any (k l : ByteArray) (f g : Int) (b q fill : ByteArray) (sk : k.size ≤ maxLen) (sl : l.size ≤ maxLen) (sb : b.size ≤ maxLen) (sq : q.size ≤ maxLen) (sf : fill.size ≤ maxLen) (w : World) :
    Calls Try.prog 23 #[.string k, .string l, .int .i64 f, .int .i64 g, .string b, .string q, .string fill] w (Post (moveR k l f g b q fill) w) := by
  have UN := fun u => unseal_any k f b q sk sb sq u
  have us := unseal_size k f b q
  by_cases h : k.size = 16
  · have x1 : ((k.size : Int) != 16) = false := by rw [h]; rfl
    by_cases h2 : l.size = 16
    · have x2 : ((l.size : Int) != 16) = false := by rw [h2]; rfl
      have e1 : moveR k l f g b q fill = if (unsealR k f b q).2 ≠ 0 then (none8, (unsealR k f b q).2) else sealR l g (unsealR k f b q).1 q fill := by
        unfold moveR; rw [if_neg (fun hh => hh.elim (fun h' => h' h) (fun h' => h' h2))]
      rw [e1]
      clear e1 h h2
      generalize unsealR k f b q = r at *
      obtain ⟨A, E⟩ := r
      simp only at *
      have SE := fun u => seal_any l g A q fill sl (by unfold maxLen; omega) sq sf u
      clear us
      by_cases hE : E = 0
      · rw [if_neg (by simpa using hE)]
        subst hE
        generalize sealR l g A q fill = r2 at *
        obtain ⟨A2, E2⟩ := r2
        go_enter Try.func23, Try.ntmps23
        go_wp2_with fail
        refine (UN _).mono ?_
        rintro e x ⟨rfl, hx⟩
        go_wp2_with fail
        refine (SE _).mono ?_
        rintro e y ⟨rfl, hy⟩
        go_wp2
        exact bodyPost_ret (v := .tuple #[.string A2, .int .i64 E2]) (by simp [results, Try.results23, go_sem]) rfl ⟨rfl, keepB hx hy⟩
      · rw [if_pos (by simpa using hE)]
        have hE' : (E != 0) = true := by simpa using hE
        go_enter Try.func23, Try.ntmps23
        go_wp2_with fail
        refine (UN _).mono ?_
        rintro e x ⟨rfl, hx⟩
        go_wp2
        exact bodyPost_ret (v := .tuple #[.string none8, .int .i64 E]) (by simp [results, Try.results23, go_sem, none8]) rfl ⟨rfl, hx⟩
    · have e1 : moveR k l f g b q fill = (none8, 30) := by unfold moveR; rw [if_pos (Or.inr h2)]
      rw [e1]
      have x2 : ((l.size : Int) != 16) = true := by rw [bne_iff_ne]; omega
      go_enter Try.func23, Try.ntmps23
      go_wp2
      exact bodyPost_ret (v := .tuple #[.string none8, .int .i64 30]) (by simp [results, Try.results23, go_sem, none8]) rfl ⟨rfl, Below.refl _ _⟩
  · have e1 : moveR k l f g b q fill = (none8, 30) := by unfold moveR; rw [if_pos (Or.inl h)]
    rw [e1]
    have x2 : ((k.size : Int) != 16) = true := by rw [bne_iff_ne]; omega
    go_enter Try.func23, Try.ntmps23
    go_wp2
    exact bodyPost_ret (v := .tuple #[.string none8, .int .i64 30]) (by simp [results, Try.results23, go_sem, none8]) rfl ⟨rfl, Below.refl _ _⟩
end Go.Proofs.Ytciblmdpngnakaa.Wa
