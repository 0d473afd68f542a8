import Derived.Test.YtciblmdpngnakaaQv16
import Derived.Test.YtciblmdpngnakaaQv17
import Derived.Test.YtciblmdpngnakaaQv19
/- PINs under keys: plain, and the program's. -/
namespace Go.Proofs.Ytciblmdpngnakaa.Wa
set_option linter.unusedVariables false
set_option linter.unusedSimpArgs false
open Go.RowKit Lib0 Six Pp Cb
open Pq (Post block_any open_any)
open Bk (Key key_kept)
open Wd (kindN)
open Et (mapB Enc_good Dec_good)
open Pla (enc dec enc_len dec_len)
def eK (k s : ByteArray) : ByteArray := ⟨(mapB (enc k.data.toList) s.data.toList).toArray⟩
def dK (k s : ByteArray) : ByteArray := ⟨(mapB (dec k.data.toList) s.data.toList).toArray⟩
theorem eK_size (k s : ByteArray) (h : s.size = 8) : (eK k s).size = 8 := by
  rw [← sz]
  show (mapB _ _).length = 8
  rw [Pm.mapB_len _ _ 1 (by rw [sz, h])]
theorem dK_size (k s : ByteArray) (h : s.size = 8) : (dK k s).size = 8 := by
  rw [← sz]
  show (mapB _ _).length = 8
  rw [Pm.mapB_len _ _ 1 (by rw [sz, h])]
def sealR (k : ByteArray) (f : Int) (p q fill : ByteArray) : ByteArray × Int :=
  if k.size ≠ 16 then (none8, 30) else if (blockR f p q fill).2 ≠ 0 then (none8, (blockR f p q fill).2) else (eK k (blockR f p q fill).1, 0)
def unsealR (k : ByteArray) (f : Int) (b q : ByteArray) : ByteArray × Int :=
  if k.size ≠ 16 then (none8, 30) else if b.size ≠ 8 then (none8, 61) else openR f (dK k b) q
def moveR (k l : ByteArray) (f g : Int) (b q fill : ByteArray) : ByteArray × Int :=
  if k.size ≠ 16 ∨ l.size ≠ 16 then (none8, 30) else if (unsealR k f b q).2 ≠ 0 then (none8, (unsealR k f b q).2) else sealR l g (unsealR k f b q).1 q fill
theorem block_size (f : Int) (p q fill : ByteArray) : (blockR f p q fill).1.size ≤ 8 ∧ ((blockR f p q fill).2 = 0 → (blockR f p q fill).1.size = 8) := by
  unfold blockR
  split
  · exact ⟨by show (0 : Nat) ≤ 8; omega, fun h => by simp at h⟩
  · split
    · exact ⟨by show (0 : Nat) ≤ 8; omega, fun h => by simp at h⟩
    · split
      · exact ⟨by show (0 : Nat) ≤ 8; omega, fun h => by simp at h⟩
      · split
        · exact ⟨by show (0 : Nat) ≤ 8; omega, fun h => by simp at h⟩
        · rename_i h1 h2 h3 h4
          have e : (ByteArray.mk (pk (mix f (lay f p fill) q)).toArray).size = 8 := by
            rw [← sz]
            show (pk _).length = 8
            rw [pk_len, mix_len f _ q (by simpa using h3) (lay_len f p fill (by simpa using h2) (by simpa using h4))]
          exact ⟨by show ByteArray.size _ ≤ 8; rw [e]; exact Nat.le_refl _, fun _ => e⟩
theorem read_size (f : Int) (L : List Nat) : (readR f L).1.size ≤ 12 := by
  unfold readR
  split
  · show (0 : Nat) ≤ 12; omega
  · split
    · rename_i h _
      show ByteArray.size _ ≤ 12
      rw [← sz]
      show (List.map hx _).length ≤ 12
      rw [List.length_map, List.length_take]
      omega
    · show (0 : Nat) ≤ 12; omega
theorem open_size (f : Int) (b q : ByteArray) : (openR f b q).1.size ≤ 12 := by
  unfold openR
  split
  · show (0 : Nat) ≤ 12; omega
  · split
    · show (0 : Nat) ≤ 12; omega
    · exact read_size _ _
theorem unseal_size (k : ByteArray) (f : Int) (b q : ByteArray) : (unsealR k f b q).1.size ≤ 12 := by
  unfold unsealR
  split
  · show (0 : Nat) ≤ 12; omega
  · split
    · show (0 : Nat) ≤ 12; omega
    · exact open_size _ _ _
theorem seal_size (k : ByteArray) (f : Int) (p q fill : ByteArray) : (sealR k f p q fill).1.size ≤ 8 := by
  unfold sealR
  split
  · show (0 : Nat) ≤ 8; omega
  · split
    · show (0 : Nat) ≤ 8; omega
    · rename_i h
      rw [eK_size _ _ ((block_size f p q fill).2 (by simpa using h))]
      exact Nat.le_refl _
theorem seal_bd (k : ByteArray) (f : Int) (p q fill : ByteArray) : 0 ≤ (sealR k f p q fill).2 ∧ (sealR k f p q fill).2 ≤ 100 := by
  have := Py.block_bd f p q fill
  unfold sealR
  split
  · constructor <;> simp
  · split
    · exact this
    · constructor <;> simp
theorem unseal_bd (k : ByteArray) (f : Int) (b q : ByteArray) : 0 ≤ (unsealR k f b q).2 ∧ (unsealR k f b q).2 ≤ 100 := by
  unfold unsealR
  split
  · constructor <;> simp
  · split
    · constructor <;> simp
    · exact Py.open_bd _ _ _
theorem move_bd (k l : ByteArray) (f g : Int) (b q fill : ByteArray) : 0 ≤ (moveR k l f g b q fill).2 ∧ (moveR k l f g b q fill).2 ≤ 100 := by
  have := unseal_bd k f b q
  unfold moveR
  split
  · constructor <;> simp
  · split
    · exact this
    · exact seal_bd _ _ _ _ _
theorem ready_bad (k : ByteArray) (h : ((k.size : Int) != 16) = true) (w : World) :
    Calls Try.prog 42 #[.string k] w fun e w' => e = .returned (.tuple #[.pointer none, .int .i64 30]) ∧ w' = w := by
  go_enter Try.func42, Try.ntmps42
  go_wp2
  exact bodyPost_ret (v := .tuple #[.pointer none, .int .i64 30]) (by simp [results, Try.results42, go_sem]) rfl ⟨rfl, rfl⟩
theorem ready_good (k : ByteArray) (h : Hid (k.size = 16)) (w : World) :
    Calls Try.prog 42 #[.string k] w fun e w' => ∃ g, e = .returned (.tuple #[.pointer (some ⟨g, 0, none⟩), .int .i64 0]) ∧ Key w' g 2 k.data.toList ∧ Below w.heap.size w w' := by
  have h' : ((k.size : Int) != 16) = false := by rw [h.out]; rfl
  have NG := fun u => Nw.new_good k 2 (by show kindN k.size = 2; rw [h.out]; rfl) (by decide) (by decide) u
  go_enter Try.func42, Try.ntmps42
  go_wp2_with fail
  refine (NG _).mono ?_
  rintro e x ⟨g, rfl, hg, hx, h2⟩
  have k2 := Bl.keyOf hx
  go_wp2
  exact bodyPost_ret (v := .tuple #[.pointer (some ⟨g, 0, none⟩), .int .i64 0]) (by simp [results, Try.results42, go_sem]) rfl ⟨g, rfl, k2, h2⟩
theorem kind16 (k : ByteArray) (h : k.size = 16) : kindN k.data.toList.length = 2 ∧ 1 ≤ 2 := ⟨by rw [sz, h]; rfl, by decide⟩
set_option maxRecDepth 100000 in
set_option maxHeartbeats 800000 in
theorem seal_any (k : ByteArray) (f : Int) (p q fill : ByteArray) (sk : k.size ≤ maxLen) (sp : p.size ≤ maxLen) (sq : q.size ≤ maxLen) (sf : fill.size ≤ maxLen) (w : World) :
    Calls Try.prog 19 #[.string k, .int .i64 f, .string p, .string q, .string fill] w (Post (sealR k f p q fill) w) := by
  by_cases h : k.size = 16
  · have RG := fun u => ready_good k h u
    have BA := fun u => block_any f p q fill sp sq sf u
    have bs := block_size f p q fill
    have e1 : sealR k f p q fill = if (blockR f p q fill).2 ≠ 0 then (none8, (blockR f p q fill).2) else (eK k (blockR f p q fill).1, 0) := by unfold sealR; rw [if_neg (by simpa using h)]
    rw [e1]
    clear e1
    generalize blockR f p q fill = r at *
    obtain ⟨A, E⟩ := r
    simp only at *
    by_cases hE : E = 0
    · rw [if_neg (by simpa using hE)]
      subst hE
      have a8 := bs.2 rfl
      have EN := fun g u hk => Enc_good A g 2 1 k.data.toList u (by show A.size = 8 * 1; rw [a8]) (by rw [a8]; decide) (kind16 k h) hk
      clear bs a8
      go_enter Try.func19, Try.ntmps19
      go_wp2_with fail
      refine (RG _).mono ?_
      rintro e x ⟨g, rfl, hg, hx⟩
      go_wp2_with fail
      refine (BA _).mono ?_
      rintro e y ⟨rfl, hy⟩
      have hg2 := key_kept hy hg
      go_wp2_with fail
      refine (EN g _ hg2).mono ?_
      rintro e z ⟨rfl, hz⟩
      go_wp2
      exact bodyPost_ret (v := .tuple #[.string (eK k A), .int .i64 0]) (by simp [results, Try.results19, go_sem, eK]) rfl ⟨rfl, keepB (keepB hx hy) hz⟩
    · rw [if_pos (by simpa using hE)]
      have hE' : (E != 0) = true := by simpa using hE
      clear bs
      go_enter Try.func19, Try.ntmps19
      go_wp2_with fail
      refine (RG _).mono ?_
      rintro e x ⟨g, rfl, hg, hx⟩
      go_wp2_with fail
      refine (BA _).mono ?_
      rintro e y ⟨rfl, hy⟩
      go_wp2
      exact bodyPost_ret (v := .tuple #[.string none8, .int .i64 E]) (by simp [results, Try.results19, go_sem, none8]) rfl ⟨rfl, keepB hx hy⟩
  · have RB := fun u => ready_bad k (by rw [bne_iff_ne]; omega) u
    have e1 : sealR k f p q fill = (none8, 30) := by unfold sealR; rw [if_pos (by simpa using h)]
    rw [e1]
    go_enter Try.func19, Try.ntmps19
    go_wp2_with fail
    refine (RB _).mono ?_
    rintro e x ⟨rfl, hx⟩
    rw [hx]
    go_wp2
    exact bodyPost_ret (v := .tuple #[.string none8, .int .i64 30]) (by simp [results, Try.results19, go_sem, none8]) rfl ⟨rfl, Below.refl _ _⟩
set_option maxRecDepth 100000 in
set_option maxHeartbeats 800000 in
theorem unseal_any (k : ByteArray) (f : Int) (b q : ByteArray) (sk : k.size ≤ maxLen) (sb : b.size ≤ maxLen) (sq : q.size ≤ maxLen) (w : World) :
    Calls Try.prog 20 #[.string k, .int .i64 f, .string b, .string q] w (Post (unsealR k f b q) w) := by
  by_cases h : k.size = 16
  · have RG := fun u => ready_good k h u
    by_cases h8 : b.size = 8
    · have e1 : unsealR k f b q = openR f (dK k b) q := by unfold unsealR; rw [if_neg (by simpa using h), if_neg (by simpa using h8)]
      rw [e1]
      have d8 := dK_size k b h8
      have OA := fun u => open_any f (dK k b) q (by rw [d8]; decide) sq u
      have DE := fun g u hk => Dec_good b g 2 1 k.data.toList u (by show b.size = 8 * 1; rw [h8]) (by rw [h8]; decide) (kind16 k h) hk
      have DE' : ∀ g u, Key u g 2 k.data.toList → Calls Try.prog 47 #[.pointer (some ⟨g, 0, none⟩), .string b] u fun e w' => e = .returned (.tuple #[.string (dK k b), .int .i64 0]) ∧ Below u.heap.size u w' := DE
      have x8 : ((b.size : Int) != 8) = false := by rw [h8]; rfl
      generalize openR f (dK k b) q = r at *
      obtain ⟨A, E⟩ := r
      clear DE d8 e1 h8
      generalize dK k b = D at *
      go_enter Try.func20, Try.ntmps20
      go_wp2_with fail
      refine (RG _).mono ?_
      rintro e x ⟨g, rfl, hg, hx⟩
      go_wp2_with fail
      refine (DE' g _ hg).mono ?_
      rintro e y ⟨rfl, hy⟩
      go_wp2_with fail
      refine (OA _).mono ?_
      rintro e z ⟨rfl, hz⟩
      go_wp2
      exact bodyPost_ret (v := .tuple #[.string A, .int .i64 E]) (by simp [results, Try.results20, go_sem]) rfl ⟨rfl, keepB (keepB hx hy) hz⟩
    · have e1 : unsealR k f b q = (none8, 61) := by unfold unsealR; rw [if_neg (by simpa using h), if_pos (by simpa using h8)]
      rw [e1]
      have x8 : ((b.size : Int) != 8) = true := by rw [bne_iff_ne]; omega
      unfold maxLen at sb
      go_enter Try.func20, Try.ntmps20
      go_wp2_with fail
      refine (RG _).mono ?_
      rintro e x ⟨g, rfl, hg, hx⟩
      go_wp2
      exact bodyPost_ret (v := .tuple #[.string none8, .int .i64 61]) (by simp [results, Try.results20, go_sem, none8]) rfl ⟨rfl, hx⟩
  · have RB := fun u => ready_bad k (by rw [bne_iff_ne]; omega) u
    have e1 : unsealR k f b q = (none8, 30) := by unfold unsealR; rw [if_pos (by simpa using h)]
    rw [e1]
    go_enter Try.func20, Try.ntmps20
    go_wp2_with fail
    refine (RB _).mono ?_
    rintro e x ⟨rfl, hx⟩
    rw [hx]
    go_wp2
    exact bodyPost_ret (v := .tuple #[.string none8, .int .i64 30]) (by simp [results, Try.results20, go_sem, none8]) rfl ⟨rfl, Below.refl _ _⟩
set_option maxRecDepth 100000 in
set_option maxHeartbeats 800000 in
theorem move_any (k l : ByteArray) (f g : Int) (b q fill : ByteArray) (sk : k.size ≤ maxLen) (sl : l.size ≤ maxLen) (sb : b.size ≤ maxLen) (sq : q.size ≤ maxLen) (sf : fill.size ≤ maxLen) (w : World) :
    Calls Try.prog 23 #[.string k, .string l, .int .i64 f, .int .i64 g, .string b, .string q, .string fill] w (Post (moveR k l f g b q fill) w) := by
  have UN := fun u => unseal_any k f b q sk sb sq u
  have us := unseal_size k f b q
  by_cases h : k.size = 16
  · have x1 : ((k.size : Int) != 16) = false := by rw [h]; rfl
    by_cases h2 : l.size = 16
    · have x2 : ((l.size : Int) != 16) = false := by rw [h2]; rfl
      have e1 : moveR k l f g b q fill = if (unsealR k f b q).2 ≠ 0 then (none8, (unsealR k f b q).2) else sealR l g (unsealR k f b q).1 q fill := by
        unfold moveR; rw [if_neg (fun hh => hh.elim (fun h' => h' h) (fun h' => h' h2))]
      rw [e1]
      clear e1 h h2
      generalize unsealR k f b q = r at *
      obtain ⟨A, E⟩ := r
      simp only at *
      have SE := fun u => seal_any l g A q fill sl (by unfold maxLen; omega) sq sf u
      clear us
      by_cases hE : E = 0
      · rw [if_neg (by simpa using hE)]
        subst hE
        generalize sealR l g A q fill = r2 at *
        obtain ⟨A2, E2⟩ := r2
        go_enter Try.func23, Try.ntmps23
        go_wp2_with fail
        refine (UN _).mono ?_
        rintro e x ⟨rfl, hx⟩
        go_wp2_with fail
        refine (SE _).mono ?_
        rintro e y ⟨rfl, hy⟩
        go_wp2
        exact bodyPost_ret (v := .tuple #[.string A2, .int .i64 E2]) (by simp [results, Try.results23, go_sem]) rfl ⟨rfl, keepB hx hy⟩
      · rw [if_pos (by simpa using hE)]
        have hE' : (E != 0) = true := by simpa using hE
        go_enter Try.func23, Try.ntmps23
        go_wp2_with fail
        refine (UN _).mono ?_
        rintro e x ⟨rfl, hx⟩
        go_wp2
        exact bodyPost_ret (v := .tuple #[.string none8, .int .i64 E]) (by simp [results, Try.results23, go_sem, none8]) rfl ⟨rfl, hx⟩
    · have e1 : moveR k l f g b q fill = (none8, 30) := by unfold moveR; rw [if_pos (Or.inr h2)]
      rw [e1]
      have x2 : ((l.size : Int) != 16) = true := by rw [bne_iff_ne]; omega
      go_enter Try.func23, Try.ntmps23
      go_wp2
      exact bodyPost_ret (v := .tuple #[.string none8, .int .i64 30]) (by simp [results, Try.results23, go_sem, none8]) rfl ⟨rfl, Below.refl _ _⟩
  · have e1 : moveR k l f g b q fill = (none8, 30) := by unfold moveR; rw [if_pos (Or.inl h)]
    rw [e1]
    have x2 : ((k.size : Int) != 16) = true := by rw [bne_iff_ne]; omega
    go_enter Try.func23, Try.ntmps23
    go_wp2
    exact bodyPost_ret (v := .tuple #[.string none8, .int .i64 30]) (by simp [results, Try.results23, go_sem, none8]) rfl ⟨rfl, Below.refl _ _⟩
end Go.Proofs.Ytciblmdpngnakaa.Wa
/- PINs: values: plain, and the program's digits in order. -/
namespace Go.Proofs.Ytciblmdpngnakaa.Va
set_option linter.unusedVariables false
set_option linter.unusedSimpArgs false
open Go.RowKit Lib0 Six Pp Cb Wa
open Pf (ret_bool worth_any isPAN_any isPIN_any left_any)
open Pg (ba_ext ext_list spread_any)
open Ph (gb_eq pack_any)
def da (L : List Nat) : List UInt8 := (L.filter (fun n => decide (n < 10))).map hx
def db (L : List Nat) : List UInt8 := (L.filter (fun n => decide (10 ≤ n))).map (fun n => hx (n - 10))
theorem da_yes (L : List Nat) (n : Nat) (h : n < 10) : da (L ++ [n]) = da L ++ [hx n] := by simp [da, h]
theorem da_no (L : List Nat) (n : Nat) (h : 10 ≤ n) : da (L ++ [n]) = da L := by simp [da, show ¬ n < 10 by omega]
theorem db_yes (L : List Nat) (n : Nat) (h : 10 ≤ n) : db (L ++ [n]) = db L ++ [hx (n - 10)] := by simp [db, h]
theorem db_no (L : List Nat) (n : Nat) (h : n < 10) : db (L ++ [n]) = db L := by simp [db, show ¬ 10 ≤ n by omega]
theorem both_len : ∀ L : List Nat, (da L).length + (db L).length = L.length
  | [] => rfl
  | n :: L => by
    have ih := both_len L
    simp only [da, db, List.length_map, List.filter_cons] at *
    by_cases h : n < 10
    · rw [if_pos (by simpa using h), if_neg (by simp; omega)]
      simp only [List.length_cons]; omega
    · rw [if_neg (by simpa using h), if_pos (by simp; omega)]
      simp only [List.length_cons]; omega
def Apart (v u : Value) : Prop := ∀ g, v.ownBlock = some g → u.ownBlock = some g → False
theorem apart_ne {v u : Value} (h : Apart v u) : u.ownBlock = none ∨ u.ownBlock ≠ v.ownBlock := by
  cases hu : u.ownBlock with
  | none => exact Or.inl rfl
  | some g => exact Or.inr (fun e => h g e.symm hu)
theorem own_lt {w : World} {base e : Nat} {v : Value} {n size : Nat} {xs : List Value} (h : w.ownsRow base e size v n xs) (g : Nat) (hg : v.ownBlock = some g) : g < w.heap.size := by
  rcases h.2 with ⟨rfl, _⟩ | ⟨g', cap, cur, rfl, _, h2, _⟩
  · simp [Value.ownBlock] at hg
  · have : g' = g := by simpa [Value.ownBlock] using hg
    subst this
    exact (Array.getElem?_eq_some_iff.1 h2).1
theorem apart_new {w : World} {base e n size gg c k H : Nat} {v u : Value} {xs : List Value} (h : Apart v u) (hu : w.ownsRow base e size u n xs) (hat : v.ownBlock = some gg ∨ gg = H) (hH : w.heap.size ≤ H) : Apart (.slice (some ⟨gg, 0, none⟩) k c) u := by
  intro g h1 h2
  have e : gg = g := by simpa [Value.ownBlock] using h1
  subst e
  rcases hat with h3 | h3
  · exact h gg h3 h2
  · have := own_lt hu gg h2
    omega
theorem own_cells {w : World} {B e n : Nat} {v : Value} {xs : List Value} (h : w.ownsRow B e 1 v n xs) (hn : 0 < n) : ∃ g cap, v = .slice (some ⟨g, 0, none⟩) n cap ∧ n ≤ cap ∧ ∀ j u, xs[j]? = some u → w.cell? (Addr.add ⟨g, 0, none⟩ j) = some u := by
  rcases h.2 with ⟨rfl, h0⟩ | ⟨g, cap, cur, rfl, hb, hg, hc, hc2, hsz, htk⟩
  · omega
  · refine ⟨g, cap, rfl, hc, ?_⟩
    intro j v hv
    rw [Addr.add_mid, cell_of_row w g _ _ _ (0, 0) hg, Nat.zero_add]
    rw [← htk] at hv
    rw [List.getElem?_take] at hv
    split at hv
    · rw [← Array.getElem?_toList]; exact hv
    · cases hv
theorem bs_one (l : List UInt8) : ∀ u ∈ bs l, u.oneCell' = true := by
  intro u hu
  simp only [bs, List.mem_map] at hu
  obtain ⟨b, _, rfl⟩ := hu
  rfl
theorem apart_symm {v u : Value} (h : Apart v u) : Apart u v := fun g h1 h2 => h g h2 h1
set_option maxRecDepth 100000 in
set_option maxHeartbeats 1600000 in
theorem asDigits_any (L : List Nat) (s : ByteArray) (hs : Hid (s.data.toList = L.map hx)) (hl : Hid (∀ n ∈ L, n < 16)) (hL : Hid (L.length = 16)) (w : World) :
    Calls Try.prog 45 #[.string s] w fun e w' => e = .returned (.string ⟨(da L ++ db L).toArray⟩) ∧ Below w.heap.size w w' := by
  obtain ⟨i0, hi, hz0, hz1, hz2⟩ := info_parts Pg.info
  have s16 : Hid (s.size = 16) := (by rw [← sz, hs.out, List.length_map, hL.out] : s.size = 16)
  have z1 : (s.size : Int) ≤ 16 := by have := s16.out; omega
  go_enter Try.func45, Try.ntmps45
  go_wp2
  go_loopw [3, 4, 9] (fun v u c wr => ∃ k nA nB : Nat, k ≤ 16 ∧ nA + nB = k ∧ c = .int .i64 (k : Int) ∧ wr.ownsRow w.heap.size 5 1 v nA (bs (da (L.take k))) ∧ wr.ownsRow w.heap.size 5 1 u nB (bs (db (L.take k))) ∧ Apart v u ∧ (nA = 0 → v = .slice none 0 0) ∧ (nB = 0 → u = .slice none 0 0) ∧ Below w.heap.size w wr) (fun _ _ c _ => 17 - (intOf c).toNat)
  case atStart => exact ⟨0, 0, 0, by omega, rfl, rfl, World.ownsRow_nil _ _ _ _, World.ownsRow_nil _ _ _ _, fun g h _ => by simp [Value.ownBlock] at h, fun _ => rfl, fun _ => rfl, Below.refl _ _⟩
  case round =>
    obtain ⟨k, nA, nB, hk, hAB, rfl, o3, o4, hap, n3, n4, hbw⟩ := hrel
    have hbs := hbw.size
    by_cases hlt : k < 16
    · have hkL : k < L.length := by rw [hL.out]; exact hlt
      have hks : k < s.size := by rw [s16.out]; exact hlt
      have q0 : (0 : Int) ≤ (k : Int) := by omega
      have q1 : (k : Int) < (s.size : Int) := by omega
      have a16 := hl.out _ (List.getElem_mem hkL)
      have es : s[k] = hx L[k] := by
        have h2 : s.data.toList[k]? = some (hx L[k]) := by rw [hs.out, List.getElem?_map, List.getElem?_eq_getElem hkL]; rfl
        rw [List.getElem?_eq_getElem (by rw [sz]; exact hks)] at h2
        exact Option.some.inj h2
      have WO := fun u => worth_any s[k] u
      rw [es, six_hx _ a16] at WO
      rw [← es] at WO
      have tk : L.take (k + 1) = L.take k ++ [L[k]] := List.take_succ_eq_append_getElem hkL
      by_cases h10 : L[k] < 10
      · have HA : Hid (bs (da (L.take (k + 1))) = bs (da (L.take k)) ++ [.int .u8 (s[k].toNat : Int)]) := (by rw [tk, da_yes _ _ h10, bs_append, es]; rfl : bs (da (L.take (k + 1))) = bs (da (L.take k)) ++ [.int .u8 (s[k].toNat : Int)])
        have HB : Hid (bs (db (L.take (k + 1))) = bs (db (L.take k))) := (by rw [tk, db_no _ _ h10] : bs (db (L.take (k + 1))) = bs (db (L.take k)))
        generalize L[k] = a at *
        have i1 : (a : Int) < 10 := by omega
        clear es tk hs hl hL
        go_wp2_with fail
        refine (WO _).mono ?_
        rintro e u ⟨rfl, hu⟩
        rw [hu]
        clear hu u WO
        go_wp2_with (at_builtin; refine wpList_append_lies _ rfl _ _ _ rfl w.heap.size 5 i0 _ 1 1 Try.underlying65 hi hz0 hz1 hz2 rfl (by omega) _ nA _ rfl (o3.alloc _) ⟨wr.heap.size, 0, none⟩ 1 1 _ rfl (by rfl) (World.news_of_block (heap_alloc_new wr _)) (by simp [Value.oneCell']) (by omega) (by unfold maxLen; omega) (by omega) (by first | omega | (simp <;> omega)) (wr.heap.size + 1) (by simp) ?_; intro gg cap w1 hown1 hgrow hat hlt1)
        refine ⟨⟨k + 1, nA + 1, nB, by omega, by omega, by simp, owns_len hown1 rfl rfl HA.out.symm, ?_, apart_new hap o4 hat (by omega), fun h => by omega, n4, below_app0 hbw hbs o3 hgrow⟩, by simp only [intOf]; omega⟩
        rw [HB.out]
        exact (o4.alloc _).kept hgrow (apart_ne hap)
      · have HA : Hid (bs (da (L.take (k + 1))) = bs (da (L.take k))) := (by rw [tk, da_no _ _ (by omega)] : bs (da (L.take (k + 1))) = bs (da (L.take k)))
        have HB : Hid (bs (db (L.take (k + 1))) = bs (db (L.take k)) ++ [.int .u8 ((hx (L[k] - 10)).toNat : Int)]) := (by rw [tk, db_yes _ _ (by omega), bs_append]; rfl : bs (db (L.take (k + 1))) = bs (db (L.take k)) ++ [.int .u8 ((hx (L[k] - 10)).toNat : Int)])
        generalize L[k] = a at *
        have i1 : ¬ (a : Int) < 10 := by omega
        have i2 : (10 : Int) ≤ (a : Int) := by omega
        obtain ⟨d, Hd⟩ : ∃ d : Nat, Hid (a - 10 = d) := ⟨_, rfl⟩
        have ed := Hd.out
        have x1 : IntKind.i64.wrap ((a : Int) - 10) = (d : Int) := by rw [IntKind.wrap_i64]; omega
        have x2 : (a : Int) - 10 = (d : Int) := by omega
        have x3 : (d : Int) < 16 := by omega
        have x4 : (0 : Int) ≤ (d : Int) := by omega
        have d16 : d < 16 := by omega
        rw [ed] at HB
        have gx := hx_get d d16
        clear es tk hs hl hL ed
        go_wp2_with fail
        refine (WO _).mono ?_
        rintro e u ⟨rfl, hu⟩
        rw [hu]
        clear hu u WO
        go_wp2_with (at_builtin; refine wpList_append_lies _ rfl _ _ _ rfl w.heap.size 5 i0 _ 1 1 Try.underlying65 hi hz0 hz1 hz2 rfl (by omega) _ nB _ rfl (o4.alloc _) ⟨wr.heap.size, 0, none⟩ 1 1 _ rfl (by rfl) (World.news_of_block (heap_alloc_new wr _)) (by simp [Value.oneCell']) (by omega) (by unfold maxLen; omega) (by omega) (by first | omega | (simp <;> omega)) (wr.heap.size + 1) (by simp) ?_; intro gg cap w1 hown1 hgrow hat hlt1)
        refine ⟨⟨k + 1, nA, nB + 1, by omega, by omega, by simp, ?_, owns_len hown1 rfl rfl HB.out.symm, apart_symm (apart_new (apart_symm hap) o3 hat (by omega)), n3, fun h => by omega, below_app0 hbw hbs o4 hgrow⟩, by simp only [intOf]; omega⟩
        rw [HA.out]
        exact (o3.alloc _).kept hgrow (apart_ne (apart_symm hap))
    · obtain rfl : k = 16 := by omega
      have tl : L.take 16 = L := List.take_of_length_le (by rw [hL.out]; exact Nat.le_refl _)
      rw [tl] at o3 o4
      have q1 : ¬ (16 : Int) < (s.size : Int) := by have := s16.out; omega
      by_cases hB : nB = 0
      · subst hB
        obtain rfl : nA = 16 := by omega
        obtain rfl := n4 rfl
        have eb : db L = [] := by
          have := o4.1
          rw [bs_length] at this
          exact List.length_eq_zero_iff.1 (by omega)
        obtain ⟨g3, c3, rfl, hc3, -⟩ := own_cells o3 (by omega)
        have hc3' : ¬ c3 < 16 := by omega
        have hc3i : (16 : Int) ≤ (c3 : Int) := by omega
        have hcv := run_str (P := Try.prog) (src := 65) (dst := 9) Try.underlying65 Try.underlying5 Try.underlying9 o3
        have HR : Hid ((⟨(da L ++ db L).toArray⟩ : ByteArray) = ⟨(da L).toArray⟩) := (by rw [eb, List.append_nil] : (⟨(da L ++ db L).toArray⟩ : ByteArray) = ⟨(da L).toArray⟩)
        clear tl hs hl hL eb o4 o3 n3 n4 hAB
        go_wp2
        go_ret
        exact ⟨ret_str HR.out.symm, hbw⟩
      · obtain ⟨g4, c4, rfl, -, hn4⟩ := own_cells o4 (by omega)
        have nA16 : nA ≤ 16 := by omega
        have nB16 : nB ≤ 16 := by omega
        have l4 : (bs (db L)).length = nB * 1 := o4.1
        clear tl hs hl hL n3 n4 hAB
        go_wp2_with (at_builtin; refine wpList_append_lies _ rfl _ _ _ rfl w.heap.size 5 i0 _ 1 1 Try.underlying65 hi hz0 hz1 hz2 rfl (by omega) _ nA _ rfl o3 ⟨g4, 0, none⟩ nB c4 (bs (db L)) rfl l4 hn4 (bs_one _) (by omega) (by unfold maxLen; omega) (by omega) hbs wr.heap.size rfl ?_; intro gg cap w1 hown1 hgrow hat hlt1; have hcv := run_str (P := Try.prog) (src := 65) (dst := 9) Try.underlying65 Try.underlying5 Try.underlying9 (owns_len hown1 rfl rfl (bs_append (da L) (db L)).symm))
        go_ret
        exact ⟨rfl, hbw.grown hgrow hbs (own_ge o3)⟩
end Go.Proofs.Ytciblmdpngnakaa.Va
