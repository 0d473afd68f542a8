import Derived.Test.YtciblmdpngnakaaGreatQs16
import Derived.Test.YtciblmdpngnakaaGreatQs17
import Derived.Test.YtciblmdpngnakaaGreatQs19
import Derived.Test.YtciblmdpngnakaaGreatQs00
/- PINs under keys: plain, and the program's. -/
namespace Go.Proofs.YtciblmdpngnakaaGreat.Wa
set_option linter.unusedVariables false
set_option linter.unusedSimpArgs false
open Go.RowKit Lib0 Six Pp Cb
open Pq (Post block_any open_any)
open Bk (Key key_kept)
open Wd (kindN)
open Et (mapB Enc_good Dec_good)
open Pla (enc dec enc_len dec_len)
def eK (k s : ByteArray) : ByteArray := ⟨(mapB (enc k.data.toList) s.data.toList).toArray⟩
def dK (k s : ByteArray) : ByteArray := ⟨(mapB (dec k.data.toList) s.data.toList).toArray⟩
theorem eK_size (k s : ByteArray) (h : s.size = 8) : (eK k s).size = 8 := by
  rw [← sz]
  show (mapB _ _).length = 8
  rw [Pm.mapB_len _ _ 1 (by rw [sz, h])]
theorem dK_size (k s : ByteArray) (h : s.size = 8) : (dK k s).size = 8 := by
  rw [← sz]
  show (mapB _ _).length = 8
  rw [Pm.mapB_len _ _ 1 (by rw [sz, h])]
def sealR (k : ByteArray) (f : Int) (p q fill : ByteArray) : ByteArray × Int :=
  if k.size ≠ 16 then (none8, 30) else if (blockR f p q fill).2 ≠ 0 then (none8, (blockR f p q fill).2) else (eK k (blockR f p q fill).1, 0)
def unsealR (k : ByteArray) (f : Int) (b q : ByteArray) : ByteArray × Int :=
  if k.size ≠ 16 then (none8, 30) else if b.size ≠ 8 then (none8, 61) else openR f (dK k b) q
def moveR (k l : ByteArray) (f g : Int) (b q fill : ByteArray) : ByteArray × Int :=
  if k.size ≠ 16 ∨ l.size ≠ 16 then (none8, 30) else if (unsealR k f b q).2 ≠ 0 then (none8, (unsealR k f b q).2) else sealR l g (unsealR k f b q).1 q fill
theorem block_size (f : Int) (p q fill : ByteArray) : (blockR f p q fill).1.size ≤ 8 ∧ ((blockR f p q fill).2 = 0 → (blockR f p q fill).1.size = 8) := by
  unfold blockR
  split
  · exact ⟨by show (0 : Nat) ≤ 8; omega, fun h => by simp at h⟩
  · split
    · exact ⟨by show (0 : Nat) ≤ 8; omega, fun h => by simp at h⟩
    · split
      · exact ⟨by show (0 : Nat) ≤ 8; omega, fun h => by simp at h⟩
      · split
        · exact ⟨by show (0 : Nat) ≤ 8; omega, fun h => by simp at h⟩
        · rename_i h1 h2 h3 h4
          have e : (ByteArray.mk (pk (mix f (lay f p fill) q)).toArray).size = 8 := by
            rw [← sz]
            show (pk _).length = 8
            rw [pk_len, mix_len f _ q (by simpa using h3) (lay_len f p fill (by simpa using h2) (by simpa using h4))]
          exact ⟨by show ByteArray.size _ ≤ 8; rw [e]; exact Nat.le_refl _, fun _ => e⟩
theorem read_size (f : Int) (L : List Nat) : (readR f L).1.size ≤ 12 := by
  unfold readR
  split
  · show (0 : Nat) ≤ 12; omega
  · split
    · rename_i h _
      show ByteArray.size _ ≤ 12
      rw [← sz]
      show (List.map hx _).length ≤ 12
      rw [List.length_map, List.length_take]
      omega
    · show (0 : Nat) ≤ 12; omega
theorem open_size (f : Int) (b q : ByteArray) : (openR f b q).1.size ≤ 12 := by
  unfold openR
  split
  · show (0 : Nat) ≤ 12; omega
  · split
    · show (0 : Nat) ≤ 12; omega
    · exact read_size _ _
theorem unseal_size (k : ByteArray) (f : Int) (b q : ByteArray) : (unsealR k f b q).1.size ≤ 12 := by
  unfold unsealR
  split
  · show (0 : Nat) ≤ 12; omega
  · split
    · show (0 : Nat) ≤ 12; omega
    · exact open_size _ _ _
theorem seal_size (k : ByteArray) (f : Int) (p q fill : ByteArray) : (sealR k f p q fill).1.size ≤ 8 := by
  unfold sealR
  split
  · show (0 : Nat) ≤ 8; omega
  · split
    · show (0 : Nat) ≤ 8; omega
    · rename_i h
      rw [eK_size _ _ ((block_size f p q fill).2 (by simpa using h))]
      exact Nat.le_refl _
theorem seal_bd (k : ByteArray) (f : Int) (p q fill : ByteArray) : 0 ≤ (sealR k f p q fill).2 ∧ (sealR k f p q fill).2 ≤ 100 := by
  have := Py.block_bd f p q fill
  unfold sealR
  split
  · constructor <;> simp
  · split
    · exact this
    · constructor <;> simp
theorem unseal_bd (k : ByteArray) (f : Int) (b q : ByteArray) : 0 ≤ (unsealR k f b q).2 ∧ (unsealR k f b q).2 ≤ 100 := by
  unfold unsealR
  split
  · constructor <;> simp
  · split
    · constructor <;> simp
    · exact Py.open_bd _ _ _
theorem move_bd (k l : ByteArray) (f g : Int) (b q fill : ByteArray) : 0 ≤ (moveR k l f g b q fill).2 ∧ (moveR k l f g b q fill).2 ≤ 100 := by
  have := unseal_bd k f b q
  unfold moveR
  split
  · constructor <;> simp
  · split
    · exact this
    · exact seal_bd _ _ _ _ _
theorem ready_bad (k : ByteArray) (h : ((k.size : Int) != 16) = true) (w : World) :
    Calls Tryz.prog 14 #[.string k] w fun e w' => e = .returned (.tuple #[.pointer none, .int .i64 30]) ∧ w' = w := by
  go_enter Tryz.func14, Tryz.ntmps14
  go_wp2
  exact bodyPost_ret (v := .tuple #[.pointer none, .int .i64 30]) (by simp [results, Tryz.results14, go_sem]) rfl ⟨rfl, rfl⟩
theorem ready_good (k : ByteArray) (h : Hid (k.size = 16)) (w : World) :
    Calls Tryz.prog 14 #[.string k] w fun e w' => ∃ g, e = .returned (.tuple #[.pointer (some ⟨g, 0, none⟩), .int .i64 0]) ∧ Key w' g 2 k.data.toList ∧ Below w.heap.size w w' := by
  have h' : ((k.size : Int) != 16) = false := by rw [h.out]; rfl
  have NG := fun u => Nw.new_good k 2 (by show kindN k.size = 2; rw [h.out]; rfl) (by decide) (by decide) u
  go_enter Tryz.func14, Tryz.ntmps14
  go_wp2_with fail
  refine (NG _).mono ?_
  rintro e x ⟨g, rfl, hg, hx, h2⟩
  have k2 := Bl.keyOf hx
  go_wp2
  exact bodyPost_ret (v := .tuple #[.pointer (some ⟨g, 0, none⟩), .int .i64 0]) (by simp [results, Tryz.results14, go_sem]) rfl ⟨g, rfl, k2, h2⟩
theorem kind16 (k : ByteArray) (h : k.size = 16) : kindN k.data.toList.length = 2 ∧ 1 ≤ 2 := ⟨by rw [sz, h]; rfl, by decide⟩
set_option maxRecDepth 100000 in
set_option maxHeartbeats 800000 in
theorem seal_any (k : ByteArray) (f : Int) (p q fill : ByteArray) (sk : k.size ≤ maxLen) (sp : p.size ≤ maxLen) (sq : q.size ≤ maxLen) (sf : fill.size ≤ maxLen) (w : World) :
    Calls Tryz.prog 6 #[.string k, .int .i64 f, .string p, .string q, .string fill] w (Post (sealR k f p q fill) w) := by
  by_cases h : k.size = 16
  · have RG := fun u => ready_good k h u
    have BA := fun u => block_any f p q fill sp sq sf u
    have bs := block_size f p q fill
    have e1 : sealR k f p q fill = if (blockR f p q fill).2 ≠ 0 then (none8, (blockR f p q fill).2) else (eK k (blockR f p q fill).1, 0) := by unfold sealR; rw [if_neg (by simpa using h)]
    rw [e1]
    clear e1
    generalize blockR f p q fill = r at *
    obtain ⟨A, E⟩ := r
    simp only at *
    by_cases hE : E = 0
    · rw [if_neg (by simpa using hE)]
      subst hE
      have a8 := bs.2 rfl
      have EN := fun g u hk => Enc_good A g 2 1 k.data.toList u (by show A.size = 8 * 1; rw [a8]) (by rw [a8]; decide) (kind16 k h) hk
      clear bs a8
      go_enter Tryz.func6, Tryz.ntmps6
      go_wp2_with fail
      refine (RG _).mono ?_
      rintro e x ⟨g, rfl, hg, hx⟩
      go_wp2_with fail
      refine (BA _).mono ?_
      rintro e y ⟨rfl, hy⟩
      have hg2 := key_kept hy hg
      go_wp2_with fail
      refine (EN g _ hg2).mono ?_
      rintro e z ⟨rfl, hz⟩
      go_wp2
      exact bodyPost_ret (v := .tuple #[.string (eK k A), .int .i64 0]) (by simp [results, Tryz.results6, go_sem, eK]) rfl ⟨rfl, keepB (keepB hx hy) hz⟩
    · rw [if_pos (by simpa using hE)]
      have hE' : (E != 0) = true := by simpa using hE
      clear bs
      go_enter Tryz.func6, Tryz.ntmps6
      go_wp2_with fail
      refine (RG _).mono ?_
      rintro e x ⟨g, rfl, hg, hx⟩
      go_wp2_with fail
      refine (BA _).mono ?_
      rintro e y ⟨rfl, hy⟩
      go_wp2
      exact bodyPost_ret (v := .tuple #[.string none8, .int .i64 E]) (by simp [results, Tryz.results6, go_sem, none8]) rfl ⟨rfl, keepB hx hy⟩
  · have RB := fun u => ready_bad k (by rw [bne_iff_ne]; omega) u
    have e1 : sealR k f p q fill = (none8, 30) := by unfold sealR; rw [if_pos (by simpa using h)]
    rw [e1]
    go_enter Tryz.func6, Tryz.ntmps6
    go_wp2_with fail
    refine (RB _).mono ?_
    rintro e x ⟨rfl, hx⟩
    rw [hx]
    go_wp2
    exact bodyPost_ret (v := .tuple #[.string none8, .int .i64 30]) (by simp [results, Tryz.results6, go_sem, none8]) rfl ⟨rfl, Below.refl _ _⟩
set_option maxRecDepth 100000 in
set_option maxHeartbeats 800000 in
theorem unseal_any (k : ByteArray) (f : Int) (b q : ByteArray) (sk : k.size ≤ maxLen) (sb : b.size ≤ maxLen) (sq : q.size ≤ maxLen) (w : World) :
    Calls Tryz.prog 8 #[.string k, .int .i64 f, .string b, .string q] w (Post (unsealR k f b q) w) := by
  by_cases h : k.size = 16
  · have RG := fun u => ready_good k h u
    by_cases h8 : b.size = 8
    · have e1 : unsealR k f b q = openR f (dK k b) q := by unfold unsealR; rw [if_neg (by simpa using h), if_neg (by simpa using h8)]
      rw [e1]
      have d8 := dK_size k b h8
      have OA := fun u => open_any f (dK k b) q (by rw [d8]; decide) sq u
      have DE := fun g u hk => Dec_good b g 2 1 k.data.toList u (by show b.size = 8 * 1; rw [h8]) (by rw [h8]; decide) (kind16 k h) hk
      have DE' : ∀ g u, Key u g 2 k.data.toList → Calls Tryz.prog 18 #[.pointer (some ⟨g, 0, none⟩), .string b] u fun e w' => e = .returned (.tuple #[.string (dK k b), .int .i64 0]) ∧ Below u.heap.size u w' := DE
      have x8 : ((b.size : Int) != 8) = false := by rw [h8]; rfl
      generalize openR f (dK k b) q = r at *
      obtain ⟨A, E⟩ := r
      clear DE d8 e1 h8
      generalize dK k b = D at *
      go_enter Tryz.func8, Tryz.ntmps8
      go_wp2_with fail
      refine (RG _).mono ?_
      rintro e x ⟨g, rfl, hg, hx⟩
      go_wp2_with fail
      refine (DE' g _ hg).mono ?_
      rintro e y ⟨rfl, hy⟩
      go_wp2_with fail
      refine (OA _).mono ?_
      rintro e z ⟨rfl, hz⟩
      go_wp2
      exact bodyPost_ret (v := .tuple #[.string A, .int .i64 E]) (by simp [results, Tryz.results8, go_sem]) rfl ⟨rfl, keepB (keepB hx hy) hz⟩
    · have e1 : unsealR k f b q = (none8, 61) := by unfold unsealR; rw [if_neg (by simpa using h), if_pos (by simpa using h8)]
      rw [e1]
      have x8 : ((b.size : Int) != 8) = true := by rw [bne_iff_ne]; omega
      unfold maxLen at sb
      go_enter Tryz.func8, Tryz.ntmps8
      go_wp2_with fail
      refine (RG _).mono ?_
      rintro e x ⟨g, rfl, hg, hx⟩
      go_wp2
      exact bodyPost_ret (v := .tuple #[.string none8, .int .i64 61]) (by simp [results, Tryz.results8, go_sem, none8]) rfl ⟨rfl, hx⟩
  · have RB := fun u => ready_bad k (by rw [bne_iff_ne]; omega) u
    have e1 : unsealR k f b q = (none8, 30) := by unfold unsealR; rw [if_pos (by simpa using h)]
    rw [e1]
    go_enter Tryz.func8, Tryz.ntmps8
    go_wp2_with fail
    refine (RB _).mono ?_
    rintro e x ⟨rfl, hx⟩
    rw [hx]
    go_wp2
    exact bodyPost_ret (v := .tuple #[.string none8, .int .i64 30]) (by simp [results, Tryz.results8, go_sem, none8]) rfl ⟨rfl, Below.refl _ _⟩
set_option maxRecDepth 100000 in
set_option maxHeartbeats 800000 in
theorem move_any (k l : ByteArray) (f g : Int) (b q fill : ByteArray) (sk : k.size ≤ maxLen) (sl : l.size ≤ maxLen) (sb : b.size ≤ maxLen) (sq : q.size ≤ maxLen) (sf : fill.size ≤ maxLen) (w : World) :
    Calls Tryz.prog 10 #[.string k, .string l, .int .i64 f, .int .i64 g, .string b, .string q, .string fill] w (Post (moveR k l f g b q fill) w) := by
  have UN := fun u => unseal_any k f b q sk sb sq u
  have us := unseal_size k f b q
  by_cases h : k.size = 16
  · have x1 : ((k.size : Int) != 16) = false := by rw [h]; rfl
    by_cases h2 : l.size = 16
    · have x2 : ((l.size : Int) != 16) = false := by rw [h2]; rfl
      have e1 : moveR k l f g b q fill = if (unsealR k f b q).2 ≠ 0 then (none8, (unsealR k f b q).2) else sealR l g (unsealR k f b q).1 q fill := by
        unfold moveR; rw [if_neg (fun hh => hh.elim (fun h' => h' h) (fun h' => h' h2))]
      rw [e1]
      clear e1 h h2
      generalize unsealR k f b q = r at *
      obtain ⟨A, E⟩ := r
      simp only at *
      have SE := fun u => seal_any l g A q fill sl (by unfold maxLen; omega) sq sf u
      clear us
      by_cases hE : E = 0
      · rw [if_neg (by simpa using hE)]
        subst hE
        generalize sealR l g A q fill = r2 at *
        obtain ⟨A2, E2⟩ := r2
        go_enter Tryz.func10, Tryz.ntmps10
        go_wp2_with fail
        refine (UN _).mono ?_
        rintro e x ⟨rfl, hx⟩
        go_wp2_with fail
        refine (SE _).mono ?_
        rintro e y ⟨rfl, hy⟩
        go_wp2
        exact bodyPost_ret (v := .tuple #[.string A2, .int .i64 E2]) (by simp [results, Tryz.results10, go_sem]) rfl ⟨rfl, keepB hx hy⟩
      · rw [if_pos (by simpa using hE)]
        have hE' : (E != 0) = true := by simpa using hE
        go_enter Tryz.func10, Tryz.ntmps10
        go_wp2_with fail
        refine (UN _).mono ?_
        rintro e x ⟨rfl, hx⟩
        go_wp2
        exact bodyPost_ret (v := .tuple #[.string none8, .int .i64 E]) (by simp [results, Tryz.results10, go_sem, none8]) rfl ⟨rfl, hx⟩
    · have e1 : moveR k l f g b q fill = (none8, 30) := by unfold moveR; rw [if_pos (Or.inr h2)]
      rw [e1]
      have x2 : ((l.size : Int) != 16) = true := by rw [bne_iff_ne]; omega
      go_enter Tryz.func10, Tryz.ntmps10
      go_wp2
      exact bodyPost_ret (v := .tuple #[.string none8, .int .i64 30]) (by simp [results, Tryz.results10, go_sem, none8]) rfl ⟨rfl, Below.refl _ _⟩
  · have e1 : moveR k l f g b q fill = (none8, 30) := by unfold moveR; rw [if_pos (Or.inl h)]
    rw [e1]
    have x2 : ((k.size : Int) != 16) = true := by rw [bne_iff_ne]; omega
    go_enter Tryz.func10, Tryz.ntmps10
    go_wp2
    exact bodyPost_ret (v := .tuple #[.string none8, .int .i64 30]) (by simp [results, Tryz.results10, go_sem, none8]) rfl ⟨rfl, Below.refl _ _⟩
end Go.Proofs.YtciblmdpngnakaaGreat.Wa
/- The document's rows of bits: take, sum, left. -/
namespace Go.Proofs.YtciblmdpngnakaaGreat.Rb
set_option linter.unusedVariables false
open Go.RowKit Pla Cb Sm
open Lib0 (owns_len own_ge below_app below_app0)
theorem infoI : (Tryz.prog.info? 3).map (fun i => (i.zero, i.size, i.bytes)) = some (some (.int .i64 0), 1, 8) := by kernel_rfl
/-- numbers as cells -/
def nv (l : List Nat) : List Value := l.map fun n : Nat => Value.int .i64 ((n : Nat) : Int)
theorem nv_len (l : List Nat) : (nv l).length = l.length := by simp [nv]
theorem nv_get (l : List Nat) (i : Nat) (h : i < l.length) : (nv l)[i]? = some (.int .i64 ((l[i] : Nat) : Int)) := by simp [nv, h]
theorem nv_snoc (l : List Nat) (n : Nat) : nv (l ++ [n]) = nv l ++ [.int .i64 ((n : Nat) : Int)] := by simp [nv]
theorem nv_take (l : List Nat) (k : Nat) (h : k < l.length) : nv (l.take (k + 1)) = nv (l.take k) ++ [.int .i64 ((l[k] : Nat) : Int)] := by
  rw [List.take_succ_eq_append_getElem h, nv_snoc]
theorem range_cell {w : World} {g o : Nat} {l : List Nat} (h : w.rangeAt g o (nv l)) (i : Nat) (hi : i < l.length) : w.cell? ⟨g, o + i, none⟩ = some (.int .i64 ((l[i] : Nat) : Int)) := h i _ (nv_get l i hi)
theorem own_range {w : World} {B e n : Nat} {v : Value} {l : List Nat} (h : w.ownsRow B e 1 v n (nv l)) (hn : 0 < n) : ∃ g cap, v = .slice (some ⟨g, 0, none⟩) n cap ∧ B ≤ g ∧ g < w.heap.size ∧ n ≤ cap ∧ w.rangeAt g 0 (nv l) := by
  rcases h.2 with ⟨rfl, h0⟩ | ⟨g, cap, cur, rfl, hb, hg, hc, hc2, hsz, htk⟩
  · omega
  · refine ⟨g, cap, rfl, hb, (Array.getElem?_eq_some_iff.1 hg).1, hc, ?_⟩
    intro j v hv
    rw [cell_of_row w g _ _ _ (0, 0) hg, Nat.zero_add]
    rw [← htk] at hv
    rw [List.getElem?_take] at hv
    split at hv
    · rw [← Array.getElem?_toList]; exact hv
    · cases hv
/-- what comes back: a new row -/
def New (w : World) (l : List Nat) (n : Nat) : Ending → World → Prop := fun e w' => ∃ g cap, e = .returned (.slice (some ⟨g, 0, none⟩) n cap) ∧ w.heap.size ≤ g ∧ g < w'.heap.size ∧ n ≤ cap ∧ w'.rangeAt g 0 (nv l) ∧ Below w.heap.size w w'
def tkN (t l : List Nat) : List Nat := t.map fun n => l.getD (n - 1) 0
set_option maxRecDepth 100000 in
set_option maxHeartbeats 1600000 in
theorem take_ref (t l : List Nat) (gt gl ol nt nl ct cl : Nat) (hnt : Hid (t.length = nt)) (hnl : Hid (l.length = nl)) (h0 : 0 < nt) (h1 : nt ≤ 100) (h2 : nl ≤ 100) (ht : Hid (∀ n ∈ t, 1 ≤ n ∧ n ≤ nl)) (w : World) (hgt : gt < w.heap.size) (hgl : gl < w.heap.size) (hrt : w.rangeAt gt 0 (nv t)) (hrl : w.rangeAt gl ol (nv l)) :
    Calls Tryz.prog 83 #[.slice (some ⟨gt, 0, none⟩) nt ct, .slice (some ⟨gl, ol, none⟩) nl cl] w (New w (tkN t l) nt) := by
  obtain ⟨i0, hi, hz0, hz1, hz2⟩ := info_parts infoI
  go_enter Tryz.func83, Tryz.ntmps83
  go_wp2
  go_loopw [5, 6] (fun v c wr => ∃ k : Nat, k ≤ nt ∧ c = .int .i64 (k : Int) ∧ wr.ownsRow w.heap.size 3 1 v k (nv ((tkN t l).take k)) ∧ Below w.heap.size w wr) (fun _ c _ => nt + 1 - (intOf c).toNat)
  case atStart => exact ⟨0, Nat.zero_le _, rfl, World.ownsRow_nil _ _ _ _, Below.refl _ _⟩
  case round =>
    obtain ⟨k, hk, rfl, hown, hbw⟩ := hrel
    have hbs := hbw.size
    by_cases hlt : k < nt
    · have q0 : (0 : Int) ≤ (k : Int) := by omega
      have q1 : (k : Int) < (nt : Int) := by omega
      have hkt : k < t.length := by rw [hnt.out]; exact hlt
      have hm := ht.out t[k] (List.getElem_mem hkt)
      have hml : t[k] - 1 < l.length := by rw [hnl.out]; omega
      have c1 := range_cell (range_keep hbw hgt hrt) k hkt
      rw [Nat.zero_add] at c1
      have c2 := range_cell (range_keep hbw hgl hrl) (t[k] - 1) hml
      have HN : Hid (nv ((tkN t l).take (k + 1)) = nv ((tkN t l).take k) ++ [.int .i64 ((l[t[k] - 1] : Nat) : Int)]) := (by
        rw [nv_take _ k (by simp [tkN]; exact hkt)]
        simp [tkN, hml] : nv ((tkN t l).take (k + 1)) = nv ((tkN t l).take k) ++ [.int .i64 ((l[t[k] - 1] : Nat) : Int)])
      generalize l[t[k] - 1] = x at *
      generalize hmm : t[k] = m at *
      have i1 : (1 : Int) ≤ (m : Int) := by omega
      have i2 : (m : Int) - 1 < (nl : Int) := by omega
      have i3 : (0 : Int) ≤ (m : Int) - 1 := by omega
      have i4 : (m : Int) ≤ 100 := by omega
      have t1 : ((m : Int) - 1).toNat = m - 1 := by omega
      clear hnt hnl ht hrt hrl hkt hmm hml hm
      go_wp2_with (at_builtin; refine wpList_append_lies _ rfl _ _ _ rfl w.heap.size 3 i0 _ 1 8 Tryz.underlying59 hi hz0 hz1 hz2 rfl (by omega) _ k _ rfl (hown.alloc _) ⟨wr.heap.size, 0, none⟩ 1 1 _ rfl (by rfl) (World.news_of_block (heap_alloc_new wr _)) (by simp [Value.oneCell']) (by omega) (by unfold maxLen; omega) (by omega) (by first | omega | (simp <;> omega)) (wr.heap.size + 1) (by simp) ?_; intro gg cap w1 hown1 hgrow hat hlt1)
      exact ⟨⟨k + 1, hlt, by simp, owns_len hown1 rfl rfl HN.out.symm, below_app0 hbw hbs hown hgrow⟩, by simp only [intOf]; omega⟩
    · obtain rfl : k = nt := by omega
      have q1 : ¬ (k : Int) < (k : Int) := by omega
      rw [List.take_of_length_le (by simp [tkN]; exact Nat.le_of_eq hnt.out)] at hown
      obtain ⟨g, cap, rfl, hB, hg, hcap, hr⟩ := own_range hown h0
      clear hnt hnl ht hrt hrl
      go_wp2
      go_ret
      exact ⟨g, cap, rfl, hB, hg, hcap, hr, hbw⟩
/-- bits as numbers -/
def nb (b : List Bool) : List Nat := b.map Bool.toNat
theorem nb_len (b : List Bool) : (nb b).length = b.length := by simp [nb]
theorem nb_get (b : List Bool) (i : Nat) (h : i < b.length) : (nb b)[i]'(by rw [nb_len]; exact h) = b[i].toNat := by simp [nb]
theorem tkN_nb (t : List Nat) (x : List Bool) : tkN t (nb x) = nb (tk t x) := by
  simp only [tkN, nb, tk, List.map_map]
  apply List.map_congr_left
  intro n _
  simp only [Function.comp, List.getD_eq_getElem?_getD, List.getElem?_map]
  cases x[n - 1]? <;> rfl
theorem toNat_le (b : Bool) : b.toNat ≤ 1 := by cases b <;> decide
theorem sum_bit (x y : Bool) : ((x.toNat : Int) + (y.toNat : Int)) % 2 = ((Bool.xor x y).toNat : Int) := by cases x <;> cases y <;> rfl
set_option maxRecDepth 100000 in
set_option maxHeartbeats 1600000 in
theorem sum_ref (a b : List Bool) (ga oa gb ob n ca cb : Nat) (ha : Hid (a.length = n)) (hb : Hid (b.length = n)) (h0 : 0 < n) (h1 : n ≤ 100) (w : World) (hga : ga < w.heap.size) (hgb : gb < w.heap.size) (hra : w.rangeAt ga oa (nv (nb a))) (hrb : w.rangeAt gb ob (nv (nb b))) :
    Calls Tryz.prog 87 #[.slice (some ⟨ga, oa, none⟩) n ca, .slice (some ⟨gb, ob, none⟩) n cb] w (New w (nb (xr a b)) n) := by
  obtain ⟨i0, hi, hz0, hz1, hz2⟩ := info_parts infoI
  go_enter Tryz.func87, Tryz.ntmps87
  go_wp2
  go_loopw [5, 6] (fun v c wr => ∃ k : Nat, k ≤ n ∧ c = .int .i64 (k : Int) ∧ wr.ownsRow w.heap.size 3 1 v k (nv ((nb (xr a b)).take k)) ∧ Below w.heap.size w wr) (fun _ c _ => n + 1 - (intOf c).toNat)
  case atStart => exact ⟨0, Nat.zero_le _, rfl, World.ownsRow_nil _ _ _ _, Below.refl _ _⟩
  case round =>
    obtain ⟨k, hk, rfl, hown, hbw⟩ := hrel
    have hbs := hbw.size
    have hxl : (nb (xr a b)).length = n := by rw [nb_len, xr_len a b n ha.out hb.out]
    by_cases hlt : k < n
    · have q0 : (0 : Int) ≤ (k : Int) := by omega
      have q1 : (k : Int) < (n : Int) := by omega
      have hka : k < a.length := by rw [ha.out]; exact hlt
      have hkb : k < b.length := by rw [hb.out]; exact hlt
      have KA : Hid (∀ y, Below w.heap.size w y → y.cell? ⟨ga, oa + k, none⟩ = some (.int .i64 (a[k].toNat : Int))) := (fun y hy => by have := range_cell (range_keep hy hga hra) k (by rw [nb_len]; exact hka); rwa [nb_get a k hka] at this : ∀ y, Below w.heap.size w y → y.cell? ⟨ga, oa + k, none⟩ = some (.int .i64 (a[k].toNat : Int)))
      have KB : Hid (∀ y, Below w.heap.size w y → y.cell? ⟨gb, ob + k, none⟩ = some (.int .i64 (b[k].toNat : Int))) := (fun y hy => by have := range_cell (range_keep hy hgb hrb) k (by rw [nb_len]; exact hkb); rwa [nb_get b k hkb] at this : ∀ y, Below w.heap.size w y → y.cell? ⟨gb, ob + k, none⟩ = some (.int .i64 (b[k].toNat : Int)))
      have c1 := KA.out wr hbw
      have c2 := KB.out wr hbw
      have u1 := sum_bit a[k] b[k]
      have l1 := toNat_le a[k]
      have l2 := toNat_le b[k]
      have i1 : (a[k].toNat : Int) ≤ 1 := by omega
      have i2 : (b[k].toNat : Int) ≤ 1 := by omega
      have i3 : (0 : Int) ≤ (a[k].toNat : Int) := by omega
      have i4 : (0 : Int) ≤ (b[k].toNat : Int) := by omega
      have HN : Hid (nv ((nb (xr a b)).take (k + 1)) = nv ((nb (xr a b)).take k) ++ [.int .i64 (((Bool.xor a[k] b[k]).toNat : Nat) : Int)]) := (by
        rw [nv_take _ k (by rw [hxl]; exact hlt), nb_get _ k (by rw [xr_len a b n ha.out hb.out]; exact hlt)]
        simp [xr] : nv ((nb (xr a b)).take (k + 1)) = nv ((nb (xr a b)).take k) ++ [.int .i64 (((Bool.xor a[k] b[k]).toNat : Nat) : Int)])
      generalize (Bool.xor a[k] b[k]).toNat = z at *
      generalize a[k].toNat = x at *
      generalize b[k].toNat = y at *
      have u2 : (IntKind.i64.wrap ((x : Int) + (y : Int))).tmod 2 = (z : Int) := by rw [show IntKind.i64.wrap ((x : Int) + (y : Int)) = (x : Int) + (y : Int) by rw [IntKind.wrap_i64]; omega, Int.tmod_eq_emod_of_nonneg (by omega), u1]
      clear ha hb hra hrb hka hkb hxl l1 l2
      go_wp2_with fail
      go_region_held3 (fun w' => w'.cell? ⟨ga, oa + k, none⟩ = some (.int .i64 (x : Int)) ∧ w'.cell? ⟨gb, ob + k, none⟩ = some (.int .i64 (y : Int))) (first | (refine ⟨?_, ?_⟩ <;> assumption) | go_keep)
        ((refine step_append_lies _ (by rfl) _ _ _ (by rfl) w.heap.size 3 i0 _ 1 8 Tryz.underlying59 hi hz0 hz1 hz2 rfl (by omega) u5 (k) _ (by rfl) ((hown.alloc _).drew) ⟨wr.heap.size, 0, none⟩ 1 1 _ (by rfl) (by rfl) (World.news_of_block (heap_alloc_new wr _)) (by simp [Value.oneCell']) (by omega) (by unfold maxLen; omega) (by omega) (by simp; omega) (wr.heap.size + 1) (by simp) ?_; intro gg cap w1 hown1 hgrow hat hlt1; have bw1 := below_app hbw hbs hown hgrow; have d1 := KA.out w1 bw1; have d2 := KB.out w1 bw1))
      all_goals
        go_wp2
        go_roundw
        case rel => exact ⟨k + 1, by omega, by go_num, owns_len hown1 rfl (by omega) HN.out.symm, below_app hbw hbs hown hgrow⟩
        case measure => simp [intOf]; omega
    · obtain rfl : k = n := by omega
      rw [List.take_of_length_le (by omega)] at hown
      obtain ⟨g, cap, rfl, hB, hg, hcap, hr⟩ := own_range hown h0
      clear ha hb hra hrb hxl
      go_wp2
      go_ret
      exact ⟨g, cap, rfl, hB, hg, hcap, hr, hbw⟩
theorem rot_get (l : List Bool) (n k : Nat) (hn : n ≤ l.length) (hk : k < l.length) : (rot l n)[k]? = l[(k + n) % l.length]? := by
  unfold rot
  by_cases h : k + n < l.length
  · rw [List.getElem?_append_left (by rw [List.length_drop]; omega), List.getElem?_drop, Nat.mod_eq_of_lt h, Nat.add_comm]
  · rw [List.getElem?_append_right (by rw [List.length_drop]; omega), List.length_drop, List.getElem?_take_of_lt (by omega), show (k + n) % l.length = k - (l.length - n) by rw [Nat.mod_eq_sub_mod (by omega), Nat.mod_eq_of_lt (by omega)]; omega]
set_option maxRecDepth 100000 in
set_option maxHeartbeats 1600000 in
theorem left_ref (l : List Bool) (m gl ol n cl : Nat) (hl : Hid (l.length = n)) (h0 : 0 < n) (h1 : n ≤ 100) (hm : m ≤ 2) (hmn : m ≤ n) (w : World) (hgl : gl < w.heap.size) (hrl : w.rangeAt gl ol (nv (nb l))) :
    Calls Tryz.prog 100 #[.slice (some ⟨gl, ol, none⟩) n cl, .int .i64 (m : Int)] w (New w (nb (rot l m)) n) := by
  obtain ⟨i0, hi, hz0, hz1, hz2⟩ := info_parts infoI
  have hz : ((n : Int) == 0) = false := beq_eq_false_iff_ne.mpr (by omega)
  have hz' : ((n : Int) == -1) = false := beq_eq_false_iff_ne.mpr (by omega)
  have m0 : (0 : Int) ≤ (m : Int) := by omega
  have m1 : (m : Int) ≤ 2 := by omega
  have n1 : (n : Int) ≤ 100 := by omega
  go_enter Tryz.func100, Tryz.ntmps100
  go_wp2
  go_loopw [5, 6] (fun v c wr => ∃ k : Nat, k ≤ n ∧ c = .int .i64 (k : Int) ∧ wr.ownsRow w.heap.size 3 1 v k (nv ((nb (rot l m)).take k)) ∧ Below w.heap.size w wr) (fun _ c _ => n + 1 - (intOf c).toNat)
  case atStart => exact ⟨0, Nat.zero_le _, rfl, World.ownsRow_nil _ _ _ _, Below.refl _ _⟩
  case round =>
    obtain ⟨k, hk, rfl, hown, hbw⟩ := hrel
    have hbs := hbw.size
    have hxl : (nb (rot l m)).length = n := by rw [nb_len, rot_len l m (by rw [hl.out]; exact hmn), hl.out]
    by_cases hlt : k < n
    · have q0 : (0 : Int) ≤ (k : Int) := by omega
      have q1 : (k : Int) < (n : Int) := by omega
      have hj : (k + m) % n < l.length := by rw [hl.out]; exact Nat.mod_lt _ h0
      have c1 := range_cell (range_keep hbw hgl hrl) ((k + m) % n) (by rw [nb_len]; exact hj)
      rw [nb_get l _ hj] at c1
      have HN : Hid (nv ((nb (rot l m)).take (k + 1)) = nv ((nb (rot l m)).take k) ++ [.int .i64 ((l[(k + m) % n].toNat : Nat) : Int)]) := (by
        have hk1 : k < (rot l m).length := by rw [nb_len] at hxl; omega
        rw [nv_take _ k (by rw [hxl]; exact hlt), nb_get _ k hk1]
        have e := rot_get l m k (by rw [hl.out]; exact hmn) (by rw [hl.out]; exact hlt)
        rw [hl.out, List.getElem?_eq_getElem hk1, List.getElem?_eq_getElem hj] at e
        rw [Option.some.inj e] : nv ((nb (rot l m)).take (k + 1)) = nv ((nb (rot l m)).take k) ++ [.int .i64 ((l[(k + m) % n].toNat : Nat) : Int)])
      generalize l[(k + m) % n].toNat = x at *
      have e1 : ((k : Int) + (m : Int)) % (n : Int) = (((k + m) % n : Nat) : Int) := by simp
      have e2 : ((k : Int) + (m : Int)).tmod (n : Int) = (((k + m) % n : Nat) : Int) := by rw [Int.tmod_eq_emod_of_nonneg (by omega), e1]
      have e3 : (((k + m) % n : Nat) : Int) < (n : Int) := by have := Nat.mod_lt (k + m) h0; omega
      generalize (k + m) % n = r at *
      have e4 : (0 : Int) ≤ (r : Int) := by omega
      clear hl hrl hj hxl
      go_wp2_with (at_builtin; refine wpList_append_lies _ rfl _ _ _ rfl w.heap.size 3 i0 _ 1 8 Tryz.underlying59 hi hz0 hz1 hz2 rfl (by omega) _ (k) _ rfl (hown.alloc _) ⟨wr.heap.size, 0, none⟩ 1 1 _ rfl (by rfl) (World.news_of_block (heap_alloc_new wr _)) (by simp [Value.oneCell']) (by omega) (by unfold maxLen; omega) (by omega) (by first | omega | (simp <;> omega)) (wr.heap.size + 1) (by simp) ?_; intro gg cap w1 hown1 hgrow hat hlt1)
      exact ⟨⟨k + 1, hlt, by simp, owns_len hown1 rfl rfl HN.out.symm, below_app0 hbw hbs hown hgrow⟩, by simp only [intOf]; omega⟩
    · obtain rfl : k = n := by omega
      rw [List.take_of_length_le (by omega)] at hown
      obtain ⟨g, cap, rfl, hB, hg, hcap, hr⟩ := own_range hown h0
      clear hl hrl hxl
      go_wp2
      go_ret
      exact ⟨g, cap, rfl, hB, hg, hcap, hr, hbw⟩
end Go.Proofs.YtciblmdpngnakaaGreat.Rb
