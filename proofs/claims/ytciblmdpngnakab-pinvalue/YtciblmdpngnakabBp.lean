/- PINs, plain: there and back. -/
import Derived.Test.YtciblmdpngnakabWa
namespace Go.Proofs.Ytciblmdpngnakab.Bp
set_option linter.unusedVariables false
set_option linter.unusedSimpArgs false
open Go.RowKit Lib0 Six Pp Wa
open Pq (mk_list)
open Pg (ba_ext)
theorem dK_eK (k s : ByteArray) (h : s.size = 8) : dK k (eK k s) = s := by
  apply ba_ext
  show Et.mapB _ (Et.mapB _ _) = _
  exact Pm.map_back _ _ (fun x => Pla.enc_len _ _) (fun x hx => Pm.dec_enc _ x hx) _ 1 (by rw [sz, h])
theorem block_eq (f : Int) (p q fl : ByteArray) (hk : kn f = true) (hp : pinB p = true) (hq : qB f q = true) (hf : fillB f fl (14 - p.size) = true) : blockR f p q fl = (⟨(pk (mix f (lay f p fl) q)).toArray⟩, 0) := by
  unfold blockR; rw [if_neg (by simp [hk]), if_neg (by simp [hp]), if_neg (by simp [hq]), if_neg (by simp [hf])]
theorem head_nb (b : ByteArray) (h : 0 < b.size) : (b.data.toList.getD 0 0).toNat / 16 = (nb b.data.toList).getD 0 0 ∧ (b.data.toList.getD 0 0).toNat % 16 = (nb b.data.toList).getD 1 0 := by
  match hb : b.data.toList with
  | [] => have : b.data.toList.length = 0 := by rw [hb]; rfl
          rw [sz] at this; omega
  | c :: l => rw [nb_cons]; exact ⟨rfl, rfl⟩
theorem zx0 (A B : List Nat) (i : Nat) (ha : i < A.length) (hb : i < B.length) (h0 : B.getD i 0 = 0) : (zx A B).getD i 0 = A.getD i 0 := by
  have e1 : B[i] = 0 := by rw [List.getD_eq_getElem?_getD, List.getElem?_eq_getElem hb] at h0; exact h0
  have hl : i < (zx A B).length := by simp [zx]; omega
  rw [List.getD_eq_getElem?_getD, List.getD_eq_getElem?_getD, List.getElem?_eq_getElem hl, List.getElem?_eq_getElem ha]
  simp [zx, e1]
theorem mix_head (f : Int) (L : List Nat) (q : ByteArray) (hq : qB f q = true) (hL : L.length = 16) (i : Nat) (hi : i < 2) : (mix f L q).getD i 0 = L.getD i 0 := by
  unfold mix
  split
  · rfl
  · rename_i hf
    have h2 : panB q = true := by simpa [qB, hf] using hq
    refine zx0 L (bes q) i (by omega) (by rw [bes_len q h2]; omega) ?_
    match i, hi with
    | 0, _ => rfl
    | 1, _ => rfl
theorem lay_drop (f : Int) (p fl : ByteArray) : (lay f p fl).drop 2 = dvL p.data.toList ++ (if f = 0 then List.replicate (14 - p.size) 15 else svL fl.data.toList) := rfl
theorem lay_pin (f : Int) (p fl : ByteArray) : ((lay f p fl).drop 2).take p.size = dvL p.data.toList := by
  rw [lay_drop, List.take_left' (by rw [dv_len, sz])]
theorem lay_rest (f : Int) (p fl : ByteArray) : (lay f p fl).drop (2 + p.size) = (if f = 0 then List.replicate (14 - p.size) 15 else svL fl.data.toList) := by
  rw [← List.drop_drop, lay_drop, List.drop_left' (by rw [dv_len, sz])]
theorem hx_dg' : ∀ c : Fin 256, dg (UInt8.ofNat c.val) = true → hx (c.val - 48) = UInt8.ofNat c.val := by decide +kernel
theorem hx_dg (c : UInt8) (h : dg c = true) : hx (c.toNat - 48) = c := by
  have := hx_dg' ⟨c.toNat, c.toNat_lt⟩
  simp only [u8of] at this
  exact this h
theorem dv_hx : ∀ l : List UInt8, l.all dg = true → (dvL l).map hx = l
  | [], _ => rfl
  | c :: l, h => by
    simp only [List.all_cons, Bool.and_eq_true] at h
    have ih := dv_hx l h.2
    simp only [dvL, List.map_cons] at *
    rw [ih, hx_dg c h.1]
theorem read_lay (f : Int) (p fl : ByteArray) (hp : pinB p = true) (hf : fillB f fl (14 - p.size) = true) : readR f (lay f p fl) = (p, 0) := by
  have hpp := (pinB_iff p).1 hp
  have e1 : (lay f p fl).getD 1 0 = p.size := rfl
  unfold readR
  rw [e1, if_neg (by omega), lay_pin, lay_rest, if_pos]
  · have : (⟨((dvL p.data.toList).map hx).toArray⟩ : ByteArray) = p := ba_ext (by rw [mk_list, dv_hx _ hpp.2.2])
    rw [this]
  · constructor
    · rw [List.all_eq_true]
      intro n hn
      have := dv_lt _ hpp.2.2 n hn
      simp; omega
    · split
      · rename_i h0
        rw [List.all_eq_true]
        intro n hn
        have := List.eq_of_mem_replicate hn
        simp [flr, h0, this]
      · rename_i h0
        unfold fillB at hf
        rw [if_neg h0, Bool.and_eq_true] at hf
        rw [List.all_eq_true]
        intro n hn
        simp only [svL, List.mem_map] at hn
        obtain ⟨c, hc, rfl⟩ := hn
        have := List.all_eq_true.1 hf.2 c hc
        unfold fc at this
        rw [Bool.and_eq_true] at this
        exact this.2
theorem open_block (f : Int) (p q fl : ByteArray) (hk : kn f = true) (hp : pinB p = true) (hq : qB f q = true) (hf : fillB f fl (14 - p.size) = true) :
    openR f (⟨(pk (mix f (lay f p fl) q)).toArray⟩ : ByteArray) q = (p, 0) ∧ (((((⟨(pk (mix f (lay f p fl) q)).toArray⟩ : ByteArray).data.toList.getD 0 0).toNat / 16 : Nat)) : Int) = f := by
  have ll := lay_len f p fl hp hf
  have lt := lay_lt f p fl hk hp
  have ml := mix_len f _ q hq ll
  have mt := mix_lt f _ q hq lt
  have s8 : (⟨(pk (mix f (lay f p fl) q)).toArray⟩ : ByteArray).size = 8 := by rw [← sz, mk_list, pk_len, ml]
  have hd := (head_nb (⟨(pk (mix f (lay f p fl) q)).toArray⟩ : ByteArray) (by omega)).1
  rw [mk_list, nb_pk _ (by rw [ml]) mt, mix_head f _ q hq ll 0 (by decide)] at hd
  have e0 : (((lay f p fl).getD 0 0 : Nat) : Int) = f := by
    show ((f.toNat : Nat) : Int) = f
    have := (kn_iff f).1 hk
    omega
  have e1 : (((((⟨(pk (mix f (lay f p fl) q)).toArray⟩ : ByteArray).data.toList.getD 0 0).toNat / 16 : Nat)) : Int) = f := by rw [mk_list, hd, e0]
  refine ⟨?_, e1⟩
  unfold openR
  rw [if_neg, if_neg (by simp [hq]), mk_list, nb_pk _ (by rw [ml]) mt, mix_mix f _ q hq ll, read_lay f p fl hp hf]
  rintro (h | h | h)
  · rw [hk] at h; cases h
  · exact h s8
  · exact h e1
/-- one PIN, through all -/
theorem seal_eq (k : ByteArray) (f : Int) (p q fl : ByteArray) (h16 : k.size = 16) (hk : kn f = true) (hp : pinB p = true) (hq : qB f q = true) (hf : fillB f fl (14 - p.size) = true) : sealR k f p q fl = (eK k (blockR f p q fl).1, 0) := by
  have e := block_eq f p q fl hk hp hq hf
  unfold sealR
  rw [if_neg (by simpa using h16), e, if_neg (by simp)]
theorem unseal_eq (k : ByteArray) (f : Int) (p q fl : ByteArray) (h16 : k.size = 16) (hk : kn f = true) (hp : pinB p = true) (hq : qB f q = true) (hf : fillB f fl (14 - p.size) = true) : unsealR k f (eK k (blockR f p q fl).1) q = (p, 0) := by
  have e := block_eq f p q fl hk hp hq hf
  have s8 : (blockR f p q fl).1.size = 8 := (block_size f p q fl).2 (by rw [e])
  unfold unsealR
  rw [if_neg (by simpa using h16), if_neg (by rw [eK_size _ _ s8]; simp), dK_eK _ _ s8, e]
  exact (open_block f p q fl hk hp hq hf).1
theorem move_eq (k l : ByteArray) (f g : Int) (p q fl fm : ByteArray) (h16 : k.size = 16) (l16 : l.size = 16) (hk : kn f = true) (hg : kn g = true) (hp : pinB p = true) (hq : panB q = true) (hf : fillB f fl (14 - p.size) = true) (hm : fillB g fm (14 - p.size) = true) :
    moveR k l f g (eK k (blockR f p q fl).1) q fm = (eK l (blockR g p q fm).1, 0) := by
  have q1 : qB f q = true := by simp [qB, hq]
  have q2 : qB g q = true := by simp [qB, hq]
  unfold moveR
  rw [if_neg (fun hh => hh.elim (fun h' => h' h16) (fun h' => h' l16)), unseal_eq k f p q fl h16 hk hp q1 hf, if_neg (by simp), seal_eq l g p q fm l16 hg hp q2 hm]
end Go.Proofs.Ytciblmdpngnakab.Bp
