/- A length, there and back: plain facts. -/
import Derived.Test.YtmgnmkolijaidaaDoorLen
import Derived.Test.YtmgnmkolijaidaaDoorBak
namespace Go.Proofs.YtmgnmkolijaidaaDoor.Mea
open Go.RowKit Lib0 Chars Ebc Join Frm Spl Pck Rdd Num Unp Pre Len Bck Bak
theorem digit_nat (n : Nat) : (UInt8.ofNat (48 + n % 10)).toNat = 48 + n % 10 := by simp only [UInt8.toNat_ofNat']; omega
theorem numV_dgs : ∀ (w n : Nat), n < 10 ^ w → numV (dgs w n) = (n : Int)
  | 0, n, h => by simp at h; subst h; rfl
  | w + 1, n, h => by
    rw [dgs, numV_snoc, numV_dgs w (n / 10) (by rw [Nat.pow_succ] at h; omega), digit_nat]
    omega
theorem dgs_dig : ∀ (w n : Nat), (dgs w n).all dig = true
  | 0, n => rfl
  | w + 1, n => by
    rw [dgs, List.all_append, dgs_dig w]
    have : dig (UInt8.ofNat (48 + n % 10)) = true := decide_eq_true (by rw [digit_nat]; omega)
    rw [List.all_cons, List.all_nil, this]; rfl
theorem numV_list (l : List UInt8) (ha : l.all dig = true) : 0 ≤ numV l ∧ numV l < 10 ^ l.length := by
  have h := numV_bd (ByteArray.mk l.toArray) (by rw [mk_list]; exact ha) l.length (by rw [mk_size]; exact Nat.le_refl _)
  rw [mk_list, List.take_of_length_le (Nat.le_refl _)] at h
  exact h
theorem dgs_numV : ∀ (w : Nat) (l : List UInt8), l.length = w → l.all dig = true → dgs w (numV l).toNat = l
  | 0, l, h, _ => by
    obtain rfl : l = [] := List.eq_nil_of_length_eq_zero h
    rfl
  | w + 1, l, h, ha => by
    rcases List.eq_nil_or_concat l with rfl | ⟨L, c, rfl⟩
    · simp at h
    · rw [List.concat_eq_append] at h ha ⊢
      rw [List.all_append, Bool.and_eq_true] at ha
      have hd := dig_bd c (by simpa using ha.2)
      have hv := (numV_list L ha.1).1
      have hL : L.length = w := by simp at h; exact h
      have ih := dgs_numV w L hL ha.1
      rw [dgs, numV_snoc]
      have e1 : (10 * numV L + ((c.toNat : Int) - 48)).toNat / 10 = (numV L).toNat := by omega
      have e2 : (10 * numV L + ((c.toNat : Int) - 48)).toNat % 10 = c.toNat - 48 := by omega
      rw [e1, e2, ih, show 48 + (c.toNat - 48) = c.toNat by omega, UInt8.ofNat_toNat]
theorem num_ok (t : List UInt8) (h1 : 1 ≤ t.length) (h2 : t.length ≤ 18) (ha : t.all dig = true) : numR t = (numV t, 0) := by
  unfold numR
  have := fuL_all dig t ha
  rw [if_neg (by omega), if_neg (by omega)]
theorem num_dgs (w n : Nat) (h1 : 1 ≤ w) (h2 : w ≤ 18) (h : n < 10 ^ w) : numR (dgs w n) = ((n : Int), 0) := by
  rw [num_ok _ (by rw [dgs_length]; exact h1) (by rw [dgs_length]; exact h2) (dgs_dig w n), numV_dgs w n h]
theorem num_err (t : List UInt8) (h : ¬ (numR t).2 = 0) : (numR t).1 = 0 := by
  unfold numR at *
  by_cases h1 : t.length = 0 ∨ 18 < t.length
  · rw [if_pos h1]
  · rw [if_neg h1] at *
    by_cases h2 : fuL dig t < t.length
    · rw [if_pos h2]
    · rw [if_neg h2] at h; exact absurd rfl h
theorem dig_hlf (c : UInt8) (h : dig c = true) : hlf c = true := by
  have := of_decide_eq_true h
  exact decide_eq_true (by omega)
theorem dig_sgn (c : UInt8) (h : dig c = true) : sgn c = true := by
  have := of_decide_eq_true h
  exact decide_eq_true (by omega)
theorem dig_fit (enc : Int) (h : enc = 1 ∨ enc = 2 ∨ enc = 4) (c : UInt8) (hc : dig c = true) : fit enc c = true := by
  rcases h with rfl | rfl | rfl
  · rw [fit1]; exact dig_sgn c hc
  · rw [fit2]; exact dig_hlf c hc
  · rw [fit4]; exact dig_sgn c hc
theorem all_fit (enc : Int) (h : enc = 1 ∨ enc = 2 ∨ enc = 4) (t : List UInt8) (ha : t.all dig = true) : t.all (fit enc) = true :=
  List.all_eq_true.2 fun c hc => dig_fit enc h c (List.all_eq_true.1 ha c hc)
theorem split_pre (F : Nat → UInt8 → List UInt8 × Int) (t : List UInt8) (z : Int) : ∀ (l : List UInt8) (k : Nat) (acc : List UInt8), splitG F k l acc = (t, 0, z) → ∃ r, t = acc ++ r
  | [], k, acc, h => by
    simp only [splitG, Prod.mk.injEq] at h
    exact ⟨[], by simp [h.1]⟩
  | b :: l, k, acc, h => by
    obtain ⟨_, h1⟩ := ok_inv F k b l acc t z h
    obtain ⟨r, hr⟩ := split_pre F t z l (k + 1) _ h1
    exact ⟨(F k b).1 ++ r, by rw [hr, List.append_assoc]⟩
theorem split_dig (F G : Nat → UInt8 → List UInt8 × Int) (hFG : ∀ k b, (F k b).2 = 0 → (F k b).1.all dig = true → G k b = ((F k b).1, 0)) (t : List UInt8) (z : Int) (ha : t.all dig = true) : ∀ (l : List UInt8) (k : Nat) (acc : List UInt8), splitG F k l acc = (t, 0, z) → splitG G k l acc = (t, 0, z)
  | [], k, acc, h => h
  | b :: l, k, acc, h => by
    obtain ⟨h0, h1⟩ := ok_inv F k b l acc t z h
    obtain ⟨r, hr⟩ := split_pre F t z l (k + 1) _ h1
    have hx : (F k b).1.all dig = true := by
      rw [hr, List.all_append, List.all_append, Bool.and_eq_true, Bool.and_eq_true] at ha
      exact ha.1.2
    rw [sg_step G k b l acc _ (hFG k b h0 hx)]
    exact split_dig F G hFG t z ha l (k + 1) _ h1
theorem byte_dig (enc : Int) (n : Nat) (h : enc = 1 ∨ enc = 2 ∨ enc = 4) (k : Nat) (b : UInt8) (h0 : (byteG (fit enc) enc n k b).2 = 0) (ha : (byteG (fit enc) enc n k b).1.all dig = true) : byteG dig enc n k b = ((byteG (fit enc) enc n k b).1, 0) := by
  rcases h with rfl | rfl | rfl
  · rw [fit1] at *
    simp only [byteG] at *
    cases f1 : sgn (Rdd.chr 1 b) <;> cases d1 : dig (Rdd.chr 1 b) <;> simp_all
  · rw [fit2] at *
    have h1 := dig_hlf (c1 b)
    have h2 := dig_hlf (c2 b)
    simp only [byteG, true_or, if_true] at *
    rcases hole_le 2 n k with hh | hh | hh
    · rw [hh] at h0 ha ⊢
      obtain ⟨_, _, hx⟩ := inv0 hlf b h0
      rw [hx] at ha ⊢
      simp only [List.all_cons, List.all_nil, Bool.and_true, Bool.and_eq_true] at ha
      simp [byteR, ha.1, ha.2]
    · rw [hh] at h0 ha ⊢
      obtain ⟨_, hq, hx⟩ := inv1 hlf b h0
      rw [hx] at ha ⊢
      simp only [List.all_cons, List.all_nil, Bool.and_true] at ha
      simp only [byteR, ha, if_pos hq]; simp
    · rw [hh] at h0 ha ⊢
      obtain ⟨_, hq, hx⟩ := inv2 hlf b h0
      rw [hx] at ha ⊢
      simp only [List.all_cons, List.all_nil, Bool.and_true] at ha
      simp only [byteR, ha, if_pos hq]; simp
  · rw [fit4] at *
    simp only [byteG] at *
    cases f1 : sgn (Rdd.chr 4 b) <;> cases d1 : dig (Rdd.chr 4 b) <;> simp_all
theorem read_digits (enc : Int) (t : List UInt8) (h : enc = 1 ∨ enc = 2 ∨ enc = 4) (ha : t.all dig = true) : readR dig enc t.length (packL enc t) = (t, 0, 0) :=
  split_dig _ _ (byte_dig enc t.length h) t 0 ha _ 0 [] (read_pack enc t (by omega) (all_fit enc h t ha))
theorem pow4 (k : Nat) (h : k ≤ 4) : 10 ^ k ≤ 10000 := Nat.le_trans (Nat.pow_le_pow_right (by omega) h) (by decide)
theorem pow2 (k : Nat) (h : k ≤ 2) : 10 ^ k ≤ 100 := Nat.le_trans (Nat.pow_le_pow_right (by omega) h) (by decide)
theorem u8n (n : Nat) (h : n < 256) : n.toUInt8.toNat = n := by simp only [UInt8.toNat_ofNat', Nat.toUInt8]; omega
/-- a length, written and read -/
theorem len_prefix (enc : Int) (k m : Nat) (b : List UInt8) (h : enc = 1 ∨ enc = 2 ∨ enc = 4 ∨ enc = 5) (k1 : 1 ≤ k) (k2 : k ≤ 4) (hm : m < 10 ^ k) :
    ∃ t : List UInt8, prefixR enc (k : Int) (m : Int) = (t, 0) ∧ t.length ≤ 4 ∧ lengthR enc (k : Int) (t ++ b) = ((m : Int), 0, (t.length : Int)) := by
  have hmay : (enc = 1 ∨ enc = 2 ∨ enc = 4 ∨ enc = 5) ∧ 1 ≤ (k : Int) ∧ (k : Int) ≤ 4 := ⟨h, by omega, by omega⟩
  by_cases h5 : enc = 5
  · subst h5
    have hp := pow4 k k2
    have hl : (binL k m).length = k / 2 + k % 2 := by unfold binL; split <;> simp <;> omega
    have hb : binV (binL k m) = m := by
      unfold binL binV
      by_cases hk : k ≤ 2
      · have := pow2 k hk
        rw [if_pos hk]; simp only [List.foldl]; rw [u8n m (by omega)]; omega
      · rw [if_neg hk]; simp only [List.foldl]; rw [u8n _ (by omega), u8n _ (by omega)]; omega
    refine ⟨binL k m, ?_, by omega, ?_⟩
    · unfold prefixR
      rw [if_pos ⟨hmay, by omega⟩, Int.toNat_natCast, Int.toNat_natCast, if_pos hm, if_pos rfl]
    · unfold lengthR
      rw [if_pos hmay, if_neg (by rw [if_pos rfl, wd_two, List.length_append, hl]; omega), if_pos rfl, wd_two, Int.toNat_natCast, Int.toNat_natCast, ← hl, List.take_left]
      unfold lenB
      rw [hb, if_pos hm]
  · have h3 : enc = 1 ∨ enc = 2 ∨ enc = 4 := by omega
    have hd := dgs_dig k m
    have hl := pack_length enc (dgs k m) (by omega)
    rw [dgs_length] at hl
    have hw : widthOf enc (k : Int) ≤ 4 := by unfold widthOf; rw [if_neg (by omega)]; (repeat' split) <;> omega
    refine ⟨packL enc (dgs k m), ?_, by omega, ?_⟩
    · unfold prefixR
      rw [if_pos ⟨hmay, by omega⟩, Int.toNat_natCast, Int.toNat_natCast, if_pos hm, if_neg h5, p_yes enc _ (by omega) (by have := fuL_all (fit enc) _ (all_fit enc h3 _ hd); omega)]
    · have hr := read_digits enc (dgs k m) h3 hd
      rw [dgs_length] at hr
      unfold lengthR
      rw [if_pos hmay, if_neg (by rw [if_neg h5, ← hl, List.length_append]; omega), if_neg h5, ← hl, Int.toNat_natCast, Int.toNat_natCast, List.take_left, hr]
      simp only [txtR, if_true]
      rw [num_dgs k m k1 (by omega) hm]
theorem over_prefix (enc : Int) (k n : Nat) (h : enc = 1 ∨ enc = 2 ∨ enc = 4 ∨ enc = 5) (k1 : 1 ≤ k) (k2 : k ≤ 4) (hn : 10 ^ k ≤ n) : prefixR enc (k : Int) (n : Int) = ([], 13) := by
  unfold prefixR
  rw [if_pos ⟨⟨h, by omega, by omega⟩, by omega⟩, Int.toNat_natCast, Int.toNat_natCast, if_neg (by omega)]
/-- a length that was read is written so again -/
theorem len_back (enc : Int) (k : Nat) (l : List UInt8) (v z : Int) (h : enc = 1 ∨ enc = 2 ∨ enc = 4 ∨ enc = 5) (k1 : 1 ≤ k) (k2 : k ≤ 4) (hr : lengthR enc (k : Int) l = (v, 0, z)) :
    ∃ (W u : Nat), z = (W : Int) ∧ W ≤ l.length ∧ v = (u : Int) ∧ u < 10 ^ k ∧ prefixR enc (k : Int) (u : Int) = (l.take W, 0) := by
  have hmay : (enc = 1 ∨ enc = 2 ∨ enc = 4 ∨ enc = 5) ∧ 1 ≤ (k : Int) ∧ (k : Int) ≤ 4 := ⟨h, by omega, by omega⟩
  unfold lengthR at hr
  rw [if_pos hmay] at hr
  by_cases h5 : enc = 5
  · subst h5
    rw [if_pos rfl, if_pos rfl, wd_two, Int.toNat_natCast, Int.toNat_natCast] at hr
    by_cases hs : (l.length : Int) < ((k / 2 + k % 2 : Nat) : Int)
    · rw [if_pos hs] at hr; simp at hr
    · rw [if_neg hs] at hr
      unfold lenB at hr
      by_cases ho : binV (l.take (k / 2 + k % 2)) < 10 ^ k
      · rw [if_pos ho] at hr
        simp only [Prod.mk.injEq, List.length_take] at hr
        obtain ⟨rfl, _, rfl⟩ := hr
        refine ⟨k / 2 + k % 2, binV (l.take (k / 2 + k % 2)), by omega, by omega, rfl, ho, ?_⟩
        unfold prefixR
        rw [if_pos ⟨hmay, by omega⟩, Int.toNat_natCast, Int.toNat_natCast, if_pos ho, if_pos rfl]
        by_cases hk : k ≤ 2
        · have h1 : k / 2 + k % 2 = 1 := by omega
          rw [h1] at hs ⊢
          match l, hs with
          | [], hs => simp at hs
          | a :: l, _ =>
            simp [binL, hk, binV]
        · have h1 : k / 2 + k % 2 = 2 := by omega
          rw [h1] at hs ⊢
          match l, hs with
          | [], hs => simp at hs
          | [a], hs => simp at hs
          | a :: c :: l, _ =>
            have ha := a.toNat_lt
            have hc := c.toNat_lt
            simp only [List.take, binL, if_neg hk, binV, List.foldl]
            rw [show (256 * (256 * 0 + a.toNat) + c.toNat) / 256 = a.toNat by omega, show (256 * (256 * 0 + a.toNat) + c.toNat) % 256 = c.toNat by omega]
            simp
      · rw [if_neg ho] at hr; simp at hr
  · have h3 : enc = 1 ∨ enc = 2 ∨ enc = 4 := by omega
    rw [if_neg h5, if_neg h5, Int.toNat_natCast] at hr
    have hw0 : 0 ≤ widthOf enc (k : Int) := by unfold widthOf; (repeat' split) <;> omega
    obtain ⟨W, hW⟩ : ∃ W : Nat, widthOf enc (k : Int) = (W : Int) := ⟨(widthOf enc k).toNat, by omega⟩
    rw [hW, Int.toNat_natCast] at hr
    by_cases hs : (l.length : Int) < (W : Int)
    · rw [if_pos hs] at hr; simp at hr
    · rw [if_neg hs] at hr
      obtain ⟨r, hrr⟩ : ∃ r, readR dig enc k (l.take W) = r := ⟨_, rfl⟩
      rw [hrr] at hr
      obtain ⟨t, e, at'⟩ := r
      by_cases h0 : e = 0
      · subst h0
        obtain ⟨p1, p2, p3, _⟩ := pack_read dig enc k (l.take W) t at' (by omega) (fun c hc => dig_fit enc h3 c hc) (by rw [hW, List.length_take]; omega) hrr
        simp only [txtR, if_true] at hr
        rw [num_ok t (by omega) (by omega) p3] at hr
        simp only [Prod.mk.injEq] at hr
        obtain ⟨rfl, _, rfl⟩ := hr
        have hb := numV_list t p3
        rw [p2] at hb
        have hc : ((10 ^ k : Nat) : Int) = (10 : Int) ^ k := by simp
        have hu : (numV t).toNat < 10 ^ k := by omega
        refine ⟨W, (numV t).toNat, rfl, by omega, by omega, hu, ?_⟩
        unfold prefixR
        rw [if_pos ⟨hmay, by omega⟩, Int.toNat_natCast, Int.toNat_natCast, if_pos hu, if_neg h5, dgs_numV k t p2 p3, p_yes enc t (by omega) (by have := fuL_all (fit enc) _ (all_fit enc h3 _ p3); omega), p1]
      · unfold txtR at hr
        rw [if_neg h0] at hr
        simp only [Prod.mk.injEq] at hr
        exact absurd hr.2.1 h0
theorem len_err (enc m : Int) (l : List UInt8) (v e z : Int) (h0 : e ≠ 0) (hr : lengthR enc m l = (v, e, z)) : v = 0 := by
  unfold lengthR lenB txtR at hr
  (repeat' split at hr) <;> simp only [Prod.mk.injEq] at hr
  all_goals
    obtain ⟨rfl, rfl, _⟩ := hr
    first
      | rfl
      | (exact absurd rfl h0)
      | (exact num_err _ h0)
end Go.Proofs.YtmgnmkolijaidaaDoor.Mea
