/- What is read is packed as it stood; a wrong byte has its place: plain facts. -/
import Derived.Test.YtmgnmkolijaidaaDoorBck
namespace Go.Proofs.YtmgnmkolijaidaaDoor.Bak
open Go.RowKit Lib0 Chars Ebc Join Frm Spl Pck Rdd Unp Bck
theorem ok_inv (F : Nat → UInt8 → List UInt8 × Int) (k : Nat) (b : UInt8) (l acc t : List UInt8) (z : Int) (h : splitG F k (b :: l) acc = (t, 0, z)) : (F k b).2 = 0 ∧ splitG F (k + 1) l (acc ++ (F k b).1) = (t, 0, z) := by
  unfold splitG at h
  by_cases h0 : (F k b).2 = 0
  · rw [if_pos h0] at h; exact ⟨h0, h⟩
  · rw [if_neg h0] at h
    simp only [Prod.mk.injEq] at h
    exact absurd h.2.1 h0
theorem inv0 (p : UInt8 → Bool) (b : UInt8) (h : (byteR p 0 b).2 = 0) : p (c1 b) = true ∧ p (c2 b) = true ∧ (byteR p 0 b).1 = [c1 b, c2 b] := by
  unfold byteR at *
  cases h1 : p (c1 b) <;> cases h2 : p (c2 b) <;> simp_all
theorem inv1 (p : UInt8 → Bool) (b : UInt8) (h : (byteR p 1 b).2 = 0) : p (c2 b) = true ∧ b.toNat / 16 = 0 ∧ (byteR p 1 b).1 = [c2 b] := by
  unfold byteR at *
  by_cases h1 : p (c2 b) = true <;> by_cases h2 : b.toNat / 16 = 0 <;> simp_all
theorem inv2 (p : UInt8 → Bool) (b : UInt8) (h : (byteR p 2 b).2 = 0) : p (c1 b) = true ∧ b.toNat % 16 = 15 ∧ (byteR p 2 b).1 = [c1 b] := by
  unfold byteR at *
  by_cases h1 : p (c1 b) = true <;> by_cases h2 : b.toNat % 16 = 15 <;> simp_all
theorem hv_c1 (b : UInt8) : hv (c1 b) = (b.toNat : Int) / 16 := by unfold hv; rw [c1_nat]; omega
theorem hv_c2 (b : UInt8) : hv (c2 b) = (b.toNat : Int) % 16 := by unfold hv; rw [c2_nat]; omega
theorem u8_back (b : UInt8) (n : Int) (h : n = (b.toNat : Int)) : n.toNat.toUInt8 = b := by
  subst h
  apply UInt8.toNat.inj
  have := b.toNat_lt
  simp only [UInt8.toNat_ofNat', Nat.toUInt8]; omega
theorem j12 (b : UInt8) : (16 * hv (c1 b) + hv (c2 b)).toNat.toUInt8 = b := u8_back b _ (by rw [hv_c1, hv_c2]; omega)
theorem j01 (b : UInt8) (h : b.toNat / 16 = 0) : (16 * hv 48 + hv (c2 b)).toNat.toUInt8 = b := u8_back b _ (by rw [hv_c2, show hv 48 = 0 by decide]; omega)
theorem j15 (b : UInt8) (h : b.toNat % 16 = 15) : (16 * hv (c1 b) + 15).toNat.toUInt8 = b := u8_back b _ (by rw [hv_c1]; omega)
theorem plain_inv (p : UInt8 → Bool) (enc : Int) (n : Nat) (t : List UInt8) (z : Int) : ∀ (l : List UInt8) (k : Nat) (acc : List UInt8), (∀ j, k ≤ j → holeAt enc n j = 0) → splitG (fun k b => byteR p (holeAt enc n k) b) k l acc = (t, 0, z) → ∃ r, t = acc ++ r ∧ r.length = 2 * l.length ∧ r.all p = true ∧ joinL r = l ∧ z = 0
  | [], k, acc, _, h => by
    simp only [splitG, Prod.mk.injEq] at h
    exact ⟨[], by simp [h.1], rfl, rfl, rfl, h.2.2.symm⟩
  | b :: l, k, acc, hz, h => by
    obtain ⟨h0, h1⟩ := ok_inv _ k b l acc t z h
    simp only [hz k (Nat.le_refl _)] at h0 h1
    obtain ⟨p1, p2, hx⟩ := inv0 p b h0
    rw [hx] at h1
    obtain ⟨r, e1, e2, e3, e4, e5⟩ := plain_inv p enc n t z l (k + 1) _ (fun j hj => hz j (by omega)) h1
    refine ⟨c1 b :: c2 b :: r, ?_, ?_, ?_, ?_, e5⟩
    · rw [e1, List.append_assoc]; rfl
    · simp only [List.length_cons, e2]; omega
    · simp [p1, p2, e3]
    · rw [joinL, e4, j12]
theorem last_inv (p : UInt8 → Bool) (n : Nat) (t : List UInt8) (z : Int) : ∀ (l : List UInt8) (k : Nat) (acc : List UInt8), 1 ≤ l.length → n + 1 = 2 * (k + l.length) → splitG (fun k b => byteR p (holeAt 3 n k) b) k l acc = (t, 0, z) → ∃ r, t = acc ++ r ∧ r.length + 1 = 2 * l.length ∧ r.all p = true ∧ joinL r = l ∧ z = 0
  | [], k, acc, h1, _, _ => by simp at h1
  | [b], k, acc, _, hn, h => by
    obtain ⟨h0, h1⟩ := ok_inv _ k b [] acc t z h
    have hh : holeAt 3 n k = 2 := by
      have h3 : n % 2 = 1 := by simp at hn; omega
      have h4 : k = n / 2 := by simp at hn; omega
      simp [holeAt, h3, ← h4]
    simp only [hh] at h0 h1
    obtain ⟨p1, p2, hx⟩ := inv2 p b h0
    rw [hx] at h1
    simp only [splitG, Prod.mk.injEq] at h1
    refine ⟨[c1 b], h1.1.symm, rfl, by simp [p1], ?_, h1.2.2.symm⟩
    rw [joinL, j15 b p2]
  | b :: b2 :: l, k, acc, _, hn, h => by
    obtain ⟨h0, h1⟩ := ok_inv _ k b (b2 :: l) acc t z h
    have hh : holeAt 3 n k = 0 := by
      have h4 : ¬ k = n / 2 := by simp at hn; omega
      simp [holeAt, h4]
    simp only [hh] at h0 h1
    obtain ⟨p1, p2, hx⟩ := inv0 p b h0
    rw [hx] at h1
    obtain ⟨r, e1, e2, e3, e4, e5⟩ := last_inv p n t z (b2 :: l) (k + 1) _ (by simp) (by simp only [List.length_cons] at *; omega) h1
    refine ⟨c1 b :: c2 b :: r, ?_, ?_, ?_, ?_, e5⟩
    · rw [e1, List.append_assoc]; rfl
    · simp only [List.length_cons] at *; omega
    · simp [p1, p2, e3]
    · rw [joinL, e4, j12]
theorem back_all : ∀ m : Fin 256, sgn (dec (UInt8.ofNat m.val)) = true → ebc (dec (UInt8.ofNat m.val)) = UInt8.ofNat m.val := by decide +kernel
theorem back_dec (c : UInt8) (h : sgn (dec c) = true) : ebc (dec c) = c := by
  have := back_all ⟨c.toNat, c.toNat_lt⟩
  simp only [UInt8.ofNat_toNat] at this
  exact this h
theorem single_inv (p : UInt8 → Bool) (enc : Int) (n : Nat) (l t : List UInt8) (z : Int) (h : enc = 1 ∨ enc = 4 ∨ enc = 5) (hr : readR p enc n l = (t, 0, z)) : t = l.map (Rdd.chr enc) ∧ t.all p = true ∧ z = 0 := by
  rw [read_single p enc n l h] at hr
  by_cases hf : fuL p (l.map (Rdd.chr enc)) < l.length
  · rw [if_pos hf] at hr
    simp at hr
  · rw [if_neg hf] at hr
    simp only [Prod.mk.injEq] at hr
    obtain ⟨rfl, _, h3⟩ := hr
    have := fuL_le p (l.map (Rdd.chr enc))
    rw [List.length_map] at this
    exact ⟨rfl, fuL_eq p _ (by rw [List.length_map]; omega), h3.symm⟩
/-- BACK AND THERE: what was read is packed as it stood -/
theorem pack_read (p : UInt8 → Bool) (enc : Int) (n : Nat) (l t : List UInt8) (z : Int) (h : 1 ≤ enc ∧ enc ≤ 5) (hp : ∀ c, p c = true → fit enc c = true) (hl : (l.length : Int) = widthOf enc (n : Int)) (hr : readR p enc n l = (t, 0, z)) : packL enc t = l ∧ t.length = n ∧ t.all p = true ∧ z = 0 := by
  have h5 : enc = 1 ∨ enc = 2 ∨ enc = 3 ∨ enc = 4 ∨ enc = 5 := by omega
  rcases h5 with rfl | rfl | rfl | rfl | rfl
  · obtain ⟨rfl, h2, h3⟩ := single_inv p 1 n l t z (by omega) hr
    rw [chr_id 1 _ (by omega)] at *
    have hn : l.length = n := by unfold widthOf at hl; rw [if_neg (by omega), if_neg (by omega), if_pos (by omega)] at hl; omega
    exact ⟨by simp [packL], hn, h2, h3⟩
  · have hw : (l.length : Int) = (n : Int) / 2 + (n : Int) % 2 := by unfold widthOf at hl; rw [if_neg (by omega), if_pos (by omega)] at hl; exact hl
    rw [readR, byteG_two p 2 _ (by omega)] at hr
    by_cases ho : n % 2 = 0
    · obtain ⟨r, e1, e2, e3, e4, e5⟩ := plain_inv p 2 n t z l 0 [] (fun j _ => by simp [holeAt, ho]) hr
      rw [List.nil_append] at e1
      subst e1
      refine ⟨?_, by omega, e3, e5⟩
      rw [show packL 2 t = joinL t by simp [packL, e2]]
      exact e4
    · match l, hw, hr with
      | [], hw, hr => simp at hw; omega
      | b :: l, hw, hr =>
        obtain ⟨h0, h1⟩ := ok_inv _ 0 b l [] t z hr
        have hh : holeAt 2 n 0 = 1 := by simp [holeAt, ho]
        simp only [hh] at h0 h1
        obtain ⟨p1, p2, hx⟩ := inv1 p b h0
        rw [hx] at h1
        obtain ⟨r, e1, e2, e3, e4, e5⟩ := plain_inv p 2 n t z l 1 [c2 b] (fun j hj => by
          have h3 : ¬ j = 0 := by omega
          simp [holeAt, h3]) h1
        subst e1
        simp only [List.length_cons] at hw
        refine ⟨?_, by simp [e2]; omega, by simp [p1, e3], e5⟩
        rw [show packL 2 ([c2 b] ++ r) = joinL (48 :: c2 b :: r) by simp [packL, e2], joinL, e4, j01 b p2]
  · have hw : (l.length : Int) = (n : Int) / 2 + (n : Int) % 2 := by unfold widthOf at hl; rw [if_neg (by omega), if_pos (by omega)] at hl; exact hl
    rw [readR, byteG_two p 3 _ (by omega)] at hr
    by_cases ho : n % 2 = 0
    · obtain ⟨r, e1, e2, e3, e4, e5⟩ := plain_inv p 3 n t z l 0 [] (fun j _ => by simp [holeAt, ho]) hr
      rw [List.nil_append] at e1
      subst e1
      refine ⟨?_, by omega, e3, e5⟩
      rw [show packL 3 t = joinL t by simp [packL]]
      exact e4
    · obtain ⟨r, e1, e2, e3, e4, e5⟩ := last_inv p n t z l 0 [] (by omega) (by omega) hr
      rw [List.nil_append] at e1
      subst e1
      refine ⟨?_, by omega, e3, e5⟩
      rw [show packL 3 t = joinL t by simp [packL]]
      exact e4
  · obtain ⟨rfl, h2, h3⟩ := single_inv p 4 n l t z (by omega) hr
    have hn : l.length = n := by unfold widthOf at hl; rw [if_neg (by omega), if_neg (by omega), if_pos (by omega)] at hl; omega
    refine ⟨?_, by rw [List.length_map]; exact hn, h2, h3⟩
    rw [chr_dec] at *
    rw [show packL 4 (l.map dec) = (l.map dec).map ebc by simp [packL]]
    refine map_all dec ebc l fun c hc => back_dec c ?_
    have := hp (dec c) (List.all_eq_true.1 h2 (dec c) (List.mem_map_of_mem hc))
    rwa [fit4] at this
  · obtain ⟨rfl, h2, h3⟩ := single_inv p 5 n l t z (by omega) hr
    rw [chr_id 5 _ (by omega)] at *
    have hn : l.length = n := by unfold widthOf at hl; rw [if_neg (by omega), if_neg (by omega), if_pos (by omega)] at hl; omega
    exact ⟨by simp [packL], hn, h2, h3⟩
theorem place_ge (F : Nat → UInt8 → List UInt8 × Int) : ∀ (l : List UInt8) (k : Nat) (acc : List UInt8), (splitG F k l acc).2.1 = 0 ∨ (k : Int) ≤ (splitG F k l acc).2.2
  | [], k, acc => Or.inl rfl
  | b :: l, k, acc => by
    unfold splitG
    split
    · rcases place_ge F l (k + 1) (acc ++ (F k b).1) with h | h
      · exact Or.inl h
      · exact Or.inr (by omega)
    · exact Or.inr (Int.le_refl _)
theorem split_err (F : Nat → UInt8 → List UInt8 × Int) (t : List UInt8) (e z : Int) (he : e ≠ 0) : ∀ (l : List UInt8) (k : Nat) (acc : List UInt8), splitG F k l acc = (t, e, z) → t = [] ∧ ∃ j, j < l.length ∧ z = ((k + j : Nat) : Int) ∧ (∃ b, (F (k + j) b).2 = e) ∧ ∀ b', (F (k + j) b').2 = 0 → ((splitG F k (l.set j b') acc).2.1 = 0 ∨ z < (splitG F k (l.set j b') acc).2.2)
  | [], k, acc, h => by
    simp only [splitG, Prod.mk.injEq] at h
    exact absurd h.2.1.symm he
  | b :: l, k, acc, h => by
    unfold splitG at h
    by_cases h0 : (F k b).2 = 0
    · rw [if_pos h0] at h
      obtain ⟨e1, j, hj, hz, hx, hb⟩ := split_err F t e z he l (k + 1) _ h
      refine ⟨e1, j + 1, by simp only [List.length_cons]; omega, by rw [hz]; congr 1; omega, by rw [show k + (j + 1) = k + 1 + j by omega]; exact hx, fun b' hb' => ?_⟩
      rw [List.set_cons_succ]
      have := hb b' (by rw [show k + 1 + j = k + (j + 1) by omega]; exact hb')
      unfold splitG
      rw [if_pos h0]
      exact this
    · rw [if_neg h0] at h
      simp only [Prod.mk.injEq] at h
      obtain ⟨rfl, h2, rfl⟩ := h
      refine ⟨rfl, 0, by simp, rfl, ⟨b, h2⟩, fun b' hb' => ?_⟩
      rw [List.set_cons_zero]
      have hb2 : (F k b').2 = 0 := hb'
      have hg := place_ge F l (k + 1) (acc ++ (F k b').1)
      unfold splitG
      rw [if_pos hb2]
      rcases hg with h | h
      · exact Or.inl h
      · exact Or.inr (by omega)
theorem byteG_code (p : UInt8 → Bool) (enc : Int) (n k : Nat) (b : UInt8) : (byteG p enc n k b).2 = 0 ∨ (byteG p enc n k b).2 = 11 ∨ (byteG p enc n k b).2 = 12 := by
  unfold byteG byteR
  (repeat' split) <;> simp
/-- a right byte, for a place of n characters -/
def turnB (enc : Int) (n k : Nat) : UInt8 := if enc = 2 ∨ enc = 3 then (if holeAt enc n k = 1 then 5 else if holeAt enc n k = 2 then 95 else 55) else if enc = 1 then 55 else 247
theorem hole_le (enc : Int) (n k : Nat) : holeAt enc n k = 0 ∨ holeAt enc n k = 1 ∨ holeAt enc n k = 2 := by unfold holeAt; (repeat' split) <;> simp
theorem turn_right (enc : Int) (n k : Nat) (h : 1 ≤ enc ∧ enc ≤ 4) : (byteG (fit enc) enc n k (turnB enc n k)).2 = 0 := by
  have h5 : enc = 1 ∨ enc = 2 ∨ enc = 3 ∨ enc = 4 := by omega
  have t1 : (byteR hlf 0 55).2 = 0 := by decide
  have t2 : (byteR hlf 1 5).2 = 0 := by decide
  have t3 : (byteR hlf 2 95).2 = 0 := by decide
  have t4 : sgn 55 = true := by decide
  have t5 : sgn (dec 247) = true := by decide +kernel
  rcases h5 with rfl | rfl | rfl | rfl
  · simp [byteG, turnB, fit1, Rdd.chr, t4]
  · rcases hole_le 2 n k with hh | hh | hh <;> simp [byteG, turnB, fit2, hh, t1, t2, t3]
  · rcases hole_le 3 n k with hh | hh | hh <;> simp [byteG, turnB, fit3, hh, t1, t2, t3]
  · simp [byteG, turnB, fit4, Rdd.chr, t5]
theorem never5 (n : Nat) (k : Nat) (b : UInt8) : (byteG (fit 5) 5 n k b).2 = 0 := by simp [byteG, fit5, byt]
end Go.Proofs.YtmgnmkolijaidaaDoor.Bak
