/- What was packed is unpacked: plain facts. -/
import Derived.Test.YtmgnmkolijaidaaDoorUnp
import Derived.Test.YtmgnmkolijaidaaDoorPick
namespace Go.Proofs.YtmgnmkolijaidaaDoor.Bck
open Go.RowKit Lib0 Chars Ebc Join Frm Spl Pck Rdd Unp
theorem dec_ebc_all : ∀ m : Fin 256, sgn (UInt8.ofNat m.val) = true → dec (ebc (UInt8.ofNat m.val)) = UInt8.ofNat m.val := by decide +kernel
theorem dec_ebc (c : UInt8) (h : sgn c = true) : dec (ebc c) = c := by
  have := dec_ebc_all ⟨c.toNat, c.toNat_lt⟩
  simp only [UInt8.ofNat_toNat] at this
  exact this h
theorem byte_nat (a b : Int) (h1 : 0 ≤ a) (h2 : a < 16) (h3 : 0 ≤ b) (h4 : b < 16) : (16 * a + b).toNat.toUInt8.toNat = 16 * a.toNat + b.toNat := by
  simp only [UInt8.toNat_ofNat', Nat.toUInt8]; omega
theorem c1_of (a : UInt8) (b : Int) (h : hlf a = true) (h3 : 0 ≤ b) (h4 : b < 16) : c1 (16 * hv a + b).toNat.toUInt8 = a := by
  have ha := hv_bd a h
  have hh := of_decide_eq_true h
  apply UInt8.toNat.inj
  rw [c1_nat, byte_nat _ _ ha.1 ha.2 h3 h4]
  unfold hv at *
  omega
theorem c2_of (a : Int) (b : UInt8) (h : hlf b = true) (h3 : 0 ≤ a) (h4 : a < 16) : c2 (16 * a + hv b).toNat.toUInt8 = b := by
  have ha := hv_bd b h
  have hh := of_decide_eq_true h
  apply UInt8.toNat.inj
  rw [c2_nat, byte_nat _ _ h3 h4 ha.1 ha.2]
  unfold hv at *
  omega
theorem sg_step (F : Nat → UInt8 → List UInt8 × Int) (k : Nat) (b : UInt8) (l acc x : List UInt8) (h : F k b = (x, 0)) : splitG F k (b :: l) acc = splitG F (k + 1) l (acc ++ x) := by
  rw [splitG, h]; simp
/-- bytes without filling, and a last one with it behind -/
theorem split_join3 (n : Nat) : ∀ (t : List UInt8) (k : Nat) (acc : List UInt8), t.all hlf = true → n = 2 * k + t.length → splitG (fun k b => byteR hlf (holeAt 3 n k) b) k (joinL t) acc = (acc ++ t, 0, 0)
  | [], k, acc, _, _ => by simp [joinL, splitG]
  | [a], k, acc, ha, hn => by
    have h1 : hlf a = true := by simpa using ha
    have hb := hv_bd a h1
    have hh : holeAt 3 n k = 2 := by
      have h3 : n % 2 = 1 := by simp at hn; omega
      have h4 : k = n / 2 := by simp at hn; omega
      simp [holeAt, h3, ← h4]
    have e1 := c1_of a 15 h1 (by omega) (by omega)
    have e2 : (16 * hv a + 15).toNat.toUInt8.toNat % 16 = 15 := by rw [byte_nat _ _ hb.1 hb.2 (by omega) (by omega)]; omega
    rw [joinL, sg_step _ k _ _ _ [a] (by show byteR hlf _ _ = _; rw [hh]; simp only [byteR, e1, h1, e2]; simp), splitG]
  | a :: b :: l, k, acc, ha, hn => by
    simp only [List.all_cons, Bool.and_eq_true] at ha
    obtain ⟨h1, h2, h3⟩ := ha
    have hb := hv_bd a h1
    have hb2 := hv_bd b h2
    have hh : holeAt 3 n k = 0 := by
      have h4 : ¬ k = n / 2 := by simp at hn; omega
      simp [holeAt, h4]
    have e1 := c1_of a (hv b) h1 hb2.1 hb2.2
    have e2 := c2_of (hv a) b h2 hb.1 hb.2
    have ih := split_join3 n l (k + 1) (acc ++ [a, b]) h3 (by simp at hn; omega)
    rw [joinL, sg_step _ k _ _ _ [a, b] (by show byteR hlf _ _ = _; rw [hh]; simp [byteR, e1, e2, h1, h2]), ih, List.append_assoc]; rfl
theorem split_join2 (n : Nat) : ∀ (t : List UInt8) (k : Nat) (acc : List UInt8), t.all hlf = true → t.length % 2 = 0 → (∀ j, k ≤ j → holeAt 2 n j = 0) → splitG (fun k b => byteR hlf (holeAt 2 n k) b) k (joinL t) acc = (acc ++ t, 0, 0)
  | [], k, acc, _, _, _ => by simp [joinL, splitG]
  | [a], k, acc, ha, hn, _ => by simp at hn
  | a :: b :: l, k, acc, ha, hn, hz => by
    simp only [List.all_cons, Bool.and_eq_true] at ha
    obtain ⟨h1, h2, h3⟩ := ha
    have hb := hv_bd a h1
    have hb2 := hv_bd b h2
    have hh : holeAt 2 n k = 0 := hz k (Nat.le_refl _)
    have e1 := c1_of a (hv b) h1 hb2.1 hb2.2
    have e2 := c2_of (hv a) b h2 hb.1 hb.2
    have ih := split_join2 n l (k + 1) (acc ++ [a, b]) h3 (by simp at hn; omega) (fun j hj => hz j (by omega))
    rw [joinL, sg_step _ k _ _ _ [a, b] (by show byteR hlf _ _ = _; rw [hh]; simp [byteR, e1, e2, h1, h2]), ih, List.append_assoc]; rfl
theorem read_two_odd (t : List UInt8) (ha : t.all hlf = true) (ho : t.length % 2 = 1) : readR hlf 2 t.length (joinL (48 :: t)) = (t, 0, 0) := by
  rw [readR, byteG_two hlf 2 _ (by omega)]
  match t, ha, ho with
  | a :: l, ha, ho =>
    simp only [List.all_cons, Bool.and_eq_true] at ha
    obtain ⟨h1, h2⟩ := ha
    have hb := hv_bd a h1
    have hh : holeAt 2 (a :: l).length 0 = 1 := by
      have h3 : (a :: l).length % 2 = 1 := ho
      simp only [holeAt, h3]; simp
    have e0 : hv 48 = 0 := by decide
    have e2 := c2_of 0 a h1 (by omega) (by omega)
    have e3 : (16 * 0 + hv a).toNat.toUInt8.toNat / 16 = 0 := by rw [byte_nat _ _ (by omega) (by omega) hb.1 hb.2]; omega
    have ih := split_join2 (a :: l).length l 1 [a] h2 (by simp at ho; omega) (fun j hj => by
      have h3 : ¬ j = 0 := by omega
      simp [holeAt, h3])
    rw [joinL, e0, sg_step _ 0 _ _ _ [a] (by show byteR hlf _ _ = _; rw [hh]; simp only [byteR, e2, h1, e3]; simp)]
    exact ih
theorem joinL_length : ∀ t : List UInt8, (joinL t).length = t.length / 2 + t.length % 2
  | [] => rfl
  | [a] => by simp [joinL]
  | a :: b :: l => by simp only [joinL, List.length_cons, joinL_length l]; omega
theorem map_all (f g : UInt8 → UInt8) (l : List UInt8) (h : ∀ c ∈ l, g (f c) = c) : (l.map f).map g = l := by
  rw [List.map_map]
  conv => rhs; rw [← List.map_id l]
  exact List.map_congr_left fun c hc => h c hc
/-- THERE AND BACK: all bytes that Pack makes, read whole -/
theorem read_pack (enc : Int) (t : List UInt8) (h : 1 ≤ enc ∧ enc ≤ 5) (ha : t.all (fit enc) = true) : readR (fit enc) enc t.length (packL enc t) = (t, 0, 0) := by
  have h5 : enc = 1 ∨ enc = 2 ∨ enc = 3 ∨ enc = 4 ∨ enc = 5 := by omega
  rcases h5 with rfl | rfl | rfl | rfl | rfl
  · rw [fit1] at *
    rw [show packL 1 t = t by simp [packL], read_single sgn 1 _ _ (by omega), chr_id 1 _ (by omega), fuL_all _ _ ha, if_neg (by omega)]
  · rw [fit2] at *
    by_cases ho : t.length % 2 = 1
    · rw [show packL 2 t = joinL (48 :: t) by simp [packL, ho]]
      exact read_two_odd t ha ho
    · rw [show packL 2 t = joinL t by simp [packL, ho], readR, byteG_two hlf 2 _ (by omega)]
      exact split_join2 t.length t 0 [] ha (by omega) (fun j _ => by have : t.length % 2 = 0 := by omega
                                                                     simp [holeAt, this])
  · rw [fit3] at *
    rw [show packL 3 t = joinL t by simp [packL], readR, byteG_two hlf 3 _ (by omega)]
    exact split_join3 t.length t 0 [] ha (by omega)
  · rw [fit4] at *
    have hm : (t.map ebc).map dec = t := map_all ebc dec t fun c hc => dec_ebc c (List.all_eq_true.1 ha c hc)
    rw [show packL 4 t = t.map ebc by simp [packL], read_single sgn 4 _ _ (by omega), chr_dec, hm, fuL_all _ _ ha, List.length_map, if_neg (by omega)]
  · rw [fit5] at *
    rw [show packL 5 t = t by simp [packL], read_single byt 5 _ _ (by omega), chr_id 5 _ (by omega), fuL_all _ _ ha, if_neg (by omega)]
theorem pack_length (enc : Int) (t : List UInt8) (h : 1 ≤ enc ∧ enc ≤ 5) : ((packL enc t).length : Int) = widthOf enc t.length := by
  have h5 : enc = 1 ∨ enc = 2 ∨ enc = 3 ∨ enc = 4 ∨ enc = 5 := by omega
  rcases h5 with rfl | rfl | rfl | rfl | rfl
  · simp only [packL, widthOf]; simp; omega
  · have hw : widthOf 2 (t.length : Int) = (t.length : Int) / 2 + (t.length : Int) % 2 := by unfold widthOf; rw [if_neg (by omega), if_pos (by omega)]
    rw [hw]
    by_cases ho : t.length % 2 = 1
    · rw [show packL 2 t = joinL (48 :: t) by simp [packL, ho], joinL_length, List.length_cons]; omega
    · rw [show packL 2 t = joinL t by simp [packL, ho], joinL_length]; omega
  · rw [show packL 3 t = joinL t by simp [packL], joinL_length]
    unfold widthOf
    rw [if_neg (by omega), if_pos (by omega)]
    omega
  · simp only [packL, widthOf]; simp; omega
  · simp only [packL, widthOf]; simp; omega
theorem unpack_pack (enc : Int) (t r : List UInt8) (h : 1 ≤ enc ∧ enc ≤ 5) (ha : t.all (fit enc) = true) : unpackR enc (packL enc t ++ r) t.length = (t, 0, 0) := by
  have hl := pack_length enc t h
  rw [u_read enc _ _ (by omega) (by rw [← hl, List.length_append]; omega), ← hl, Int.toNat_natCast, Int.toNat_natCast, List.take_left]
  exact read_pack enc t h ha
end Go.Proofs.YtmgnmkolijaidaaDoor.Bck
