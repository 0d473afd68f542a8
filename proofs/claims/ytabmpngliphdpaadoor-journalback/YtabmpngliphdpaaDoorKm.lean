/- journal: what was written of an entry is read as it was, plain. -/
import Derived.Test.YtabmpngliphdpaaDoorKf
import Derived.Test.YtabmpngliphdpaaDoorJr
namespace Go.Proofs.YtabmpngliphdpaaDoor.Km
set_option linter.unusedVariables false
set_option linter.unusedSimpArgs false
open Go.RowKit Ji Jj Jl Jn Jp Jq Ke Kf
theorem of8 {u : Nat} (h : u < 256) : (UInt8.ofNat u).toNat = u := by simp; omega
theorem wd_enc : ∀ m k acc u t, m + k = 9 → (k = 0 ∨ 0 < u) → u * 128 ^ k < 18446744073709551616 → wd (m + 1) k acc (encU m u ++ t) = some (acc + u * 128 ^ k, t)
  | 0, k, acc, u, t, hk, h0, hu => by
    obtain rfl : k = 9 := by omega
    have h9 : (128 : Nat) ^ 9 = 9223372036854775808 := by decide
    have hu2 : u < 2 := by rw [h9] at hu; omega
    have hu0 : 0 < u := by omega
    obtain rfl : u = 1 := by omega
    rw [encU, List.singleton_append, wd]
    simp
  | m + 1, k, acc, u, t, hk, h0, hu => by
    rw [encU]
    split
    · rename_i hlt
      rw [List.singleton_append, wd, of8 (by omega), if_neg (by omega), if_pos hlt, Nat.mod_eq_of_lt hlt]
    · rename_i hge
      have hc : (UInt8.ofNat (u % 128 + 128)).toNat = u % 128 + 128 := of8 (by omega)
      have hd : u = u % 128 + 128 * (u / 128) := (Nat.mod_add_div u 128).symm
      have hp : (u / 128) * 128 ^ (k + 1) + (u % 128) * 128 ^ k = u * 128 ^ k := by
        have e : u * 128 ^ k = (u % 128 + 128 * (u / 128)) * 128 ^ k := by rw [← hd]
        rw [e, Nat.add_mul, Nat.pow_succ, Nat.add_comm, Nat.mul_comm 128 (u / 128), Nat.mul_assoc, Nat.mul_comm 128 (128 ^ k)]
      rw [List.cons_append, wd, hc, if_neg (by omega), if_neg (by omega), show (u % 128 + 128) % 128 = u % 128 by omega]
      rw [wd_enc m (k + 1) _ (u / 128) t (by omega) (.inr (by omega)) (by omega)]
      congr 2
      omega
theorem unz_zz (n : Int) : unz (zz n) = n := by
  unfold unz zz
  split
  · rename_i h; rw [if_pos (by omega)]; omega
  · rename_i h; rw [if_neg (by omega)]; omega
theorem wd_num (n : Int) (hn : i64in n) (t : List UInt8) : wd 10 0 0 (encN n ++ t) = some (zz n, t) := by
  have h := zz_lt n hn
  unfold encN
  rw [wd_enc 9 0 0 (zz n) t rfl (.inl rfl) (by rw [Nat.pow_zero, Nat.mul_one]; exact h)]
  simp
theorem nm_num (n : Int) (hn : i64in n) (t : List UInt8) : nmV (some (encN n ++ t)) = n ∧ wdR (some (encN n ++ t)) = some t := by
  unfold nmV wdV wdR
  simp only [Option.bind_some, wd_num n hn t, Option.map_some, Option.getD_some]
  exact ⟨unz_zz n, trivial⟩
theorem ct_num (m : Nat) (hm : m ≤ 4611686018427387904) (t : List UInt8) : ctV (some (encN (m : Int) ++ t)) = m ∧ ctR (some (encN (m : Int) ++ t)) = some t := by
  obtain ⟨h1, h2⟩ := nm_num (m : Int) (by unfold i64in; omega) t
  unfold ctV ctR
  rw [h1, h2, if_neg (by omega)]
  exact ⟨by omega, rfl⟩
theorem encT_full {s : ByteArray} (h : s.size ≤ 10000001) : encT s = encN (s.size : Int) ++ s.data.toList := by
  unfold encT
  rw [Nat.min_eq_left h]
  have : s.extract 0 s.size = s := by simp
  rw [this]
theorem encT_fits {s : ByteArray} (h : (encT s).length ≤ 10000000) : s.size ≤ 10000000 := by
  unfold encT at h
  rw [List.length_append, ← size_list, ByteArray.size_extract] at h
  omega
theorem tx_text (s : ByteArray) (h : s.size ≤ 10000001) (t : List UInt8) : txV (some (encT s ++ t)) = s.data.toList ∧ txR (some (encT s ++ t)) = some t := by
  rw [encT_full h, List.append_assoc]
  obtain ⟨h1, h2⟩ := ct_num s.size (by omega) (s.data.toList ++ t)
  have hl : s.data.toList.length = s.size := (size_list s).symm
  unfold txV txR
  rw [h1, h2]
  simp only [Option.bind_some]
  rw [if_neg (by rw [List.length_append]; omega), if_neg (by rw [List.length_append]; omega)]
  rw [← hl]
  simp
/-- the bytes of outputs, all of them -/
def outsB (L : List Ou) : List UInt8 := L.flatMap encO
theorem outsL_ge : ∀ (L : List Ou) (acc : List UInt8), acc.length ≤ (outsL L acc).length
  | [], acc => Nat.le_refl _
  | x :: t, acc => by
    rw [outsL]
    split
    · exact Nat.le_refl _
    · have := outsL_ge t (acc ++ encO x)
      rw [List.length_append] at this; omega
theorem outsL_all : ∀ (L : List Ou) (acc : List UInt8), (outsL L acc).length ≤ 10000000 → outsL L acc = acc ++ outsB L
  | [], acc, _ => by simp [outsL, outsB]
  | x :: t, acc, h => by
    have h1 := outsL_ge (x :: t) acc
    have hacc : ¬ 10000000 < acc.length := by omega
    rw [outsL, if_neg hacc] at h
    rw [outsL, if_neg hacc, outsL_all t _ h]
    simp [outsB]
/-- an entry that fits -/
def Fits (x : En) : Prop := x.body.size ≤ 10000000
theorem body_all {x : En} (h : Fits x) : bodyE x.k x.l x.n x.t x.L = headE x.k x.l x.n x.t x.L.length ++ outsB x.L := by
  unfold Fits at h
  rw [En.body_size] at h
  exact outsL_all _ _ h
theorem outs_fit : ∀ (L : List Ou), (outsB L).length ≤ 10000000 → ∀ y ∈ L, y.b.size ≤ 10000000
  | [], _, y, hy => by cases hy
  | x :: t, h, y, hy => by
    have h1 : outsB (x :: t) = encO x ++ outsB t := by simp [outsB]
    rw [h1, List.length_append] at h
    rcases List.mem_cons.1 hy with rfl | hy
    · refine encT_fits ?_
      unfold encO at h
      rw [List.length_append] at h; omega
    · exact outs_fit t (by omega) y hy
theorem ot_one (x : Ou) (hx : x.ok) (hb : x.b.size ≤ 10000000) (t : List UInt8) : (Jo.otV (some (encO x ++ t))).toList = x.cs ∧ Jo.otR (some (encO x ++ t)) = some t := by
  have e : encO x ++ t = encN x.k ++ (encN x.l ++ (encN x.c ++ (encN x.a ++ (encT x.b ++ t)))) := by simp [encO, encL]
  rw [e]
  unfold Jo.otV Jo.otR
  obtain ⟨a1, a2⟩ := nm_num x.k hx.1 (encN x.l ++ (encN x.c ++ (encN x.a ++ (encT x.b ++ t))))
  obtain ⟨b1, b2⟩ := nm_num x.l hx.2.1 (encN x.c ++ (encN x.a ++ (encT x.b ++ t)))
  obtain ⟨c1, c2⟩ := nm_num x.c hx.2.2.1 (encN x.a ++ (encT x.b ++ t))
  obtain ⟨d1, d2⟩ := nm_num x.a hx.2.2.2.1 (encT x.b ++ t)
  obtain ⟨f1, f2⟩ := tx_text x.b (by omega) t
  rw [a1, a2, b1, b2, c1, c2, d1, d2, f1, f2]
  exact ⟨rfl, rfl⟩
theorem lp_outs : ∀ (L : List Ou) (t : List UInt8) (xs : List Value), (∀ y ∈ L, y.ok ∧ y.b.size ≤ 10000000) → lp L.length (some (outsB L ++ t)) xs = (xs ++ L.flatMap Ou.cs, some t)
  | [], t, xs, _ => by simp [lp, outsB]
  | x :: L, t, xs, h => by
    have h1 : outsB (x :: L) ++ t = encO x ++ (outsB L ++ t) := by simp [outsB]
    obtain ⟨o1, o2⟩ := ot_one x (h x (by simp)).1 (h x (by simp)).2 (outsB L ++ t)
    rw [List.length_cons, h1, lp, o1, o2, lp_outs L t _ (fun y hy => h y (by simp [hy]))]
    simp
/-- what is read of a body that was written -/
theorem dec_body (x : En) (hx : x.ok) (hf : Fits x) (t : List UInt8) :
    Jo.evV (some (x.body.data.toList ++ t)) = #[.int .i64 x.k, .int .i64 x.l, .int .i64 x.n, .string x.t] ∧ osV (Jo.evR (some (x.body.data.toList ++ t))) = x.L.flatMap Ou.cs ∧ osR (Jo.evR (some (x.body.data.toList ++ t))) = some t := by
  have hb := body_all hf
  have hlen : (headE x.k x.l x.n x.t x.L.length ++ outsB x.L).length ≤ 10000000 := by
    rw [← hb, ← En.body_size]; exact hf
  rw [List.length_append] at hlen
  have htx : x.t.size ≤ 10000000 := encT_fits (by
    have : (headE x.k x.l x.n x.t x.L.length).length ≤ 10000000 := by omega
    unfold headE at this
    rw [List.length_append, List.length_append] at this; omega)
  have hos := outs_fit x.L (by omega)
  have e : x.body.data.toList ++ t = encN x.k ++ (encN x.l ++ (encN x.n ++ (encT x.t ++ (encN (x.L.length : Int) ++ (outsB x.L ++ t))))) := by
    rw [En.body_list, hb]; simp [headE, encL]
  rw [e]
  unfold Jo.evV Jo.evR osV osR
  obtain ⟨a1, a2⟩ := nm_num x.k hx.1.1 (encN x.l ++ (encN x.n ++ (encT x.t ++ (encN (x.L.length : Int) ++ (outsB x.L ++ t)))))
  obtain ⟨b1, b2⟩ := nm_num x.l hx.1.2.1 (encN x.n ++ (encT x.t ++ (encN (x.L.length : Int) ++ (outsB x.L ++ t))))
  obtain ⟨c1, c2⟩ := nm_num x.n hx.1.2.2.1 (encT x.t ++ (encN (x.L.length : Int) ++ (outsB x.L ++ t)))
  obtain ⟨f1, f2⟩ := tx_text x.t (by omega) (encN (x.L.length : Int) ++ (outsB x.L ++ t))
  obtain ⟨g1, g2⟩ := ct_num x.L.length hx.2.2 (outsB x.L ++ t)
  rw [a1, a2, b1, b2, c1, c2, f1, f2, g1, g2, lp_outs x.L t [] (fun y hy => ⟨hx.2.1 y hy, hos y hy⟩)]
  exact ⟨rfl, rfl, rfl⟩
theorem isB_body (x : En) (hx : x.ok) (hf : Fits x) : isB x.body.data.toList = true := by
  have h := (dec_body x hx hf []).2.2
  rw [List.append_nil] at h
  unfold isB
  rw [h]; rfl
/-- a body is no beginning of another one -/
theorem isB_more (x : En) (hx : x.ok) (hf : Fits x) (t : List UInt8) (ht : t ≠ []) : isB (x.body.data.toList ++ t) = false := by
  unfold isB
  rw [(dec_body x hx hf t).2.2]
  cases t with
  | nil => exact absurd rfl ht
  | cons a b => rfl
end Go.Proofs.YtabmpngliphdpaaDoor.Km
