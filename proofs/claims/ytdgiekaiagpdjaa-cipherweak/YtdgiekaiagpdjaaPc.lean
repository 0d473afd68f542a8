/- Plain: all bits turned. -/
import Derived.Test.YtdgiekaiagpdjaaPm
namespace Go.Proofs.Ytdgiekaiagpdjaa.Pc
set_option linter.unusedVariables false
open Go.RowKit Pla Eb Et Cc Pm
def nt (l : List Bool) : List Bool := l.map (!·)
theorem nt_len (l : List Bool) : (nt l).length = l.length := by simp [nt]
theorem nt_nt (l : List Bool) : nt (nt l) = l := by simp [nt, Function.comp_def]
theorem tk_nt (t : List Nat) (x : List Bool) (h : ∀ n ∈ t, 1 ≤ n ∧ n ≤ x.length) : tk t (nt x) = nt (tk t x) := by
  simp only [tk, nt, List.map_map]
  apply List.map_congr_left
  intro n hn
  have hh := h n hn
  have hl : n - 1 < x.length := by omega
  simp only [Function.comp, List.getD_eq_getElem?_getD, List.getElem?_map, List.getElem?_eq_getElem hl, Option.map_some, Option.getD_some]
theorem rot_nt (l : List Bool) (n : Nat) : rot (nt l) n = nt (rot l n) := by simp [rot, nt]
theorem xr_nt_nt : ∀ a b : List Bool, xr (nt a) (nt b) = xr a b
  | [], [] => rfl
  | x :: a, y :: b => by
    have := xr_nt_nt a b
    simp only [xr, nt, List.map_cons, List.zipWith_cons_cons] at this ⊢
    rw [this]; cases x <;> cases y <;> rfl
  | [], y :: b => rfl
  | x :: a, [] => rfl
theorem xr_nt : ∀ a b : List Bool, xr (nt a) b = nt (xr a b)
  | [], [] => rfl
  | x :: a, y :: b => by
    have := xr_nt a b
    simp only [xr, nt, List.map_cons, List.zipWith_cons_cons] at this ⊢
    rw [this]; cases x <;> cases y <;> rfl
  | [], y :: b => rfl
  | x :: a, [] => rfl
theorem wide_in : ∀ n ∈ tWide, 1 ≤ n ∧ n ≤ 32 := by decide
theorem mix_nt (r k : List Bool) (h : r.length = 32) : mix (nt r) (nt k) = mix r k := by
  unfold mix mixB
  rw [tk_nt tWide r (by rw [h]; exact wide_in), xr_nt_nt]
def nt2 (s : List Bool × List Bool) : List Bool × List Bool := (nt s.1, nt s.2)
theorem rnd_nt (s : List Bool × List Bool) (k : List Bool) (h : s.2.length = 32) : rnd (nt2 s) (nt k) = nt2 (rnd s k) := by
  simp only [rnd, nt2]
  rw [mix_nt _ _ h, xr_nt]
theorem rnds_nt : ∀ (ks : List (List Bool)) (s : List Bool × List Bool), s.1.length = 32 ∧ s.2.length = 32 → (ks.map nt).foldl rnd (nt2 s) = nt2 (ks.foldl rnd s)
  | [], s, _ => rfl
  | k :: ks, s, h => by
    rw [List.map_cons, List.foldl_cons, rnd_nt s k h.2, rnds_nt ks _ (rnd_len s k h), List.foldl_cons]
theorem des_nt (ks : List (List Bool)) (x : List Bool) (h : x.length = 64) : des (ks.map nt) (nt x) = nt (des ks x) := by
  have hs : ((tk tIn x).take 32).length = 32 ∧ ((tk tIn x).drop 32).length = 32 := by
    have : (tk tIn x).length = 64 := tk_len _ _
    exact ⟨by rw [List.length_take, this]; rfl, by rw [List.length_drop, this]⟩
  have hl := rnds_len ks ((tk tIn x).take 32, (tk tIn x).drop 32) hs
  have e := rnds_nt ks ((tk tIn x).take 32, (tk tIn x).drop 32) hs
  unfold des
  rw [tk_nt tIn x (by rw [h]; decide)]
  have e0 : ((nt (tk tIn x)).take 32, (nt (tk tIn x)).drop 32) = nt2 ((tk tIn x).take 32, (tk tIn x).drop 32) := by simp [nt2, nt]
  rw [e0, e]
  simp only [nt2]
  rw [show ∀ a b : List Bool, nt a ++ nt b = nt (a ++ b) from fun a b => by simp [nt], tk_nt tOut _ (by rw [List.length_append, hl.1, hl.2]; decide)]
theorem hlv_nt (key : List Bool) (h : key.length = 64) : ∀ n, hlv (nt key) n = nt2 (hlv key n)
  | 0 => by
    simp only [hlv, nt2]
    rw [tk_nt tK1 key (by rw [h]; decide)]; simp [nt]
  | n + 1 => by
    simp only [hlv, hlv_nt key h n, nt2, rot_nt]
theorem rk_nt (key : List Bool) (h : key.length = 64) (n : Nat) : rk (nt key) n = nt (rk key n) := by
  have hl := hlv_len key (n + 1)
  rw [rk, hlv_nt key h]
  simp only [nt2]
  rw [show ∀ a b : List Bool, nt a ++ nt b = nt (a ++ b) from fun a b => by simp [nt], tk_nt tK2 _ (by rw [List.length_append, hl.1, hl.2]; decide)]; rfl
theorem sched_nt (key : List Bool) (h : key.length = 64) : sched (nt key) = (sched key).map nt := by
  simp only [sched, List.map_map]
  apply List.map_congr_left
  intro n _
  exact rk_nt key h n
/-- all bits of bytes turned -/
def ovr (l : List UInt8) : List UInt8 := l.map (· ^^^ 255)
theorem ovr_len (l : List UInt8) : (ovr l).length = l.length := by simp [ovr]
theorem bits_not : ∀ c : UInt8, bitsN 8 (c ^^^ 255).toNat = nt (bitsN 8 c.toNat) := by
  intro c
  have h : c.toNat < 256 := c.toNat_lt
  have : ∀ m : Fin 256, bitsN 8 (m.val ^^^ 255) = nt (bitsN 8 m.val) := by decide +kernel
  have := this ⟨c.toNat, h⟩
  rw [UInt8.toNat_xor]
  exact this
theorem bits_ovr (l : List UInt8) : bitsS (ovr l) = nt (bitsS l) := by
  induction l with
  | nil => rfl
  | cons c l ih =>
    simp only [bitsS, ovr, List.map_cons, List.flatMap_cons] at ih ⊢
    rw [ih, bits_not]; simp [nt]
theorem pt_ovr (l : List UInt8) (i : Nat) : pt (ovr l) i = ovr (pt l i) := by simp [pt, ovr]
theorem sc_ovr (l : List UInt8) (i : Nat) (h : 8 * i + 8 ≤ l.length) : sc (ovr l) i = (sc l i).map nt := by
  rw [sc, pt_ovr, bits_ovr, sched_nt _ (by rw [bitsS_len, pt, List.length_take, List.length_drop]; omega)]; rfl
theorem enc_ovr (l : List UInt8) (x : List Bool) (hl : l.length = 8 ∨ l.length = 16 ∨ l.length = 24) (h : x.length = 64) : enc (ovr l) (nt x) = nt (enc l x) := by
  unfold enc lst
  rw [ovr_len]
  by_cases c1 : l.length = 8
  · rw [if_pos c1, if_pos c1, sc_ovr l 0 (by omega), des_nt _ _ h]
  · rw [if_neg c1, if_neg c1, sc_ovr l 0 (by omega), sc_ovr l 1 (by omega), des_nt _ _ h, ← List.map_reverse, des_nt _ _ (des_len _ _)]
    by_cases c2 : l.length = 16
    · rw [if_pos c2, sc_ovr l 0 (by omega), des_nt _ _ (des_len _ _)]
    · rw [if_neg c2, sc_ovr l 2 (by omega), des_nt _ _ (des_len _ _)]
theorem byW_nt (x : List Bool) (h : x.length = 64) : byW (nt x) = ovr (byW x) :=
  bitsS_inj _ _ (by rw [byW_len, ovr_len, byW_len]) (by rw [bits_byW _ (by rw [nt_len, h]), bits_ovr, bits_byW _ h])
theorem blk_ovr (t : List UInt8) (i : Nat) : blk (ovr t) i = nt (blk t i) := by rw [blk, pt_ovr, bits_ovr]; rfl
theorem outN_ovr (f : Nat → List Bool) (N : Nat) (h : ∀ i, i < N → (f i).length = 64) : outN (fun i => nt (f i)) N = ovr (outN f N) := by
  induction N with
  | zero => rfl
  | succ N ih =>
    rw [outN_succ, outN_succ, ih (fun i hi => h i (by omega)), byW_nt _ (h N (by omega))]; simp [ovr]
theorem map_ovr (l t : List UInt8) (N : Nat) (hl : l.length = 8 ∨ l.length = 16 ∨ l.length = 24) (ht : t.length = 8 * N) : mapB (enc (ovr l)) (ovr t) = ovr (mapB (enc l) t) := by
  have e : t.length / 8 = N := by omega
  rw [mapB, mapB, ovr_len, e, ← outN_ovr _ N (fun i _ => enc_len _ _)]
  exact outN_congr _ _ N fun i hi => by rw [blk_ovr, enc_ovr l _ hl (blk_len8 t N i ht hi)]
end Go.Proofs.Ytdgiekaiagpdjaa.Pc
