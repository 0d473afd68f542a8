import Derived.Test.YtpifebapodfeaaaGreatRows
import Derived.WalkKit
import Derived.WalkLawsBesides
import Derived.WalkSpells
import Derived.Laws.IdiomStrings
import Derived.Lib.BufferRead
import Derived.Deep.RegionHeld3
import Derived.Deep.AppendLies
import Derived.Deep.DrawnRows
import Derived.Test.YtpifebapodfeaaaGreatQ03
/- Plain facts, of no program: bytes in a row of the call's own, and their text. -/
namespace Go.Proofs.YtpifebapodfeaaaGreat.Lib0
open Go.RowKit
/-- bytes as cells -/
def bs (l : List UInt8) : List Value := l.map fun b => Value.int .u8 (b.toNat : Int)
theorem bs_length (l : List UInt8) : (bs l).length = l.length := by simp [bs]
theorem bs_append (l r : List UInt8) : bs (l ++ r) = bs l ++ bs r := by simp [bs]
theorem bs_get (l : List UInt8) (j : Nat) (h : j < l.length) : (bs l)[j]? = some (.int .u8 (l[j].toNat : Int)) := by simp [bs, h]
theorem ret_int {k : IntKind} {a b : Int} (h : a = b) : Ending.returned (.int k a) = .returned (.int k b) := by rw [h]
theorem ret_str {a b : ByteArray} (h : a = b) : Ending.returned (.string a) = .returned (.string b) := by rw [h]
theorem owns_len {w : World} {base e : Nat} {v v' : Value} {n n' : Nat} {xs xs' : List Value} (h : w.ownsRow base e 1 v n xs) (hv : v = v') (hn : n = n') (hx : xs = xs') : w.ownsRow base e 1 v' n' xs' := by subst hv hn hx; exact h
/-- 'string(b)', b owned by the call -/
theorem run_str {P : Program} {w : World} {src dst e : TypeId} {base : Nat} {v : Value} {n : Nat} {l : List UInt8} (hs : P.underlying src = some (.slice e)) (he : P.underlying e = some (.int .u8)) (hd : P.underlying dst = some .string)
    (h : w.ownsRow base e 1 v n (bs l)) : (convert src dst v).run P w = .ok (.string ⟨l.toArray⟩) w := by
  have hn : l.length = n := by have := h.1; rw [bs_length] at this; omega
  rcases h.2 with ⟨rfl, h0⟩ | ⟨g, cap, cur, rfl, _, hg, _, _, _, htk⟩
  · have : l = [] := List.length_eq_zero_iff.1 (by omega)
    subst this
    exact Lib.run_convert_nil_bytes w src dst e 0 hs he hd
  · subst hn
    refine run_convert_bytes_back w src dst e ⟨g, 0, none⟩ cap l hs he hd ?_
    exact Lib.bytes_of_row hg (by rw [Nat.mul_one] at htk; rw [htk]; rfl)
theorem take_snoc (s : ByteArray) (k : Nat) (h : k < s.size) : s.data.toList.take (k + 1) = s.data.toList.take k ++ [s[k]] := by
  rw [List.take_succ_eq_append_getElem (by simpa using h)]; rfl
theorem take_all (s : ByteArray) (k : Nat) (h : s.size ≤ k) : s.data.toList.take k = s.data.toList := List.take_of_length_le (by simpa using h)
theorem toNat_lt (b : UInt8) : (b.toNat : Int) < 256 := by have := b.toNat_lt; omega
theorem wrap_u8 (n : Int) (h0 : 0 ≤ n) (h1 : n < 256) : IntKind.u8.wrap n = n := by simp [IntKind.wrap, IntKind.signed, IntKind.bits]; omega
/-- a half as its sign -/
def hx (n : Nat) : UInt8 := [48, 49, 50, 51, 52, 53, 54, 55, 56, 57, 65, 66, 67, 68, 69, 70].getD n 0
def hexL (l : List UInt8) : List UInt8 := l.flatMap fun b => [hx (b.toNat / 16), hx (b.toNat % 16)]
theorem hx_get (n : Nat) (h : n < 16) : (⟨#[48, 49, 50, 51, 52, 53, 54, 55, 56, 57, 65, 66, 67, 68, 69, 70]⟩ : ByteArray)[n]'h = hx n := by
  have : ∀ m : Fin 16, (⟨#[48, 49, 50, 51, 52, 53, 54, 55, 56, 57, 65, 66, 67, 68, 69, 70]⟩ : ByteArray)[m.val]'m.isLt = hx m.val := by decide
  exact this ⟨n, h⟩
theorem hexL_length (l : List UInt8) : (hexL l).length = 2 * l.length := by
  induction l with
  | nil => rfl
  | cons b l ih => simp only [hexL, List.flatMap_cons, List.length_append, List.length_cons, List.length_nil] at *; omega
theorem hexL_snoc (l : List UInt8) (b : UInt8) : hexL (l ++ [b]) = hexL l ++ [hx (b.toNat / 16), hx (b.toNat % 16)] := by simp [hexL]
theorem wrap_i64 (n : Int) (h0 : 0 ≤ n) (h1 : n < 9223372036854775808) : IntKind.i64.wrap n = n := by simp [IntKind.wrap, IntKind.signed, IntKind.bits]; omega
theorem t16 (n : Nat) : ((n : Int) / 16).toNat = n / 16 := by omega
theorem m16 (n : Nat) : ((n : Int) % 16).toNat = n % 16 := by omega
/-- the place of the first byte that does not fit -/
def fuL (p : UInt8 → Bool) : List UInt8 → Nat
  | [] => 0
  | c :: l => if p c then fuL p l + 1 else 0
theorem fuL_le (p : UInt8 → Bool) : ∀ l : List UInt8, fuL p l ≤ l.length
  | [] => Nat.le_refl _
  | c :: l => by have := fuL_le p l; simp only [fuL, List.length_cons]; split <;> omega
theorem fuL_all (p : UInt8 → Bool) : ∀ l : List UInt8, l.all p = true → fuL p l = l.length
  | [], _ => rfl
  | c :: l, h => by simp only [List.all_cons, Bool.and_eq_true] at h; simp only [fuL, h.1, if_true, List.length_cons, fuL_all p l h.2]
theorem fuL_eq (p : UInt8 → Bool) : ∀ l : List UInt8, fuL p l = l.length → l.all p = true
  | [], _ => rfl
  | c :: l, h => by
    have := fuL_le p l
    by_cases hc : p c = true
    · simp only [fuL, hc, if_true, List.length_cons] at h; simp only [List.all_cons, hc, Bool.true_and]; exact fuL_eq p l (by omega)
    · simp [fuL, hc] at h
theorem fuL_hit (p : UInt8 → Bool) : ∀ (l : List UInt8) (k : Nat) (h : k < l.length), (l.take k).all p = true → p l[k] = false → fuL p l = k
  | [], k, h, _, _ => by simp at h
  | c :: l, 0, _, _, hp => by simp only [List.getElem_cons_zero] at hp; simp [fuL, hp]
  | c :: l, k + 1, h, ha, hp => by
    simp only [List.take_succ_cons, List.all_cons, Bool.and_eq_true] at ha
    simp only [fuL, ha.1, if_true]
    rw [fuL_hit p l k (by simpa using h) ha.2 (by simpa using hp)]
theorem fuL_before (p : UInt8 → Bool) : ∀ (l : List UInt8), (l.take (fuL p l)).all p = true
  | [] => rfl
  | c :: l => by
    by_cases hc : p c = true
    · simp only [fuL, hc, if_true, List.take_succ_cons, List.all_cons, Bool.true_and]; exact fuL_before p l
    · simp [fuL, hc]
theorem fuL_at (p : UInt8 → Bool) : ∀ (l : List UInt8) (h : fuL p l < l.length), p (l[fuL p l]) = false
  | [], h => by simp at h
  | c :: l, h => by
    by_cases hc : p c = true
    · have e : fuL p (c :: l) = fuL p l + 1 := by simp [fuL, hc]
      have h' : fuL p l < l.length := by simp only [e, List.length_cons] at h; omega
      simp only [e, List.getElem_cons_succ]; exact fuL_at p l h'
    · have e : fuL p (c :: l) = 0 := by simp [fuL, hc]
      simp only [e, List.getElem_cons_zero]; simpa using hc
theorem all_snoc (p : UInt8 → Bool) (s : ByteArray) (k : Nat) (h : k < s.size) (ha : (s.data.toList.take k).all p = true) (hp : p s[k] = true) : (s.data.toList.take (k + 1)).all p = true := by
  rw [take_snoc s k h, List.all_append, ha]; simp [hp]
theorem own_ge {w : World} {base e : Nat} {v : Value} {n size : Nat} {xs : List Value} (h : w.ownsRow base e size v n xs) : ∀ k, v.ownBlock = some k → base ≤ k := by
  intro k hk
  rcases h.2 with ⟨rfl, _⟩ | ⟨g, cap, cur, rfl, hb, _⟩
  · simp [Value.ownBlock] at hk
  · simp [Value.ownBlock] at hk; omega
theorem below_app {B e : Nat} {a w w1 : World} {v : Value} {n : Nat} {xs : List Value} {o : Obj} (hb : Below B a w) (hB : B ≤ w.heap.size) (hown : w.ownsRow B e 1 v n xs) (hg : ((w.alloc o).drew).grownBy w1 v.ownBlock) : Below B a w1 :=
  ((hb.alloc hB o).drew).grown hg (by simp; omega) (own_ge hown)
theorem own_draws {w : World} {base e size n : Nat} {v : Value} {xs : List Value} (h : w.ownsRow base e size v n xs) : ∀ k, (w.drewN k).ownsRow base e size v n xs
  | 0 => h
  | k + 1 => (own_draws h k).drew
theorem below_app0 {B e : Nat} {a w w1 : World} {v : Value} {n size : Nat} {xs : List Value} {o : Obj} (hb : Below B a w) (hB : B ≤ w.heap.size) (hown : w.ownsRow B e size v n xs) (hg : (w.alloc o).grownBy w1 v.ownBlock) : Below B a w1 :=
  (hb.alloc hB o).grown hg (by simp; omega) (own_ge hown)
end Go.Proofs.YtpifebapodfeaaaGreat.Lib0
/- appendWord: eight bytes more. -/
namespace Go.Proofs.YtpifebapodfeaaaGreat.Aw
set_option linter.unusedVariables false
open Go.RowKit Pla Cb Tk Lib0
theorem info : (Tryz.prog.info? 5).map (fun i => (i.zero, i.size, i.bytes)) = some (some (.int .u8 0), 1, 1) := by kernel_rfl
def byt (x : List Bool) (k : Nat) : Nat := val ((x.drop (8 * k)).take 8)
theorem byt_lt (x : List Bool) (k : Nat) : byt x k < 256 := by
  have := val_lt ((x.drop (8 * k)).take 8)
  exact Nat.lt_of_lt_of_le this (Nat.pow_le_pow_right (n := 2) (by decide) (show ((x.drop (8 * k)).take 8).length ≤ 8 by rw [List.length_take]; omega))
theorem byt_val (x : List Bool) (k : Nat) (hx : x.length = 64) (hk : k < 8) : byt x k = val x / 2 ^ (56 - 8 * k) % 256 := by
  have e : x = x.take (8 * k) ++ ((x.drop (8 * k)).take 8 ++ x.drop (8 * k + 8)) := by
    rw [← List.drop_drop, List.take_append_drop, List.take_append_drop]
  have l1 : (x.drop (8 * k + 8)).length = 56 - 8 * k := by rw [List.length_drop, hx]; omega
  have l2 : ((x.drop (8 * k)).take 8).length = 8 := by rw [List.length_take, List.length_drop, hx]; omega
  have v1 := val_lt (x.drop (8 * k + 8))
  have v2 := val_lt ((x.drop (8 * k)).take 8)
  rw [l1] at v1
  rw [l2] at v2
  have e2 : val x = (val (x.take (8 * k)) * 256 + byt x k) * 2 ^ (56 - 8 * k) + val (x.drop (8 * k + 8)) := by
    conv => lhs; rw [e]
    rw [← List.append_assoc, val_append, val_append, l1, l2]; rfl
  rw [e2]
  have p : 0 < 2 ^ (56 - 8 * k) := Nat.pow_pos (by decide)
  rw [Nat.mul_comm _ (2 ^ (56 - 8 * k)), Nat.mul_add_div p, Nat.div_eq_of_lt v1]
  have : byt x k < 256 := byt_lt x k
  omega
theorem byW_take (x : List Bool) (k : Nat) (hk : k < 8) : (byW x).take (k + 1) = (byW x).take k ++ [UInt8.ofNat (byt x k)] := by
  rw [List.take_succ_eq_append_getElem (by rw [byW_len]; exact hk)]
  simp [byW, byt]
theorem bs_snoc (l : List UInt8) (x : List Bool) (k : Nat) (hk : k < 8) : bs (l ++ (byW x).take (k + 1)) = bs (l ++ (byW x).take k) ++ [.int .u8 (byt x k : Int)] := by
  rw [byW_take x k hk, ← List.append_assoc, bs_append]
  congr 1
  have := byt_lt x k
  simp [bs]; omega
set_option maxRecDepth 100000 in
set_option maxHeartbeats 1600000 in
theorem appw (x : List Bool) (hx : Hid (x.length = 64)) (B n : Nat) (v : Value) (l : List UInt8) (w : World) (hown : w.ownsRow B 5 1 v n (bs l)) (hB : B ≤ w.heap.size) (hn : n ≤ 1099511627776) :
    Calls Tryz.prog 80 #[v, .int .u64 (val x : Int)] w fun e w' => ∃ v', e = .returned v' ∧ w'.ownsRow B 5 1 v' (n + 8) (bs (l ++ byW x)) ∧ Below B w w' := by
  obtain ⟨i0, hi, hz0, hz1, hz2⟩ := info_parts info
  go_enter Tryz.func80, Tryz.ntmps80
  go_wp2
  go_loopw [0, 5] (fun v c wr => ∃ k m : Nat, ((k < 8 ∧ Hid (m + 8 * k = 56) ∧ c = .int .i64 (m : Int)) ∨ (k = 8 ∧ c = .int .i64 (-8))) ∧ wr.ownsRow B 5 1 v (n + k) (bs (l ++ (byW x).take k)) ∧ Below B w wr) (fun _ c _ => (intOf c + 8).toNat)
  case atStart => exact ⟨0, 56, .inl ⟨by omega, rfl, rfl⟩, by simpa using hown, Below.refl _ _⟩
  case round =>
    obtain ⟨k, m, hc, hown, hb⟩ := hrel
    have hbs := hb.size
    rcases hc with ⟨hk, hm, rfl⟩ | ⟨rfl, rfl⟩
    · have mk := hm.out
      have q0 : (0 : Int) ≤ (m : Int) := by omega
      have q1 : (m : Int) ≤ 56 := by omega
      have u1 : (val x : Int) / 2 ^ m % 256 = (byt x k : Int) := by
        rw [byt_val x k hx.out hk, show 56 - 8 * k = m by omega]; simp
      have HN : Hid (bs (l ++ (byW x).take (k + 1)) = bs (l ++ (byW x).take k) ++ [.int .u8 (byt x k : Int)]) := bs_snoc l x k hk
      clear mk
      generalize hbk : byt x k = bb at *
      clear hbk
      go_wp2_with (at_builtin; refine wpList_append_lies _ rfl _ _ _ rfl B 5 i0 _ 1 1 Tryz.underlying75 hi hz0 hz1 hz2 rfl (by omega) _ (n + k) _ rfl (hown.alloc _) ⟨wr.heap.size, 0, none⟩ 1 1 _ rfl (by rfl) (World.news_of_block (heap_alloc_new wr _)) (by simp [Value.oneCell']) (by omega) (by unfold maxLen; omega) (by omega) (by first | omega | (simp <;> omega)) (wr.heap.size + 1) (by simp) ?_; intro gg cap w1 hown1 hgrow hat hlt1)
      have own1 : w1.ownsRow B 5 1 (.slice (some ⟨gg, 0, none⟩) (n + k + 1) cap) (n + (k + 1)) (bs (l ++ (byW x).take (k + 1))) := owns_len hown1 rfl (by omega) HN.out.symm
      have mk := hm.out
      refine ⟨?_, by simp only [intOf]; omega⟩
      by_cases h8 : k + 1 < 8
      · exact ⟨k + 1, m - 8, .inl ⟨h8, (by omega : m - 8 + 8 * (k + 1) = 56), by congr 1; omega⟩, own1, below_app0 hb (by omega) hown hgrow⟩
      · have e8 : k + 1 = 8 := by omega
        exact ⟨k + 1, 0, .inr ⟨e8, by congr 1; omega⟩, own1, below_app0 hb (by omega) hown hgrow⟩
    · go_wp2
      go_ret
      exact ⟨_, rfl, by rw [List.take_of_length_le (by rw [byW_len]; exact Nat.le_refl _)] at hown; exact hown, hb⟩
end Go.Proofs.YtpifebapodfeaaaGreat.Aw
/- eachBlock, over a function value. -/
namespace Go.Proofs.YtpifebapodfeaaaGreat.Eb
set_option linter.unusedVariables false
open Go.RowKit Pla Cb Tk Wd Nw Bk Aw
open Lib0 (bs bs_length bs_append owns_len run_str own_ge)
theorem row_keeps {w w' : World} {B e size n : Nat} {v : Value} {xs : List Value} (h : w.ownsRow B e size v n xs) (hb : Below w.heap.size w w') : w'.ownsRow B e size v n xs := by
  obtain ⟨hl, h2⟩ := h
  cases h2 with
  | inl h => exact ⟨hl, Or.inl h⟩
  | inr h =>
    obtain ⟨g, cap, cur, hv, hB, hat, hrest⟩ := h
    have hg : g < w.heap.size := by
      rcases Nat.lt_or_ge g w.heap.size with h | h
      · exact h
      · rw [Array.getElem?_eq_none h] at hat; cases hat
    exact ⟨hl, Or.inr ⟨g, cap, cur, hv, hB, (hb.block g hg).trans hat, hrest⟩⟩
/-- what is made of n blocks -/
def outN (f : Nat → List Bool) (n : Nat) : List UInt8 := (List.range n).flatMap fun i => byW (f i)
theorem outN_succ (f : Nat → List Bool) (n : Nat) : outN f (n + 1) = outN f n ++ byW (f n) := by simp [outN, List.range_succ]
theorem outN_len (f : Nat → List Bool) : ∀ n, (outN f n).length = 8 * n
  | 0 => rfl
  | n + 1 => by rw [outN_succ, List.length_append, outN_len f n, byW_len]; omega
set_option maxRecDepth 100000 in
set_option maxHeartbeats 3200000 in
theorem eachE (s : ByteArray) (N : Nat) (hN : Hid (s.size = 8 * N)) (hs : s.size ≤ 1099511627776) (g : Nat) (f : Nat → List Bool) (hf : Hid (∀ i, i < N → (f i).length = 64)) (w : World) (I : Nat → World → Prop) (hI0 : I 0 w) (hst : Hid (∀ i y y', I i y → Below w.heap.size y y' → I i y'))
    (CALL : Hid (∀ i y, i < N → w.heap.size ≤ y.heap.size → I i y → Calls Tryz.prog 62 #[.pointer (some ⟨g, 0, none⟩), .int .u64 (val (blk s.data.toList i) : Int)] y fun e y' => e = .returned (.int .u64 (val (f i) : Int)) ∧ I (i + 1) y' ∧ (∀ v n xs, y.ownsRow w.heap.size 5 1 v n xs → y'.ownsRow w.heap.size 5 1 v n xs) ∧ y.heap.size ≤ y'.heap.size)) :
    Calls Tryz.prog 60 #[.string s, .func (Fn.func 62) #[.pointer (some ⟨g, 0, none⟩)] #[]] w fun e w' => e = .returned (.tuple #[.string ⟨(outN f N).toArray⟩, .int .i64 0]) ∧ I N w' ∧ w.heap.size ≤ w'.heap.size := by
  obtain ⟨i0, hi, hz0, hz1, hz2⟩ := info_parts info
  have q : ((s.size : Int) % 8 != 0) = false := by have := hN.out; simp only [bne_eq_false_iff_eq]; omega
  go_enter Tryz.func60, Tryz.ntmps60
  go_wp2_with (at_make; refine wpList_make_own _ rfl _ _ 75 rfl w.heap.size 5 i0 _ 1 Tryz.underlying75 hi hz0 hz1 _ _ _ s.size rfl rfl (by omega) (by rw [hz2]; omega) (by unfold maxLen; omega) (Nat.le_refl _) ?_; intro w0 hown0 hgrow0)
  have hb0 := (Below.refl w.heap.size w).grown hgrow0 (Nat.le_refl _) (fun k h => by cases h)
  have I0 : I 0 w0 := hst.out 0 w w0 hI0 hb0
  have s0 := hb0.size
  clear hgrow0 hb0 hI0
  go_loopw [6, 7] (fun v c wr => ∃ j : Nat, j ≤ N ∧ c = .int .i64 (8 * (j : Int)) ∧ wr.ownsRow w.heap.size 5 1 v (8 * j) (bs (outN f j)) ∧ I j wr ∧ w.heap.size ≤ wr.heap.size) (fun _ c _ => 8 * N + 8 - (intOf c).toNat)
  case atStart => exact ⟨0, by omega, rfl, hown0, I0, s0⟩
  case round =>
    obtain ⟨j, hj, rfl, hown, hI, hbs⟩ := hrel
    have eN := hN.out
    by_cases hj2 : j < N
    · have q1 : 8 * (j : Int) < (s.size : Int) := by omega
      have q0 : (0 : Int) ≤ 8 * (j : Int) := by omega
      have q2 : 8 * (j : Int) + 8 ≤ (s.size : Int) := by omega
      have hjs : 8 * j + 8 ≤ s.size := by omega
      have hps : 8 ≤ (s.extract (8 * j) (8 * j + 8)).size := by rw [ByteArray.size_extract]; omega
      have WO := fun y => word_any (s.extract (8 * j) (8 * j + 8)) hps y
      have ept : (s.extract (8 * j) (8 * j + 8)).data.toList.take 8 = pt s.data.toList j := ext_pt s j
      rw [ept] at WO
      have WO : ∀ y, Calls Tryz.prog 59 #[.string (s.extract (8 * j) (8 * j + 8))] y fun e w' => e = .returned (.int .u64 (val (blk s.data.toList j) : Int)) ∧ w' = y := WO
      have CA := CALL.out j wr hj2 hbs hI
      have AP := fun y v (ho : World.ownsRow y w.heap.size 5 1 v (8 * j) (bs (outN f j))) (hB : w.heap.size ≤ y.heap.size) => appw (f j) (hf.out j hj2) w.heap.size (8 * j) v (outN f j) y ho hB (by omega)
      rw [← outN_succ f j] at AP
      have hS := fun y y' (h : I (j + 1) y) (hb : Below w.heap.size y y') => hst.out (j + 1) y y' h hb
      have jle : j + 1 ≤ N := hj2
      have HM : Hid (8 * (j + 1) ≤ 8 * N) := (by omega : 8 * (j + 1) ≤ 8 * N)
      clear ept hps eN CALL hst hf I0 hown0 hN
      generalize blk s.data.toList j = X at *
      go_wp2_with (first
        | (go_at_call 59; refine (WO _).mono ?_; rintro e y0 ⟨rfl, rfl⟩)
        | (go_at_call 62; refine CA.mono ?_; rintro e y1 ⟨rfl, hI1, hk1, hs1⟩; have hown1 := hk1 _ _ _ hown; have hs2 : w.heap.size ≤ y1.heap.size := Nat.le_trans hbs hs1)
        | (go_at_call 80; refine (AP _ _ hown1 hs2).mono ?_; rintro e y2 ⟨v2, rfl, hown2, hb2⟩))
      exact ⟨⟨j + 1, jle, by congr 1, by rw [Nat.mul_succ]; exact hown2, hS _ _ hI1 hb2, Nat.le_trans hs2 hb2.size⟩, by have := HM.out; simp only [intOf]; omega⟩
    · obtain rfl : j = N := by omega
      have hcv := run_str (P := Tryz.prog) (src := 75) (dst := 9) Tryz.underlying75 Tryz.underlying5 Tryz.underlying9 hown
      have q1 : ¬ 8 * (j : Int) < (s.size : Int) := by omega
      clear eN hN CALL hst
      go_wp2
      exact bodyPost_ret (v := .tuple #[.string ⟨(outN f j).toArray⟩, .int .i64 0]) (by simp [results, Tryz.results60, go_sem]) rfl ⟨rfl, hI, hbs⟩
set_option maxRecDepth 100000 in
set_option maxHeartbeats 1600000 in
theorem eachE_bad (s : ByteArray) (g : Nat) (w : World) (h : Hid (s.size % 8 ≠ 0)) (hs : s.size ≤ 1099511627776) :
    Calls Tryz.prog 60 #[.string s, .func (Fn.func 62) #[.pointer (some ⟨g, 0, none⟩)] #[]] w fun e w' => e = .returned (.tuple #[.string ⟨#[]⟩, .int .i64 31]) ∧ w' = w := by
  have q : ((s.size : Int) % 8 != 0) = true := by have := h.out; simp only [bne_iff_ne]; omega
  go_enter Tryz.func60, Tryz.ntmps60
  go_wp2
  exact bodyPost_ret (v := .tuple #[.string ⟨#[]⟩, .int .i64 31]) (by simp [results, Tryz.results60, go_sem]) rfl ⟨rfl, rfl⟩
set_option maxRecDepth 100000 in
set_option maxHeartbeats 3200000 in
theorem eachD (s : ByteArray) (N : Nat) (hN : Hid (s.size = 8 * N)) (hs : s.size ≤ 1099511627776) (g : Nat) (f : Nat → List Bool) (hf : Hid (∀ i, i < N → (f i).length = 64)) (w : World) (I : Nat → World → Prop) (hI0 : I 0 w) (hst : Hid (∀ i y y', I i y → Below w.heap.size y y' → I i y'))
    (CALL : Hid (∀ i y, i < N → w.heap.size ≤ y.heap.size → I i y → Calls Tryz.prog 63 #[.pointer (some ⟨g, 0, none⟩), .int .u64 (val (blk s.data.toList i) : Int)] y fun e y' => e = .returned (.int .u64 (val (f i) : Int)) ∧ I (i + 1) y' ∧ (∀ v n xs, y.ownsRow w.heap.size 5 1 v n xs → y'.ownsRow w.heap.size 5 1 v n xs) ∧ y.heap.size ≤ y'.heap.size)) :
    Calls Tryz.prog 60 #[.string s, .func (Fn.func 63) #[.pointer (some ⟨g, 0, none⟩)] #[]] w fun e w' => e = .returned (.tuple #[.string ⟨(outN f N).toArray⟩, .int .i64 0]) ∧ I N w' ∧ w.heap.size ≤ w'.heap.size := by
  obtain ⟨i0, hi, hz0, hz1, hz2⟩ := info_parts info
  have q : ((s.size : Int) % 8 != 0) = false := by have := hN.out; simp only [bne_eq_false_iff_eq]; omega
  go_enter Tryz.func60, Tryz.ntmps60
  go_wp2_with (at_make; refine wpList_make_own _ rfl _ _ 75 rfl w.heap.size 5 i0 _ 1 Tryz.underlying75 hi hz0 hz1 _ _ _ s.size rfl rfl (by omega) (by rw [hz2]; omega) (by unfold maxLen; omega) (Nat.le_refl _) ?_; intro w0 hown0 hgrow0)
  have hb0 := (Below.refl w.heap.size w).grown hgrow0 (Nat.le_refl _) (fun k h => by cases h)
  have I0 : I 0 w0 := hst.out 0 w w0 hI0 hb0
  have s0 := hb0.size
  clear hgrow0 hb0 hI0
  go_loopw [6, 7] (fun v c wr => ∃ j : Nat, j ≤ N ∧ c = .int .i64 (8 * (j : Int)) ∧ wr.ownsRow w.heap.size 5 1 v (8 * j) (bs (outN f j)) ∧ I j wr ∧ w.heap.size ≤ wr.heap.size) (fun _ c _ => 8 * N + 8 - (intOf c).toNat)
  case atStart => exact ⟨0, by omega, rfl, hown0, I0, s0⟩
  case round =>
    obtain ⟨j, hj, rfl, hown, hI, hbs⟩ := hrel
    have eN := hN.out
    by_cases hj2 : j < N
    · have q1 : 8 * (j : Int) < (s.size : Int) := by omega
      have q0 : (0 : Int) ≤ 8 * (j : Int) := by omega
      have q2 : 8 * (j : Int) + 8 ≤ (s.size : Int) := by omega
      have hjs : 8 * j + 8 ≤ s.size := by omega
      have hps : 8 ≤ (s.extract (8 * j) (8 * j + 8)).size := by rw [ByteArray.size_extract]; omega
      have WO := fun y => word_any (s.extract (8 * j) (8 * j + 8)) hps y
      have ept : (s.extract (8 * j) (8 * j + 8)).data.toList.take 8 = pt s.data.toList j := ext_pt s j
      rw [ept] at WO
      have WO : ∀ y, Calls Tryz.prog 59 #[.string (s.extract (8 * j) (8 * j + 8))] y fun e w' => e = .returned (.int .u64 (val (blk s.data.toList j) : Int)) ∧ w' = y := WO
      have CA := CALL.out j wr hj2 hbs hI
      have AP := fun y v (ho : World.ownsRow y w.heap.size 5 1 v (8 * j) (bs (outN f j))) (hB : w.heap.size ≤ y.heap.size) => appw (f j) (hf.out j hj2) w.heap.size (8 * j) v (outN f j) y ho hB (by omega)
      rw [← outN_succ f j] at AP
      have hS := fun y y' (h : I (j + 1) y) (hb : Below w.heap.size y y') => hst.out (j + 1) y y' h hb
      have jle : j + 1 ≤ N := hj2
      have HM : Hid (8 * (j + 1) ≤ 8 * N) := (by omega : 8 * (j + 1) ≤ 8 * N)
      clear ept hps eN CALL hst hf I0 hown0 hN
      generalize blk s.data.toList j = X at *
      go_wp2_with (first
        | (go_at_call 59; refine (WO _).mono ?_; rintro e y0 ⟨rfl, rfl⟩)
        | (go_at_call 63; refine CA.mono ?_; rintro e y1 ⟨rfl, hI1, hk1, hs1⟩; have hown1 := hk1 _ _ _ hown; have hs2 : w.heap.size ≤ y1.heap.size := Nat.le_trans hbs hs1)
        | (go_at_call 80; refine (AP _ _ hown1 hs2).mono ?_; rintro e y2 ⟨v2, rfl, hown2, hb2⟩))
      exact ⟨⟨j + 1, jle, by congr 1, by rw [Nat.mul_succ]; exact hown2, hS _ _ hI1 hb2, Nat.le_trans hs2 hb2.size⟩, by have := HM.out; simp only [intOf]; omega⟩
    · obtain rfl : j = N := by omega
      have hcv := run_str (P := Tryz.prog) (src := 75) (dst := 9) Tryz.underlying75 Tryz.underlying5 Tryz.underlying9 hown
      have q1 : ¬ 8 * (j : Int) < (s.size : Int) := by omega
      clear eN hN CALL hst
      go_wp2
      exact bodyPost_ret (v := .tuple #[.string ⟨(outN f j).toArray⟩, .int .i64 0]) (by simp [results, Tryz.results60, go_sem]) rfl ⟨rfl, hI, hbs⟩
set_option maxRecDepth 100000 in
set_option maxHeartbeats 1600000 in
theorem eachD_bad (s : ByteArray) (g : Nat) (w : World) (h : Hid (s.size % 8 ≠ 0)) (hs : s.size ≤ 1099511627776) :
    Calls Tryz.prog 60 #[.string s, .func (Fn.func 63) #[.pointer (some ⟨g, 0, none⟩)] #[]] w fun e w' => e = .returned (.tuple #[.string ⟨#[]⟩, .int .i64 31]) ∧ w' = w := by
  have q : ((s.size : Int) % 8 != 0) = true := by have := h.out; simp only [bne_iff_ne]; omega
  go_enter Tryz.func60, Tryz.ntmps60
  go_wp2
  exact bodyPost_ret (v := .tuple #[.string ⟨#[]⟩, .int .i64 31]) (by simp [results, Tryz.results60, go_sem]) rfl ⟨rfl, rfl⟩
end Go.Proofs.YtpifebapodfeaaaGreat.Eb
/- eachBlock, over a function value. -/
namespace Go.Proofs.YtpifebapodfeaaaGreat.Ec
set_option linter.unusedVariables false
open Go.RowKit Pla Cb Tk Wd Nw Bk Aw Eb
open Lib0 (bs bs_length bs_append owns_len run_str own_ge)
set_option maxRecDepth 100000 in
set_option maxHeartbeats 3200000 in
theorem eachC (s : ByteArray) (N : Nat) (hN : Hid (s.size = 8 * N)) (hs : s.size ≤ 1099511627776) (b c : Nat) (f : Nat → List Bool) (hf : Hid (∀ i, i < N → (f i).length = 64)) (w : World) (I : Nat → World → Prop) (hI0 : I 0 w) (hst : Hid (∀ i y y', I i y → Below w.heap.size y y' → I i y'))
    (CALL : Hid (∀ i y, i < N → w.heap.size ≤ y.heap.size → I i y → Calls Tryz.prog 61 #[.int .u64 (val (blk s.data.toList i) : Int), .pointer (some ⟨b, 0, none⟩), .pointer (some ⟨c, 0, none⟩)] y fun e y' => e = .returned (.int .u64 (val (f i) : Int)) ∧ I (i + 1) y' ∧ (∀ v n xs, y.ownsRow w.heap.size 5 1 v n xs → y'.ownsRow w.heap.size 5 1 v n xs) ∧ y.heap.size ≤ y'.heap.size)) :
    Calls Tryz.prog 60 #[.string s, .func (Fn.func 61) #[] #[.pointer (some ⟨b, 0, none⟩), .pointer (some ⟨c, 0, none⟩)]] w fun e w' => e = .returned (.tuple #[.string ⟨(outN f N).toArray⟩, .int .i64 0]) ∧ I N w' ∧ w.heap.size ≤ w'.heap.size := by
  obtain ⟨i0, hi, hz0, hz1, hz2⟩ := info_parts info
  have q : ((s.size : Int) % 8 != 0) = false := by have := hN.out; simp only [bne_eq_false_iff_eq]; omega
  go_enter Tryz.func60, Tryz.ntmps60
  go_wp2_with (at_make; refine wpList_make_own _ rfl _ _ 75 rfl w.heap.size 5 i0 _ 1 Tryz.underlying75 hi hz0 hz1 _ _ _ s.size rfl rfl (by omega) (by rw [hz2]; omega) (by unfold maxLen; omega) (Nat.le_refl _) ?_; intro w0 hown0 hgrow0)
  have hb0 := (Below.refl w.heap.size w).grown hgrow0 (Nat.le_refl _) (fun k h => by cases h)
  have I0 : I 0 w0 := hst.out 0 w w0 hI0 hb0
  have s0 := hb0.size
  clear hgrow0 hb0 hI0
  go_loopw [6, 7] (fun v c wr => ∃ j : Nat, j ≤ N ∧ c = .int .i64 (8 * (j : Int)) ∧ wr.ownsRow w.heap.size 5 1 v (8 * j) (bs (outN f j)) ∧ I j wr ∧ w.heap.size ≤ wr.heap.size) (fun _ c _ => 8 * N + 8 - (intOf c).toNat)
  case atStart => exact ⟨0, by omega, rfl, hown0, I0, s0⟩
  case round =>
    obtain ⟨j, hj, rfl, hown, hI, hbs⟩ := hrel
    have eN := hN.out
    by_cases hj2 : j < N
    · have q1 : 8 * (j : Int) < (s.size : Int) := by omega
      have q0 : (0 : Int) ≤ 8 * (j : Int) := by omega
      have q2 : 8 * (j : Int) + 8 ≤ (s.size : Int) := by omega
      have hjs : 8 * j + 8 ≤ s.size := by omega
      have hps : 8 ≤ (s.extract (8 * j) (8 * j + 8)).size := by rw [ByteArray.size_extract]; omega
      have WO := fun y => word_any (s.extract (8 * j) (8 * j + 8)) hps y
      have ept : (s.extract (8 * j) (8 * j + 8)).data.toList.take 8 = pt s.data.toList j := ext_pt s j
      rw [ept] at WO
      have WO : ∀ y, Calls Tryz.prog 59 #[.string (s.extract (8 * j) (8 * j + 8))] y fun e w' => e = .returned (.int .u64 (val (blk s.data.toList j) : Int)) ∧ w' = y := WO
      have CA := CALL.out j wr hj2 hbs hI
      have AP := fun y v (ho : World.ownsRow y w.heap.size 5 1 v (8 * j) (bs (outN f j))) (hB : w.heap.size ≤ y.heap.size) => appw (f j) (hf.out j hj2) w.heap.size (8 * j) v (outN f j) y ho hB (by omega)
      rw [← outN_succ f j] at AP
      have hS := fun y y' (h : I (j + 1) y) (hb : Below w.heap.size y y') => hst.out (j + 1) y y' h hb
      have jle : j + 1 ≤ N := hj2
      have HM : Hid (8 * (j + 1) ≤ 8 * N) := (by omega : 8 * (j + 1) ≤ 8 * N)
      clear ept hps eN CALL hst hf I0 hown0 hN
      generalize blk s.data.toList j = X at *
      go_wp2_with (first
        | (go_at_call 59; refine (WO _).mono ?_; rintro e y0 ⟨rfl, rfl⟩)
        | (go_at_call 61; refine CA.mono ?_; rintro e y1 ⟨rfl, hI1, hk1, hs1⟩; have hown1 := hk1 _ _ _ hown; have hs2 : w.heap.size ≤ y1.heap.size := Nat.le_trans hbs hs1)
        | (go_at_call 80; refine (AP _ _ hown1 hs2).mono ?_; rintro e y2 ⟨v2, rfl, hown2, hb2⟩))
      exact ⟨⟨j + 1, jle, by congr 1, by rw [Nat.mul_succ]; exact hown2, hS _ _ hI1 hb2, Nat.le_trans hs2 hb2.size⟩, by have := HM.out; simp only [intOf]; omega⟩
    · obtain rfl : j = N := by omega
      have hcv := run_str (P := Tryz.prog) (src := 75) (dst := 9) Tryz.underlying75 Tryz.underlying5 Tryz.underlying9 hown
      have q1 : ¬ 8 * (j : Int) < (s.size : Int) := by omega
      clear eN hN CALL hst
      go_wp2
      exact bodyPost_ret (v := .tuple #[.string ⟨(outN f j).toArray⟩, .int .i64 0]) (by simp [results, Tryz.results60, go_sem]) rfl ⟨rfl, hI, hbs⟩
set_option maxRecDepth 100000 in
set_option maxHeartbeats 1600000 in
theorem eachC_bad (s : ByteArray) (b c : Nat) (w : World) (h : Hid (s.size % 8 ≠ 0)) (hs : s.size ≤ 1099511627776) :
    Calls Tryz.prog 60 #[.string s, .func (Fn.func 61) #[] #[.pointer (some ⟨b, 0, none⟩), .pointer (some ⟨c, 0, none⟩)]] w fun e w' => e = .returned (.tuple #[.string ⟨#[]⟩, .int .i64 31]) ∧ w' = w := by
  have q : ((s.size : Int) % 8 != 0) = true := by have := h.out; simp only [bne_iff_ne]; omega
  go_enter Tryz.func60, Tryz.ntmps60
  go_wp2
  exact bodyPost_ret (v := .tuple #[.string ⟨#[]⟩, .int .i64 31]) (by simp [results, Tryz.results60, go_sem]) rfl ⟨rfl, rfl⟩
end Go.Proofs.YtpifebapodfeaaaGreat.Ec
