/- Plain facts, of no program: bytes in a row of the call's own, and their text. -/
import Derived.Test.YtabmpngliphdpaaDoorRows
import Derived.WalkKit
import Derived.WalkLawsBesides
import Derived.WalkSpells
import Derived.Laws.IdiomStrings
import Derived.Lib.BufferRead
import Derived.Deep.RegionHeld3
import Derived.Deep.AppendLies
import Derived.Deep.DrawnRows
namespace Go.Proofs.YtabmpngliphdpaaDoor.Lib0
open Go.RowKit
/-- bytes as cells -/
def bs (l : List UInt8) : List Value := l.map fun b => Value.int .u8 (b.toNat : Int)
theorem bs_length (l : List UInt8) : (bs l).length = l.length := by simp [bs]
theorem bs_append (l r : List UInt8) : bs (l ++ r) = bs l ++ bs r := by simp [bs]
theorem bs_get (l : List UInt8) (j : Nat) (h : j < l.length) : (bs l)[j]? = some (.int .u8 (l[j].toNat : Int)) := by simp [bs, h]
theorem ret_int {k : IntKind} {a b : Int} (h : a = b) : Ending.returned (.int k a) = .returned (.int k b) := by rw [h]
theorem ret_str {a b : ByteArray} (h : a = b) : Ending.returned (.string a) = .returned (.string b) := by rw [h]
theorem owns_len {w : World} {base e : Nat} {v v' : Value} {n n' : Nat} {xs xs' : List Value} (h : w.ownsRow base e 1 v n xs) (hv : v = v') (hn : n = n') (hx : xs = xs') : w.ownsRow base e 1 v' n' xs' := by subst hv hn hx; exact h
/-- 'string(b)', b owned by the call -/
theorem run_str {P : Program} {w : World} {src dst e : TypeId} {base : Nat} {v : Value} {n : Nat} {l : List UInt8} (hs : P.underlying src = some (.slice e)) (he : P.underlying e = some (.int .u8)) (hd : P.underlying dst = some .string)
    (h : w.ownsRow base e 1 v n (bs l)) : (convert src dst v).run P w = .ok (.string ⟨l.toArray⟩) w := by
  have hn : l.length = n := by have := h.1; rw [bs_length] at this; omega
  rcases h.2 with ⟨rfl, h0⟩ | ⟨g, cap, cur, rfl, _, hg, _, _, _, htk⟩
  · have : l = [] := List.length_eq_zero_iff.1 (by omega)
    subst this
    exact Lib.run_convert_nil_bytes w src dst e 0 hs he hd
  · subst hn
    refine run_convert_bytes_back w src dst e ⟨g, 0, none⟩ cap l hs he hd ?_
    exact Lib.bytes_of_row hg (by rw [Nat.mul_one] at htk; rw [htk]; rfl)
theorem take_snoc (s : ByteArray) (k : Nat) (h : k < s.size) : s.data.toList.take (k + 1) = s.data.toList.take k ++ [s[k]] := by
  rw [List.take_succ_eq_append_getElem (by simpa using h)]; rfl
theorem take_all (s : ByteArray) (k : Nat) (h : s.size ≤ k) : s.data.toList.take k = s.data.toList := List.take_of_length_le (by simpa using h)
theorem toNat_lt (b : UInt8) : (b.toNat : Int) < 256 := by have := b.toNat_lt; omega
theorem wrap_u8 (n : Int) (h0 : 0 ≤ n) (h1 : n < 256) : IntKind.u8.wrap n = n := by simp [IntKind.wrap, IntKind.signed, IntKind.bits]; omega
/-- a half as its sign -/
def hx (n : Nat) : UInt8 := [48, 49, 50, 51, 52, 53, 54, 55, 56, 57, 65, 66, 67, 68, 69, 70].getD n 0
def hexL (l : List UInt8) : List UInt8 := l.flatMap fun b => [hx (b.toNat / 16), hx (b.toNat % 16)]
theorem hx_get (n : Nat) (h : n < 16) : (⟨#[48, 49, 50, 51, 52, 53, 54, 55, 56, 57, 65, 66, 67, 68, 69, 70]⟩ : ByteArray)[n]'h = hx n := by
  have : ∀ m : Fin 16, (⟨#[48, 49, 50, 51, 52, 53, 54, 55, 56, 57, 65, 66, 67, 68, 69, 70]⟩ : ByteArray)[m.val]'m.isLt = hx m.val := by decide
  exact this ⟨n, h⟩
theorem hexL_length (l : List UInt8) : (hexL l).length = 2 * l.length := by
  induction l with
  | nil => rfl
  | cons b l ih => simp only [hexL, List.flatMap_cons, List.length_append, List.length_cons, List.length_nil] at *; omega
theorem hexL_snoc (l : List UInt8) (b : UInt8) : hexL (l ++ [b]) = hexL l ++ [hx (b.toNat / 16), hx (b.toNat % 16)] := by simp [hexL]
theorem wrap_i64 (n : Int) (h0 : 0 ≤ n) (h1 : n < 9223372036854775808) : IntKind.i64.wrap n = n := by simp [IntKind.wrap, IntKind.signed, IntKind.bits]; omega
theorem t16 (n : Nat) : ((n : Int) / 16).toNat = n / 16 := by omega
theorem m16 (n : Nat) : ((n : Int) % 16).toNat = n % 16 := by omega
/-- the place of the first byte that does not fit -/
def fuL (p : UInt8 → Bool) : List UInt8 → Nat
  | [] => 0
  | c :: l => if p c then fuL p l + 1 else 0
theorem fuL_le (p : UInt8 → Bool) : ∀ l : List UInt8, fuL p l ≤ l.length
  | [] => Nat.le_refl _
  | c :: l => by have := fuL_le p l; simp only [fuL, List.length_cons]; split <;> omega
theorem fuL_all (p : UInt8 → Bool) : ∀ l : List UInt8, l.all p = true → fuL p l = l.length
  | [], _ => rfl
  | c :: l, h => by simp only [List.all_cons, Bool.and_eq_true] at h; simp only [fuL, h.1, if_true, List.length_cons, fuL_all p l h.2]
theorem fuL_eq (p : UInt8 → Bool) : ∀ l : List UInt8, fuL p l = l.length → l.all p = true
  | [], _ => rfl
  | c :: l, h => by
    have := fuL_le p l
    by_cases hc : p c = true
    · simp only [fuL, hc, if_true, List.length_cons] at h; simp only [List.all_cons, hc, Bool.true_and]; exact fuL_eq p l (by omega)
    · simp [fuL, hc] at h
theorem fuL_hit (p : UInt8 → Bool) : ∀ (l : List UInt8) (k : Nat) (h : k < l.length), (l.take k).all p = true → p l[k] = false → fuL p l = k
  | [], k, h, _, _ => by simp at h
  | c :: l, 0, _, _, hp => by simp only [List.getElem_cons_zero] at hp; simp [fuL, hp]
  | c :: l, k + 1, h, ha, hp => by
    simp only [List.take_succ_cons, List.all_cons, Bool.and_eq_true] at ha
    simp only [fuL, ha.1, if_true]
    rw [fuL_hit p l k (by simpa using h) ha.2 (by simpa using hp)]
theorem fuL_before (p : UInt8 → Bool) : ∀ (l : List UInt8), (l.take (fuL p l)).all p = true
  | [] => rfl
  | c :: l => by
    by_cases hc : p c = true
    · simp only [fuL, hc, if_true, List.take_succ_cons, List.all_cons, Bool.true_and]; exact fuL_before p l
    · simp [fuL, hc]
theorem fuL_at (p : UInt8 → Bool) : ∀ (l : List UInt8) (h : fuL p l < l.length), p (l[fuL p l]) = false
  | [], h => by simp at h
  | c :: l, h => by
    by_cases hc : p c = true
    · have e : fuL p (c :: l) = fuL p l + 1 := by simp [fuL, hc]
      have h' : fuL p l < l.length := by simp only [e, List.length_cons] at h; omega
      simp only [e, List.getElem_cons_succ]; exact fuL_at p l h'
    · have e : fuL p (c :: l) = 0 := by simp [fuL, hc]
      simp only [e, List.getElem_cons_zero]; simpa using hc
theorem all_snoc (p : UInt8 → Bool) (s : ByteArray) (k : Nat) (h : k < s.size) (ha : (s.data.toList.take k).all p = true) (hp : p s[k] = true) : (s.data.toList.take (k + 1)).all p = true := by
  rw [take_snoc s k h, List.all_append, ha]; simp [hp]
theorem own_ge {w : World} {base e : Nat} {v : Value} {n size : Nat} {xs : List Value} (h : w.ownsRow base e size v n xs) : ∀ k, v.ownBlock = some k → base ≤ k := by
  intro k hk
  rcases h.2 with ⟨rfl, _⟩ | ⟨g, cap, cur, rfl, hb, _⟩
  · simp [Value.ownBlock] at hk
  · simp [Value.ownBlock] at hk; omega
theorem below_app {B e : Nat} {a w w1 : World} {v : Value} {n : Nat} {xs : List Value} {o : Obj} (hb : Below B a w) (hB : B ≤ w.heap.size) (hown : w.ownsRow B e 1 v n xs) (hg : ((w.alloc o).drew).grownBy w1 v.ownBlock) : Below B a w1 :=
  ((hb.alloc hB o).drew).grown hg (by simp; omega) (own_ge hown)
theorem own_draws {w : World} {base e size n : Nat} {v : Value} {xs : List Value} (h : w.ownsRow base e size v n xs) : ∀ k, (w.drewN k).ownsRow base e size v n xs
  | 0 => h
  | k + 1 => (own_draws h k).drew
theorem below_app0 {B e : Nat} {a w w1 : World} {v : Value} {n size : Nat} {xs : List Value} {o : Obj} (hb : Below B a w) (hB : B ≤ w.heap.size) (hown : w.ownsRow B e size v n xs) (hg : (w.alloc o).grownBy w1 v.ownBlock) : Below B a w1 :=
  (hb.alloc hB o).grown hg (by simp; omega) (own_ge hown)
end Go.Proofs.YtabmpngliphdpaaDoor.Lib0
