import Derived.Test.YtciblmdpngnakaaRows
import Derived.WalkKit
import Derived.WalkLawsBesides
import Derived.WalkSpells
import Derived.Laws.IdiomStrings
import Derived.Lib.BufferRead
import Derived.Deep.RegionHeld3
import Derived.Deep.AppendLies
import Derived.Deep.DrawnRows
import Derived.Lib.Bytealg
/- Plain facts, of no program: bytes in a row of the call's own, and their text. -/
namespace Go.Proofs.Ytciblmdpngnakaa.Lib0
open Go.RowKit
/-- bytes as cells -/
def bs (l : List UInt8) : List Value := l.map fun b => Value.int .u8 (b.toNat : Int)
theorem bs_length (l : List UInt8) : (bs l).length = l.length := by simp [bs]
theorem bs_append (l r : List UInt8) : bs (l ++ r) = bs l ++ bs r := by simp [bs]
theorem bs_get (l : List UInt8) (j : Nat) (h : j < l.length) : (bs l)[j]? = some (.int .u8 (l[j].toNat : Int)) := by simp [bs, h]
theorem ret_int {k : IntKind} {a b : Int} (h : a = b) : Ending.returned (.int k a) = .returned (.int k b) := by rw [h]
theorem ret_str {a b : ByteArray} (h : a = b) : Ending.returned (.string a) = .returned (.string b) := by rw [h]
theorem owns_len {w : World} {base e : Nat} {v v' : Value} {n n' : Nat} {xs xs' : List Value} (h : w.ownsRow base e 1 v n xs) (hv : v = v') (hn : n = n') (hx : xs = xs') : w.ownsRow base e 1 v' n' xs' := by subst hv hn hx; exact h
/-- 'string(b)', b owned by the call -/
theorem run_str {P : Program} {w : World} {src dst e : TypeId} {base : Nat} {v : Value} {n : Nat} {l : List UInt8} (hs : P.underlying src = some (.slice e)) (he : P.underlying e = some (.int .u8)) (hd : P.underlying dst = some .string)
    (h : w.ownsRow base e 1 v n (bs l)) : (convert src dst v).run P w = .ok (.string ⟨l.toArray⟩) w := by
  have hn : l.length = n := by have := h.1; rw [bs_length] at this; omega
  rcases h.2 with ⟨rfl, h0⟩ | ⟨g, cap, cur, rfl, _, hg, _, _, _, htk⟩
  · have : l = [] := List.length_eq_zero_iff.1 (by omega)
    subst this
    exact Lib.run_convert_nil_bytes w src dst e 0 hs he hd
  · subst hn
    refine run_convert_bytes_back w src dst e ⟨g, 0, none⟩ cap l hs he hd ?_
    exact Lib.bytes_of_row hg (by rw [Nat.mul_one] at htk; rw [htk]; rfl)
theorem take_snoc (s : ByteArray) (k : Nat) (h : k < s.size) : s.data.toList.take (k + 1) = s.data.toList.take k ++ [s[k]] := by
  rw [List.take_succ_eq_append_getElem (by simpa using h)]; rfl
theorem take_all (s : ByteArray) (k : Nat) (h : s.size ≤ k) : s.data.toList.take k = s.data.toList := List.take_of_length_le (by simpa using h)
theorem toNat_lt (b : UInt8) : (b.toNat : Int) < 256 := by have := b.toNat_lt; omega
theorem wrap_u8 (n : Int) (h0 : 0 ≤ n) (h1 : n < 256) : IntKind.u8.wrap n = n := by simp [IntKind.wrap, IntKind.signed, IntKind.bits]; omega
/-- a half as its sign -/
def hx (n : Nat) : UInt8 := [48, 49, 50, 51, 52, 53, 54, 55, 56, 57, 65, 66, 67, 68, 69, 70].getD n 0
def hexL (l : List UInt8) : List UInt8 := l.flatMap fun b => [hx (b.toNat / 16), hx (b.toNat % 16)]
theorem hx_get (n : Nat) (h : n < 16) : (⟨#[48, 49, 50, 51, 52, 53, 54, 55, 56, 57, 65, 66, 67, 68, 69, 70]⟩ : ByteArray)[n]'h = hx n := by
  have : ∀ m : Fin 16, (⟨#[48, 49, 50, 51, 52, 53, 54, 55, 56, 57, 65, 66, 67, 68, 69, 70]⟩ : ByteArray)[m.val]'m.isLt = hx m.val := by decide
  exact this ⟨n, h⟩
theorem hexL_length (l : List UInt8) : (hexL l).length = 2 * l.length := by
  induction l with
  | nil => rfl
  | cons b l ih => simp only [hexL, List.flatMap_cons, List.length_append, List.length_cons, List.length_nil] at *; omega
theorem hexL_snoc (l : List UInt8) (b : UInt8) : hexL (l ++ [b]) = hexL l ++ [hx (b.toNat / 16), hx (b.toNat % 16)] := by simp [hexL]
theorem wrap_i64 (n : Int) (h0 : 0 ≤ n) (h1 : n < 9223372036854775808) : IntKind.i64.wrap n = n := by simp [IntKind.wrap, IntKind.signed, IntKind.bits]; omega
theorem t16 (n : Nat) : ((n : Int) / 16).toNat = n / 16 := by omega
theorem m16 (n : Nat) : ((n : Int) % 16).toNat = n % 16 := by omega
/-- the place of the first byte that does not fit -/
def fuL (p : UInt8 → Bool) : List UInt8 → Nat
  | [] => 0
  | c :: l => if p c then fuL p l + 1 else 0
theorem fuL_le (p : UInt8 → Bool) : ∀ l : List UInt8, fuL p l ≤ l.length
  | [] => Nat.le_refl _
  | c :: l => by have := fuL_le p l; simp only [fuL, List.length_cons]; split <;> omega
theorem fuL_all (p : UInt8 → Bool) : ∀ l : List UInt8, l.all p = true → fuL p l = l.length
  | [], _ => rfl
  | c :: l, h => by simp only [List.all_cons, Bool.and_eq_true] at h; simp only [fuL, h.1, if_true, List.length_cons, fuL_all p l h.2]
theorem fuL_eq (p : UInt8 → Bool) : ∀ l : List UInt8, fuL p l = l.length → l.all p = true
  | [], _ => rfl
  | c :: l, h => by
    have := fuL_le p l
    by_cases hc : p c = true
    · simp only [fuL, hc, if_true, List.length_cons] at h; simp only [List.all_cons, hc, Bool.true_and]; exact fuL_eq p l (by omega)
    · simp [fuL, hc] at h
theorem fuL_hit (p : UInt8 → Bool) : ∀ (l : List UInt8) (k : Nat) (h : k < l.length), (l.take k).all p = true → p l[k] = false → fuL p l = k
  | [], k, h, _, _ => by simp at h
  | c :: l, 0, _, _, hp => by simp only [List.getElem_cons_zero] at hp; simp [fuL, hp]
  | c :: l, k + 1, h, ha, hp => by
    simp only [List.take_succ_cons, List.all_cons, Bool.and_eq_true] at ha
    simp only [fuL, ha.1, if_true]
    rw [fuL_hit p l k (by simpa using h) ha.2 (by simpa using hp)]
theorem fuL_before (p : UInt8 → Bool) : ∀ (l : List UInt8), (l.take (fuL p l)).all p = true
  | [] => rfl
  | c :: l => by
    by_cases hc : p c = true
    · simp only [fuL, hc, if_true, List.take_succ_cons, List.all_cons, Bool.true_and]; exact fuL_before p l
    · simp [fuL, hc]
theorem fuL_at (p : UInt8 → Bool) : ∀ (l : List UInt8) (h : fuL p l < l.length), p (l[fuL p l]) = false
  | [], h => by simp at h
  | c :: l, h => by
    by_cases hc : p c = true
    · have e : fuL p (c :: l) = fuL p l + 1 := by simp [fuL, hc]
      have h' : fuL p l < l.length := by simp only [e, List.length_cons] at h; omega
      simp only [e, List.getElem_cons_succ]; exact fuL_at p l h'
    · have e : fuL p (c :: l) = 0 := by simp [fuL, hc]
      simp only [e, List.getElem_cons_zero]; simpa using hc
theorem all_snoc (p : UInt8 → Bool) (s : ByteArray) (k : Nat) (h : k < s.size) (ha : (s.data.toList.take k).all p = true) (hp : p s[k] = true) : (s.data.toList.take (k + 1)).all p = true := by
  rw [take_snoc s k h, List.all_append, ha]; simp [hp]
theorem own_ge {w : World} {base e : Nat} {v : Value} {n size : Nat} {xs : List Value} (h : w.ownsRow base e size v n xs) : ∀ k, v.ownBlock = some k → base ≤ k := by
  intro k hk
  rcases h.2 with ⟨rfl, _⟩ | ⟨g, cap, cur, rfl, hb, _⟩
  · simp [Value.ownBlock] at hk
  · simp [Value.ownBlock] at hk; omega
theorem below_app {B e : Nat} {a w w1 : World} {v : Value} {n : Nat} {xs : List Value} {o : Obj} (hb : Below B a w) (hB : B ≤ w.heap.size) (hown : w.ownsRow B e 1 v n xs) (hg : ((w.alloc o).drew).grownBy w1 v.ownBlock) : Below B a w1 :=
  ((hb.alloc hB o).drew).grown hg (by simp; omega) (own_ge hown)
theorem own_draws {w : World} {base e size n : Nat} {v : Value} {xs : List Value} (h : w.ownsRow base e size v n xs) : ∀ k, (w.drewN k).ownsRow base e size v n xs
  | 0 => h
  | k + 1 => (own_draws h k).drew
theorem below_app0 {B e : Nat} {a w w1 : World} {v : Value} {n size : Nat} {xs : List Value} {o : Obj} (hb : Below B a w) (hB : B ≤ w.heap.size) (hown : w.ownsRow B e size v n xs) (hg : (w.alloc o).grownBy w1 v.ownBlock) : Below B a w1 :=
  (hb.alloc hB o).grown hg (by simp; omega) (own_ge hown)
end Go.Proofs.Ytciblmdpngnakaa.Lib0
/- Sixteenths: which byte is one, and its number; the first byte that does not fit. -/
namespace Go.Proofs.Ytciblmdpngnakaa.Six
open Go.RowKit Lib0
theorem run_ibs (s : ByteArray) (c : Int) (w : World) : (callFunc 109 #[.string s, .int .u8 c]).run Try.prog w = .ok (.value (.int .i64 (Lib.indexByte s.data.toList c.toNat.toUInt8))) w := by
  rw [run_callFunc_extern (P := Try.prog) (e := Extern.BytealgIndexByte.indexByte) Try.func109 (by kernel_rfl) (by kernel_rfl) (by kernel_rfl) (by kernel_rfl) #[.string s, .int .u8 c] w, Lib.run_indexByteString]
  rfl
theorem ib1 (s : ByteArray) (c : Int) (w : World) :
    Calls Try.prog 92 #[.string s, .int .u8 c] w fun e w' => e = .returned (.int .i64 (Lib.indexByte s.data.toList c.toNat.toUInt8)) ∧ w' = w := by
  have h := run_ibs s c
  go_enter Try.func92, Try.ntmps92
  go_wp2
  go_ret
  exact ⟨rfl, rfl⟩
theorem ib2 (s : ByteArray) (c : Int) (w : World) :
    Calls Try.prog 80 #[.string s, .int .u8 c] w fun e w' => e = .returned (.int .i64 (Lib.indexByte s.data.toList c.toNat.toUInt8)) ∧ w' = w := by
  go_enter Try.func80, Try.ntmps80
  go_wp2_with fail
  refine (ib1 s c _).mono ?_
  rintro e w' ⟨rfl, rfl⟩
  go_wp2
  go_ret
  exact ⟨rfl, rfl⟩
/-- the sixteen signs; the number of one, or -1 -/
def hxl : List UInt8 := [48, 49, 50, 51, 52, 53, 54, 55, 56, 57, 65, 66, 67, 68, 69, 70]
def six (c : UInt8) : Int := Lib.indexByte hxl c
def isSix (c : UInt8) : Bool := decide (0 ≤ six c)
theorem ix_hit (c : UInt8) : ∀ (l : List UInt8) (k : Nat) (h : k < l.length), (l.take k).all (fun x => x != c) = true → l[k] = c → Lib.indexByte l c = k
  | [], k, h, _, _ => by simp at h
  | x :: l, 0, _, _, hp => by simp only [List.getElem_cons_zero] at hp; simp [Lib.indexByte, hp]
  | x :: l, k + 1, h, ha, hp => by
    simp only [List.take_succ_cons, List.all_cons, Bool.and_eq_true] at ha
    have hx : (x == c) = false := by have := ha.1; simp only [bne, Bool.not_eq_true'] at this; exact this
    have ih := ix_hit c l k (by simpa using h) ha.2 (by simpa using hp)
    have hne : (((k : Nat) : Int) == -1) = false := by rw [beq_eq_false_iff_ne]; omega
    simp only [Lib.indexByte, hx, ih, hne, Bool.false_eq_true, if_false]
    omega
theorem ix_none (c : UInt8) : ∀ (l : List UInt8), l.all (fun x => x != c) = true → Lib.indexByte l c = -1
  | [], _ => rfl
  | x :: l, ha => by
    simp only [List.all_cons, Bool.and_eq_true] at ha
    have hx : (x == c) = false := by have := ha.1; simp only [bne, Bool.not_eq_true'] at this; exact this
    simp [Lib.indexByte, hx, ix_none c l ha.2]
/-- pairs of signs as bytes -/
def unhexL : List UInt8 → List UInt8
  | a :: b :: l => (16 * six a + six b).toNat.toUInt8 :: unhexL l
  | _ => []
theorem unhexL_snoc : ∀ (l : List UInt8) (a b : UInt8), l.length % 2 = 0 → unhexL (l ++ [a, b]) = unhexL l ++ [(16 * six a + six b).toNat.toUInt8]
  | [], a, b, _ => rfl
  | [x], a, b, h => by simp at h
  | x :: y :: l, a, b, h => by
    simp only [List.cons_append, unhexL]
    rw [unhexL_snoc l a b (by simp only [List.length_cons] at h; omega)]
theorem or16n : ∀ a b : Fin 16, (16 * a.val) ||| b.val = 16 * a.val + b.val := by decide
theorem or16 (a b : Int) (h1 : 0 ≤ a) (h2 : a < 16) (h3 : 0 ≤ b) (h4 : b < 16) : bits .or .u8 (IntKind.u8.wrap (a * 16)) b = ((((16 * a + b).toNat.toUInt8).toNat : Nat) : Int) := by
  obtain ⟨A, rfl⟩ := Int.eq_ofNat_of_zero_le h1
  obtain ⟨B, rfl⟩ := Int.eq_ofNat_of_zero_le h3
  rw [wrap_u8 _ (by omega) (by omega), u8_or _ _ (by omega) (by omega) (by omega) (by omega)]
  have e1 : ((A : Int) * 16).toNat = 16 * A := by omega
  have e2 : ((B : Int)).toNat = B := by omega
  have e3 : (16 * (A : Int) + (B : Int)).toNat = 16 * A + B := by omega
  rw [e1, e2, e3, or16n ⟨A, by omega⟩ ⟨B, by omega⟩]
  simp only [UInt8.toNat_ofNat', Nat.toUInt8]
  omega
theorem six_of (s : ByteArray) (ha : s.data.toList.all isSix = true) (k : Nat) (h : k < s.size) : 0 ≤ six s[k] := by
  have := List.all_eq_true.1 ha s[k] (by show s.data[k] ∈ s.data.toList; simp)
  exact of_decide_eq_true this
theorem take_two (s : ByteArray) (j : Nat) (h : j + 1 < s.size) : s.data.toList.take (j + 2) = s.data.toList.take j ++ [s[j], s[j + 1]] := by
  rw [take_snoc s (j + 1) h, take_snoc s j (by omega)]; simp
theorem ret_str3 {a b : ByteArray} {x y : Value} (h : a = b) : Ending.returned (.tuple #[.string a, x, y]) = .returned (.tuple #[.string b, x, y]) := by rw [h]
theorem ib_lt (c : UInt8) : ∀ l : List UInt8, Lib.indexByte l c < (l.length : Int)
  | [] => by simp [Lib.indexByte]
  | b :: l => by
    have h1 := ib_lt c l
    simp only [Lib.indexByte, List.length_cons]
    split
    · omega
    · split <;> omega
theorem six_bd (c : UInt8) : -1 ≤ six c ∧ six c < 16 := ⟨Lib.indexByte_ge _ _, ib_lt c hxl⟩
theorem back (c : UInt8) : ((c.toNat : Int)).toNat.toUInt8 = c := by simp
theorem eq_u8 (a b : UInt8) : ((a.toNat : Int) == (b.toNat : Int)) = (a == b) := by
  rw [Bool.eq_iff_iff]; simp only [beq_iff_eq]
  constructor
  · intro h; exact UInt8.toNat.inj (by omega)
  · intro h; rw [h]
end Go.Proofs.Ytciblmdpngnakaa.Six
