import Derived.Test.YtciblmdpngnakaaRows
import Derived.Test.YtciblmdpngnakaaQv00
/- Halves added up, all of them tried. -/
namespace Go.Proofs.Ytciblmdpngnakaa.Px
theorem xor16 : ∀ a b c d : Fin 16, (UInt8.ofNat (16 * a.val + b.val)) ^^^ (UInt8.ofNat (16 * c.val + d.val)) = UInt8.ofNat (16 * (a.val ^^^ c.val) + (b.val ^^^ d.val)) := by decide +kernel
end Go.Proofs.Ytciblmdpngnakaa.Px
/- PINs in blocks, plain: lists of halves. -/
namespace Go.Proofs.Ytciblmdpngnakaa.Pp
open Go.RowKit Lib0 Six Px
def dg (c : UInt8) : Bool := decide (48 ≤ c.toNat) && decide (c.toNat ≤ 57)
theorem dg_iff (c : UInt8) : dg c = true ↔ 48 ≤ c.toNat ∧ c.toNat ≤ 57 := by simp [dg]
def adg (s : ByteArray) : Bool := s.data.toList.all dg
def asx (s : ByteArray) : Bool := s.data.toList.all isSix
theorem sz (s : ByteArray) : s.data.toList.length = s.size := rfl
def pinB (s : ByteArray) : Bool := decide (4 ≤ s.size) && decide (s.size ≤ 12) && adg s
def panB (s : ByteArray) : Bool := decide (13 ≤ s.size) && decide (s.size ≤ 19) && adg s
theorem pinB_iff (s : ByteArray) : pinB s = true ↔ 4 ≤ s.size ∧ s.size ≤ 12 ∧ adg s = true := by simp [pinB, and_assoc]
theorem panB_iff (s : ByteArray) : panB s = true ↔ 13 ≤ s.size ∧ s.size ≤ 19 ∧ adg s = true := by simp [panB, and_assoc]
/-- the halves of bytes -/
def nb (l : List UInt8) : List Nat := l.flatMap fun b => [b.toNat / 16, b.toNat % 16]
theorem nb_cons (b : UInt8) (l : List UInt8) : nb (b :: l) = b.toNat / 16 :: b.toNat % 16 :: nb l := by simp [nb]
theorem nb_snoc (l : List UInt8) (b : UInt8) : nb (l ++ [b]) = nb l ++ [b.toNat / 16, b.toNat % 16] := by simp [nb]
theorem nb_len (l : List UInt8) : (nb l).length = 2 * l.length := by
  induction l with
  | nil => rfl
  | cons b l ih => rw [nb_cons]; simp only [List.length_cons, ih]; omega
theorem nb_lt (l : List UInt8) : ∀ n ∈ nb l, n < 16 := by
  intro n h
  simp only [nb, List.mem_flatMap, List.mem_cons, List.not_mem_nil, or_false] at h
  obtain ⟨b, _, h⟩ := h
  have := b.toNat_lt
  omega
theorem hexL_nb (l : List UInt8) : hexL l = (nb l).map hx := by
  induction l with
  | nil => rfl
  | cons b l ih => rw [nb_cons]; simp only [hexL, List.flatMap_cons, List.map_cons] at *; rw [ih]; rfl
/-- halves put together -/
def pk : List Nat → List UInt8
  | a :: b :: l => UInt8.ofNat (16 * a + b) :: pk l
  | _ => []
theorem pk_nb : ∀ l : List UInt8, pk (nb l) = l
  | [] => rfl
  | b :: l => by
    rw [nb_cons, pk, pk_nb l]
    have e : 16 * (b.toNat / 16) + b.toNat % 16 = b.toNat := by omega
    rw [e]
    simp
theorem nb_pk : ∀ L : List Nat, L.length % 2 = 0 → (∀ n ∈ L, n < 16) → nb (pk L) = L
  | [], _, _ => rfl
  | [a], h, _ => by simp at h
  | a :: b :: L, h, hb => by
    have h1 := hb a (by simp)
    have h2 := hb b (by simp)
    have e : (UInt8.ofNat (16 * a + b)).toNat = 16 * a + b := by rw [UInt8.toNat_ofNat']; omega
    rw [pk, nb_cons, nb_pk L (by simp only [List.length_cons] at h; omega) (fun n hn => hb n (by simp [hn])), e]
    have e1 : (16 * a + b) / 16 = a := by omega
    have e2 : (16 * a + b) % 16 = b := by omega
    rw [e1, e2]
theorem pk_len : ∀ L : List Nat, (pk L).length = L.length / 2
  | [] => rfl
  | [a] => by simp [pk]
  | a :: b :: L => by simp only [pk, List.length_cons, pk_len L]; omega
theorem pk_two : ∀ (L : List Nat) (a b : Nat), L.length % 2 = 0 → pk (L ++ [a, b]) = pk L ++ [UInt8.ofNat (16 * a + b)]
  | [], a, b, _ => rfl
  | [x], a, b, h => by simp at h
  | x :: y :: L, a, b, h => by
    simp only [List.cons_append, pk]
    rw [pk_two L a b (by simp only [List.length_cons] at h; omega)]
theorem xor_lt16 : ∀ a b : Fin 16, a.val ^^^ b.val < 16 := by decide +kernel
theorem xor_lt (a b : Nat) (ha : a < 16) (hb : b < 16) : a ^^^ b < 16 := xor_lt16 ⟨a, ha⟩ ⟨b, hb⟩
def zx (A B : List Nat) : List Nat := List.zipWith (· ^^^ ·) A B
theorem zx_len (A B : List Nat) (h : A.length = B.length) : (zx A B).length = A.length := by simp [zx, h]
theorem zx_lt : ∀ A B : List Nat, (∀ n ∈ A, n < 16) → (∀ n ∈ B, n < 16) → ∀ n ∈ zx A B, n < 16
  | [], _, _, _, n, h => by simp [zx] at h
  | _ :: _, [], _, _, n, h => by simp [zx] at h
  | a :: A, b :: B, ha, hb, n, h => by
    simp only [zx, List.zipWith_cons_cons, List.mem_cons] at h
    rcases h with rfl | h
    · exact xor_lt a b (ha a (by simp)) (hb b (by simp))
    · exact zx_lt A B (fun n hn => ha n (by simp [hn])) (fun n hn => hb n (by simp [hn])) n h
theorem xor_pk : ∀ A B : List Nat, (∀ n ∈ A, n < 16) → (∀ n ∈ B, n < 16) → A.length = B.length → List.zipWith (· ^^^ ·) (pk A) (pk B) = pk (zx A B)
  | [], [], _, _, _ => rfl
  | [], _ :: _, _, _, h => by simp at h
  | _ :: _, [], _, _, h => by simp at h
  | [a], [b], _, _, _ => by simp [pk, zx]
  | [a], _ :: _ :: _, _, _, h => by simp at h
  | _ :: _ :: _, [b], _, _, h => by simp at h
  | a :: b :: A, c :: d :: B, ha, hb, h => by
    simp only [pk, List.zipWith_cons_cons, zx]
    rw [xor16 ⟨a, ha a (by simp)⟩ ⟨b, ha b (by simp)⟩ ⟨c, hb c (by simp)⟩ ⟨d, hb d (by simp)⟩, xor_pk A B (fun n hn => ha n (by simp [hn])) (fun n hn => hb n (by simp [hn])) (by simpa using h)]
    rfl
theorem xx (a b : Nat) : (a ^^^ b) ^^^ b = a := by rw [Nat.xor_assoc, Nat.xor_self, Nat.xor_zero]
theorem zx_zx : ∀ A B : List Nat, A.length = B.length → zx (zx A B) B = A
  | [], [], _ => rfl
  | [], _ :: _, h => by simp at h
  | _ :: _, [], h => by simp at h
  | a :: A, b :: B, h => by
    have ih := zx_zx A B (by simpa using h)
    simp only [zx, List.zipWith_cons_cons] at *
    rw [ih, xx]
/-- digits and signs as halves -/
def dvL (l : List UInt8) : List Nat := l.map fun c => c.toNat - 48
def svL (l : List UInt8) : List Nat := l.map fun c => (six c).toNat
theorem six_dg : ∀ c : Fin 256, dg (UInt8.ofNat c.val) = true → six (UInt8.ofNat c.val) = ((c.val - 48 : Nat) : Int) := by decide +kernel
theorem u8of (c : UInt8) : UInt8.ofNat c.toNat = c := by simp
theorem six_of_dg (c : UInt8) (h : dg c = true) : six c = ((c.toNat - 48 : Nat) : Int) := by
  have := six_dg ⟨c.toNat, c.toNat_lt⟩
  simp only [u8of] at this
  exact this h
theorem six_hx' : ∀ n : Fin 16, six (hx n.val) = (n.val : Int) := by decide +kernel
theorem six_hx (n : Nat) (h : n < 16) : six (hx n) = (n : Int) := six_hx' ⟨n, h⟩
theorem hx_six' : ∀ c : Fin 256, 0 ≤ six (UInt8.ofNat c.val) → hx (six (UInt8.ofNat c.val)).toNat = UInt8.ofNat c.val := by decide +kernel
theorem hx_six (c : UInt8) (h : 0 ≤ six c) : hx (six c).toNat = c := by
  have := hx_six' ⟨c.toNat, c.toNat_lt⟩
  simp only [u8of] at this
  exact this h
theorem isSix_dg (c : UInt8) (h : dg c = true) : isSix c = true := by
  have := six_of_dg c h
  unfold isSix
  rw [this]
  simp
theorem all_six_dg (l : List UInt8) (h : l.all dg = true) : l.all isSix = true := by
  simp only [List.all_eq_true] at *
  exact fun c hc => isSix_dg c (h c hc)
theorem sv_dv : ∀ l : List UInt8, l.all dg = true → svL l = dvL l
  | [], _ => rfl
  | c :: l, h => by
    simp only [List.all_cons, Bool.and_eq_true] at h
    have ih := sv_dv l h.2
    simp only [svL, dvL, List.map_cons] at *
    rw [ih, six_of_dg c h.1]; rfl
theorem sv_len (l : List UInt8) : (svL l).length = l.length := by simp [svL]
theorem dv_len (l : List UInt8) : (dvL l).length = l.length := by simp [dvL]
theorem sv_lt (l : List UInt8) : ∀ n ∈ svL l, n < 16 := by
  intro n h
  simp only [svL, List.mem_map] at h
  obtain ⟨c, _, rfl⟩ := h
  have := (six_bd c).2
  omega
theorem dv_lt (l : List UInt8) (h : l.all dg = true) : ∀ n ∈ dvL l, n < 10 := by
  intro n hn
  simp only [dvL, List.mem_map] at hn
  obtain ⟨c, hc, rfl⟩ := hn
  have := (dg_iff c).1 (List.all_eq_true.1 h c hc)
  omega
theorem unhex_pk : ∀ l : List UInt8, l.all isSix = true → unhexL l = pk (svL l)
  | [], _ => rfl
  | [a], _ => rfl
  | a :: b :: l, h => by
    simp only [List.all_cons, Bool.and_eq_true] at h
    have ha := h.1
    have hb := h.2.1
    have ih := unhex_pk l h.2.2
    unfold isSix at ha hb
    simp only [decide_eq_true_eq] at ha hb
    simp only [unhexL, svL, List.map_cons, pk] at *
    rw [ih]
    have e : (16 * six a + six b).toNat = 16 * (six a).toNat + (six b).toNat := by omega
    rw [e]
/-- the PAN's block -/
def bes (q : ByteArray) : List Nat := [0, 0, 0, 0] ++ dvL ((q.data.toList.drop (q.size - 13)).take 12)
theorem bes_len (q : ByteArray) (h : panB q = true) : (bes q).length = 16 := by
  have := (panB_iff q).1 h
  simp only [bes, List.length_append, dv_len, List.length_take, List.length_drop, sz, List.length_cons, List.length_nil]
  omega
theorem all_sub (p : UInt8 → Bool) (l : List UInt8) (a b : Nat) (h : l.all p = true) : ((l.drop a).take b).all p = true := by
  simp only [List.all_eq_true] at *
  exact fun c hc => h c (List.mem_of_mem_drop (List.mem_of_mem_take hc))
theorem bes_lt (q : ByteArray) (h : panB q = true) : ∀ n ∈ bes q, n < 16 := by
  have ha := ((panB_iff q).1 h).2.2
  intro n hn
  simp only [bes, List.mem_append, List.mem_cons, List.not_mem_nil, or_false] at hn
  rcases hn with hn | hn
  · omega
  · have := dv_lt _ (all_sub dg q.data.toList _ _ ha) n hn
    omega
def mix (f : Int) (L : List Nat) (q : ByteArray) : List Nat := if f = 1 then L else zx L (bes q)
/-- formats -/
def kn (f : Int) : Bool := decide (f = 0) || decide (f = 1) || decide (f = 3)
theorem kn_iff (f : Int) : kn f = true ↔ f = 0 ∨ f = 1 ∨ f = 3 := by simp [kn, or_assoc]
def qB (f : Int) (q : ByteArray) : Bool := decide (f = 1) || panB q
theorem mix_len (f : Int) (L : List Nat) (q : ByteArray) (h : qB f q = true) (hL : L.length = 16) : (mix f L q).length = 16 := by
  unfold mix
  split
  · exact hL
  · rename_i hf
    have hq : panB q = true := by simpa [qB, hf] using h
    rw [zx_len _ _ (by rw [hL, bes_len q hq]), hL]
theorem mix_lt (f : Int) (L : List Nat) (q : ByteArray) (h : qB f q = true) (hL : ∀ n ∈ L, n < 16) : ∀ n ∈ mix f L q, n < 16 := by
  unfold mix
  split
  · exact hL
  · rename_i hf
    have hq : panB q = true := by simpa [qB, hf] using h
    exact zx_lt _ _ hL (bes_lt q hq)
theorem mix_mix (f : Int) (L : List Nat) (q : ByteArray) (h : qB f q = true) (hL : L.length = 16) : mix f (mix f L q) q = L := by
  unfold mix
  split
  · rfl
  · rename_i hf
    have hq : panB q = true := by simpa [qB, hf] using h
    exact zx_zx _ _ (by rw [hL, bes_len q hq])
/-- from where on a half may fill -/
def flr (f : Int) : Nat := if f = 0 then 15 else if f = 3 then 10 else 0
def fc (f : Int) (c : UInt8) : Bool := isSix c && decide (flr f ≤ (six c).toNat)
def fillB (f : Int) (fill : ByteArray) (n : Int) : Bool := if f = 0 then decide (fill.size = 0) else decide ((fill.size : Int) = n) && fill.data.toList.all (fc f)
def lay (f : Int) (p fill : ByteArray) : List Nat := [f.toNat, p.size] ++ dvL p.data.toList ++ (if f = 0 then List.replicate (14 - p.size) 15 else svL fill.data.toList)
def none8 : ByteArray := ⟨#[]⟩
def blockR (f : Int) (p q fill : ByteArray) : ByteArray × Int :=
  if kn f = false then (none8, 61) else if pinB p = false then (none8, 60) else if qB f q = false then (none8, 50)
  else if fillB f fill (14 - p.size) = false then (none8, 62) else (⟨(pk (mix f (lay f p fill) q)).toArray⟩, 0)
theorem lay_len (f : Int) (p fill : ByteArray) (hp : pinB p = true) (hf : fillB f fill (14 - p.size) = true) : (lay f p fill).length = 16 := by
  have h := (pinB_iff p).1 hp
  unfold fillB at hf
  unfold lay
  split
  · rename_i h0
    simp only [List.length_append, dv_len, List.length_replicate, sz, List.length_cons, List.length_nil]; omega
  · rename_i h0
    rw [if_neg h0, Bool.and_eq_true, decide_eq_true_eq] at hf
    have := hf.1
    simp only [List.length_append, dv_len, sv_len, sz, List.length_cons, List.length_nil]; omega
theorem lay_lt (f : Int) (p fill : ByteArray) (hk : kn f = true) (hp : pinB p = true) : ∀ n ∈ lay f p fill, n < 16 := by
  have h := (pinB_iff p).1 hp
  have hf := (kn_iff f).1 hk
  intro n hn
  unfold lay at hn
  simp only [List.mem_append, List.mem_cons, List.not_mem_nil, or_false] at hn
  rcases hn with (hn | hn) | hn
  · omega
  · have := dv_lt _ h.2.2 n hn; omega
  · split at hn
    · have := List.eq_of_mem_replicate hn; omega
    · exact sv_lt _ n hn
/-- what halves tell -/
def readR (f : Int) (L : List Nat) : ByteArray × Int :=
  if L.getD 1 0 < 4 ∨ 12 < L.getD 1 0 then (none8, 60)
  else if ((L.drop 2).take (L.getD 1 0)).all (fun n => decide (n ≤ 9)) = true ∧ (L.drop (2 + L.getD 1 0)).all (fun n => decide (flr f ≤ n)) = true then (⟨(((L.drop 2).take (L.getD 1 0)).map hx).toArray⟩, 0)
  else (none8, 60)
def openR (f : Int) (b q : ByteArray) : ByteArray × Int :=
  if kn f = false ∨ b.size ≠ 8 ∨ (((b.data.toList.getD 0 0).toNat / 16 : Nat) : Int) ≠ f then (none8, 61)
  else if qB f q = false then (none8, 50)
  else readR f (mix f (nb b.data.toList) q)
end Go.Proofs.Ytciblmdpngnakaa.Pp
