/- Slots: what lies in memory. -/
import Derived.Test.YtpifebapodfeaabTg
import Derived.Test.YtpifebapodfeaabSa
import Derived.Test.YtpifebapodfeaabLk
import Derived.Defers
namespace Go.Proofs.Ytpifebapodfeaab.Sd
set_option linter.unusedVariables false
open Go.RowKit Pla Cb Sm Wd Nw Bk Eb Et Cc Ch Pm Fp Sp Pe Se Tg
structure Held where
  alg : Nat
  m : Nat
  key : ByteArray
  ex : ByteArray
  round : Nat
structure Held.Ok (h : Held) : Prop where
  alg : h.alg = 1 ∨ h.alg = 3
  m : h.m = 1 ∨ h.m = 2
  key : h.key.size = 4 + 4 * h.alg
  ex : h.ex.size = 0 ∨ h.ex.size = 16
  round : h.round ≤ 999999999
/-- what a slot's three cells are -/
def Has (w : World) : Option Held → Value → Value → Value → Prop
  | Option.none, p, x, r => p = .pointer Option.none ∧ x = .pointer Option.none ∧ r = .int .i64 0
  | Option.some h, p, x, r => h.Ok ∧ r = .int .i64 (h.round : Int) ∧ (∃ g, p = .pointer (some ⟨g, 0, Option.none⟩) ∧ Sealed w g h.alg h.m h.key.data.toList) ∧ ((h.ex.size = 0 ∧ x = .pointer Option.none) ∨ (h.ex.size = 16 ∧ ∃ gx, x = .pointer (some ⟨gx, 0, Option.none⟩) ∧ Key w gx 2 h.ex.data.toList))
def Row (w : World) (d n : Nat) (f : Nat → Option Held) (A : Array Value) : Prop := A.size = 3 * n ∧ w.heap[d]? = some (.cells A 62) ∧ ∀ i, i < n → ∃ p x r, A[i * 3]? = some p ∧ A[i * 3 + 1]? = some x ∧ A[i * 3 + 2]? = some r ∧ Has w (f i) p x r
def Mu (w : World) (b d n : Nat) (k : Int) : Prop := w.heap[b]? = some (.cells #[.int .i32 k, .int .u32 0, .slice (some ⟨d, 0, Option.none⟩) n n] 55)
def Slots (w : World) (b d n : Nat) (f : Nat → Option Held) : Prop := Mu w b d n 0 ∧ 1 ≤ n ∧ n ≤ 32 ∧ ∃ A, Row w d n f A
/-- as it was, but for two blocks -/
def Fr (b d : Nat) (a w : World) : Prop := w.os = a.os ∧ w.tape = a.tape ∧ w.output = a.output ∧ a.heap.size ≤ w.heap.size ∧ ∀ k, k < a.heap.size → k ≠ b → k ≠ d → w.heap[k]? = a.heap[k]?
theorem Fr.refl (b d : Nat) (a : World) : Fr b d a a := ⟨rfl, rfl, rfl, Nat.le_refl _, fun _ _ _ _ => rfl⟩
theorem Fr.trans {b d : Nat} {a w x : World} (h : Fr b d a w) (k : Fr b d w x) : Fr b d a x :=
  ⟨k.1.trans h.1, k.2.1.trans h.2.1, k.2.2.1.trans h.2.2.1, Nat.le_trans h.2.2.2.1 k.2.2.2.1, fun i hi h1 h2 => (k.2.2.2.2 i (Nat.lt_of_lt_of_le hi h.2.2.2.1) h1 h2).trans (h.2.2.2.2 i hi h1 h2)⟩
theorem Fr.of {b d : Nat} {a w : World} (h : Below a.heap.size a w) : Fr b d a w := ⟨h.os, h.tape, h.output, h.size, fun k hk _ _ => h.block k hk⟩
theorem Fr.below {b d B : Nat} {a w : World} (h : Fr b d a w) (hb : B ≤ b) (hd : B ≤ d) (hB : B ≤ a.heap.size) : Below B a w :=
  ⟨h.1, h.2.1, h.2.2.1, h.2.2.2.1, fun k hk => h.2.2.2.2 k (by omega) (by omega) (by omega)⟩
theorem Fr.set1 (b d : Nat) (w : World) (o : Nat) (v : Value) : Fr b d w (w.setCell ⟨b, o, Option.none⟩ v) :=
  ⟨rfl, rfl, rfl, by simp [World.setCell], fun k _ h1 _ => Below.heap_setCell w ⟨b, o, Option.none⟩ v k h1⟩
theorem Fr.set2 (b d : Nat) (w : World) (o : Nat) (v : Value) : Fr b d w (w.setCell ⟨d, o, Option.none⟩ v) :=
  ⟨rfl, rfl, rfl, by simp [World.setCell], fun k _ _ h2 => Below.heap_setCell w ⟨d, o, Option.none⟩ v k h2⟩
theorem ne_of_type {w : World} {g b : Nat} {A B : Array Value} {t t' : TypeId} {fr fr' : Nat × Nat} (h1 : w.heap[g]? = some (.cells A t fr)) (h2 : w.heap[b]? = some (.cells B t' fr')) (ht : t ≠ t') : g ≠ b := by
  rintro rfl
  rw [h1] at h2
  injection h2 with h2
  injection h2 with h3 h4 h5
  exact ht h4
theorem Fr.keep {b d g : Nat} {a w : World} {o : Obj} (h : Fr b d a w) (hg : a.heap[g]? = some o) (h1 : g ≠ b) (h2 : g ≠ d) : w.heap[g]? = some o := (h.2.2.2.2 g (Array.getElem?_eq_some_iff.1 hg).1 h1 h2).trans hg
theorem Fr.key {b d n g K : Nat} {k : Int} {a w : World} {l : List UInt8} {A : Array Value} (h : Fr b d a w) (hm : Mu a b d n k) (hd : a.heap[d]? = some (.cells A 62)) (hk : Key a g K l) : Key w g K l :=
  h.keep hk (ne_of_type hk hm (by decide)) (ne_of_type hk hd (by decide))
theorem Fr.sealed {b d n g alg m : Nat} {k : Int} {a w : World} {key : List UInt8} {A : Array Value} (h : Fr b d a w) (hm : Mu a b d n k) (hd : a.heap[d]? = some (.cells A 62)) (hs : Sealed a g alg m key) : Sealed w g alg m key := by
  obtain ⟨g1, p2, h1, h2, h3⟩ := hs
  refine ⟨g1, p2, h.keep h1 (ne_of_type h1 hm (by decide)) (ne_of_type h1 hd (by decide)), h.key hm hd h2, fun e => ?_⟩
  obtain ⟨g2, e2, k2⟩ := h3 e
  exact ⟨g2, e2, h.key hm hd k2⟩
theorem Fr.has {b d n : Nat} {k : Int} {a w : World} {A : Array Value} (h : Fr b d a w) (hm : Mu a b d n k) (hd : a.heap[d]? = some (.cells A 62)) {o : Option Held} {p x r : Value} (hh : Has a o p x r) : Has w o p x r := by
  cases o with
  | none => exact hh
  | some hl =>
    obtain ⟨h1, h2, ⟨g, h3, h4⟩, h5⟩ := hh
    refine ⟨h1, h2, ⟨g, h3, h.sealed hm hd h4⟩, ?_⟩
    rcases h5 with h5 | ⟨h5, gx, h6, h7⟩
    · exact .inl h5
    · exact .inr ⟨h5, gx, h6, h.key hm hd h7⟩
theorem Fr.row {b d n : Nat} {k : Int} {a w : World} {A : Array Value} {f : Nat → Option Held} (h : Fr b d a w) (hm : Mu a b d n k) (hr : Row a d n f A) (hd : w.heap[d]? = some (.cells A 62)) : Row w d n f A :=
  ⟨hr.1, hd, fun i hi => by obtain ⟨p, x, r, h1, h2, h3, h4⟩ := hr.2.2 i hi; exact ⟨p, x, r, h1, h2, h3, h.has hm hr.2.1 h4⟩⟩
theorem Mu.ne {w : World} {b d n : Nat} {k : Int} {A : Array Value} (hm : Mu w b d n k) (hd : w.heap[d]? = some (.cells A 62)) : b ≠ d := ne_of_type hm hd (by decide)
/-- the lock's cells -/
theorem Mu.cells {w : World} {b d n : Nat} {k : Int} (h : Mu w b d n k) : w.cell? ⟨b, 0, Option.none⟩ = some (.int .i32 k) ∧ w.cell? ⟨b, 2, Option.none⟩ = some (.slice (some ⟨d, 0, Option.none⟩) n n) ∧ w.frozen? ⟨b, 0, Option.none⟩ = false := by
  refine ⟨?_, ?_, ?_⟩ <;> simp [World.cell?, World.frozen?, show w.heap[b]? = _ from h]
theorem Mu.set {w : World} {b d n : Nat} {k : Int} (h : Mu w b d n k) (k' : Int) : Mu (w.setCell ⟨b, 0, Option.none⟩ (.int .i32 k')) b d n k' := setCell_heap h 0 _
theorem lt_of_cell {w : World} {b o : Nat} {v : Value} (h : w.cell? ⟨b, o, Option.none⟩ = some v) : b < w.heap.size := by
  by_cases hb : b < w.heap.size
  · exact hb
  · exfalso
    have e : w.heap[b]? = Option.none := Array.getElem?_eq_none (by omega)
    simp [World.cell?, e] at h
theorem below_ne {a w : World} {b d n : Nat} {k : Int} (h : Below a.heap.size a w) (hm : Mu a b d n k) : Mu w b d n k := Cb.kept h hm
set_option maxRecDepth 100000 in
set_option maxHeartbeats 1600000 in
theorem at_in (b d n s : Nat) (hs : s < n) (hn : n ≤ 32) (w : World) (hc : w.cell? ⟨b, 2, Option.none⟩ = some (.slice (some ⟨d, 0, Option.none⟩) n n)) :
    Calls Try.prog 20 #[.pointer (some ⟨b, 0, Option.none⟩), .int .i64 (s : Int)] w fun e w' => e = .returned (.pointer (some ⟨d, s * 3, Option.none⟩)) ∧ w' = w := by
  have q0 : ¬ (s : Int) < 0 := by omega
  have q1 : ¬ (s : Int) ≥ (n : Int) := by omega
  have q2 : (s : Int) < (n : Int) := by omega
  have q3 : (0 : Int) ≤ (s : Int) := by omega
  go_enter Try.func20, Try.ntmps20
  go_wp2
  go_ret
  exact ⟨rfl, rfl⟩
theorem at_out (b d n : Nat) (a : Int) (ha : a < 0 ∨ (n : Int) ≤ a) (hn : n ≤ 32) (w : World) (hc : w.cell? ⟨b, 2, Option.none⟩ = some (.slice (some ⟨d, 0, Option.none⟩) n n)) :
    Calls Try.prog 20 #[.pointer (some ⟨b, 0, Option.none⟩), .int .i64 a] w fun e w' => e = .returned (.pointer Option.none) ∧ w' = w := by
  by_cases h0 : a < 0
  · go_enter Try.func20, Try.ntmps20
    go_wp2
    go_ret
    exact ⟨rfl, rfl⟩
  · have q1 : a ≥ (n : Int) := by omega
    have q2 : (n : Int) ≤ a := by omega
    clear ha
    go_enter Try.func20, Try.ntmps20
    go_wp2
    go_ret
    exact ⟨rfl, rfl⟩
/-- behind what only lays new blocks while the lock is held -/
theorem shut {w y : World} {b d n : Nat} {f : Nat → Option Held} {A : Array Value} (hm : Mu w b d n 0) (n1 : 1 ≤ n) (n2 : n ≤ 32) (hr : Row w d n f A)
    (hy : Below (w.setCell ⟨b, 0, Option.none⟩ (.int .i32 1)).heap.size (w.setCell ⟨b, 0, Option.none⟩ (.int .i32 1)) y) :
    Slots (y.setCell ⟨b, 0, Option.none⟩ (.int .i32 0)) b d n f ∧ Fr b d w (y.setCell ⟨b, 0, Option.none⟩ (.int .i32 0)) := by
  have hne := hm.ne hr.2.1
  have M2 : Mu y b d n 1 := Cb.kept hy (hm.set 1)
  have F := ((Fr.set1 b d w 0 (.int .i32 1)).trans (Fr.of hy)).trans (Fr.set1 b d y 0 (.int .i32 0))
  have d1 : (w.setCell ⟨b, 0, Option.none⟩ (.int .i32 1)).heap[d]? = some (.cells A 62) := (Below.heap_setCell w ⟨b, 0, Option.none⟩ _ d hne.symm).trans hr.2.1
  have d2 : (y.setCell ⟨b, 0, Option.none⟩ (.int .i32 0)).heap[d]? = some (.cells A 62) := (Below.heap_setCell y ⟨b, 0, Option.none⟩ _ d hne.symm).trans (Cb.kept hy d1)
  exact ⟨⟨M2.set 0, n1, n2, A, F.row hm hr d2⟩, F⟩
/-- the world behind Lock -/
theorem locked {w : World} {b d n : Nat} {f : Nat → Option Held} {A : Array Value} (hm : Mu w b d n 0) (hr : Row w d n f A) :
    Mu (w.setCell ⟨b, 0, Option.none⟩ (.int .i32 1)) b d n 1 ∧ Row (w.setCell ⟨b, 0, Option.none⟩ (.int .i32 1)) d n f A := by
  have hne := hm.ne hr.2.1
  have d1 : (w.setCell ⟨b, 0, Option.none⟩ (.int .i32 1)).heap[d]? = some (.cells A 62) := (Below.heap_setCell w ⟨b, 0, Option.none⟩ _ d hne.symm).trans hr.2.1
  exact ⟨hm.set 1, (Fr.set1 b d w 0 (.int .i32 1)).row hm hr d1⟩
open Go.MuLone in
set_option maxRecDepth 100000 in
set_option maxHeartbeats 1600000 in
theorem Tag_in (b d n s : Nat) (f : Nat → Option Held) (h : Held) (hs : s < n) (hf : f s = Option.some h) (text : ByteArray) (ht : text.size ≤ 1000000000) (w : World) (hS : Slots w b d n f) :
    Calls Try.prog 9 #[.pointer (some ⟨b, 0, Option.none⟩), .int .i64 (s : Int), .string text] w fun e w' => e = .returned (.tuple #[.string (tagB h.alg h.m h.key text), .int .i64 0]) ∧ Slots w' b d n f ∧ Fr b d w w' := by
  obtain ⟨hm, n1, n2, A, hr⟩ := hS
  have SH := fun y hy => shut (y := y) hm n1 n2 hr hy
  obtain ⟨m0, m2, mf⟩ := hm.cells
  obtain ⟨M1, R1⟩ := locked hm hr
  have LO := lock_free Lk.muLib ⟨b, 0, Option.none⟩ w m0 mf
  generalize w.setCell ⟨b, 0, Option.none⟩ (.int .i32 1) = W1 at *
  obtain ⟨p, x, r, a0, a1, a2, hh⟩ := R1.2.2 s hs
  rw [hf] at hh
  obtain ⟨ok, rfl, ⟨g, rfl, sg⟩, hx⟩ := hh
  have c0 : W1.cell? ⟨d, s * 3, Option.none⟩ = some (.pointer (some ⟨g, 0, Option.none⟩)) := by rw [cell_of_row W1 _ _ _ _ _ R1.2.1, a0]
  obtain ⟨k0, k2, kf⟩ := M1.cells
  have AT := fun y hy => at_in b d n s hs n2 y hy
  have TA := fun y hy => tag_any h.alg g h.m ok.alg ok.m h.key ok.key text ht y hy
  generalize tagB h.alg h.m h.key text = T at *
  generalize s * 3 = o at *
  clear hm hr R1 a0 a1 a2 hx ok hs
  go_enter_defers Try.func9, Try.ntmps9
  go_wp2_with (first
    | (go_at_call 18; refine LO.mono ?_; rintro e w' ⟨rfl, rfl⟩)
    | (go_at_call 20; refine (AT _ k2).mono ?_; rintro e w' ⟨rfl, rfl⟩)
    | (go_at_call 23; refine (TA _ sg).mono ?_; rintro e y ⟨rfl, hy⟩))
  have M2 := Cb.kept hy M1
  obtain ⟨j0, j2, jf⟩ := Mu.cells M2
  refine leaves_cons (f := 19) (args := #[.pointer (some ⟨b, 0, Option.none⟩)]) (by simp) (by simp [go_sem]) ?_
  refine (unlock_deferred Lk.muLib ⟨b, 0, Option.none⟩ .returning _ j0 jf).mono ?_
  rintro e u' w'' ⟨rfl, rfl, rfl⟩
  exact ⟨_, results_tmp2 rfl _ _ _, rfl, SH _ hy⟩
end Go.Proofs.Ytpifebapodfeaab.Sd
