/- A record in memory: one sheet; what of it counts. -/
import Derived.Test.YtmaikkhemhonhaaDd
import Derived.Maps.RangeWalk
import Derived.Maps.AppendAt
import Derived.OwnWalk
namespace Go.Proofs.Ytmaikkhemhonhaa.De
set_option linter.unusedVariables false
set_option linter.unusedSimpArgs false
open Go.RowKit Go.Maps Lib0 Kb Xp Da Db Dc Dd
attribute [local go_sem] Oper.semAt_some
abbrev tM : TypeId := 88
abbrev tPS : TypeId := 94
theorem law : Keyed Try.prog tI := int_keyed Try.underlying3
theorem key_of (n : Int) (h : I64 n) : keyOf Try.prog tI (.int .i64 n) = some (.int .i64 n) := keyOf_int_mk Try.underlying3 (WalkArith.wf_i64 (by have := h.1; have := h.2; omega))
def ptr (k : Nat) : Value := .pointer (some ⟨k, 0, none⟩)
/-- how a pointer reads -/
def heldP (v : Value) : Option (DataW Value × List MemPlace) :=
  match v with
  | .pointer p => some (.held (.pointer p), [])
  | _ => none
theorem heldP_inv (v : Value) (y : DataW Value × List MemPlace) (h : heldP v = some y) : ∃ c : Option Addr, v = .pointer c := by
  cases v <;> simp [heldP] at h
  exact ⟨_, rfl⟩
theorem zeroP (w : World) : (zeroValue tPS).run Try.prog w = .ok (.pointer none) w := by kernel_rfl
structure Rc where
  card : ByteArray
  gr : Nat
  gm : Nat
  gs : Nat
  rv : Value
  op : Int
  nm : Nat
  D : DataW Value
  L : List Ap
def lastN (L : List Ap) : Int := match L.getLast? with
  | some a => a.1
  | none => 0
/-- a map with one entry -/
structure One1 (D : DataW Value) (k : Int) (g : Nat) : Prop where
  tidy : Maps.Tidy D
  has : ∀ l, Maps.has D l = true ↔ l = .int .i64 k
  at_ : ∀ z, D.atKey (.int .i64 k) z = .held (ptr g)
  size : Maps.size D = 1
/-- what a record has besides its own block -/
structure RB (x : World) (base : Nat) (a : Rc) : Prop where
  own : x.ownsMap Try.prog tI heldP a.gm a.nm a.D
  one : One1 a.D a.op a.gs
  sh : ShM x base a.gs a.rv a.L
  lowm : base ≤ a.gm
  lowr : base ≤ a.gr
  op : I64 a.op
  up : Up a.L
  am : Am a.L
  len : a.L.length ≤ 999
  nm : a.nm ≤ 1000000
  opn : a.op ≠ 0
def rcs (a : Rc) (pl : Int) : Array Value := #[.string a.card, .map (some a.gm), .int .i64 a.op, .int .i64 (lastN a.L), .int .i64 pl]
def RM (x : World) (base : Nat) (a : Rc) (pl : Int) : Prop := x.heap[a.gr]? = some (.cells (rcs a pl) tR (0, 0)) ∧ RB x base a
theorem RB.below {x y : World} {base : Nat} {a : Rc} (h : RB x base a) (k : Below x.heap.size x y) : RB y base a := by
  obtain ⟨es, cl, e, r⟩ := h.own
  exact ⟨⟨es, cl, (k.block _ h.own.lt).trans e, r⟩, h.one, h.sh.below k, h.lowm, h.lowr, h.op, h.up, h.am, h.len, h.nm, h.opn⟩
theorem RM.below {x y : World} {base : Nat} {a : Rc} {pl : Int} (h : RM x base a pl) (k : Below x.heap.size x y) : RM y base a pl := ⟨kept k h.1, h.2.below k⟩
theorem RM.cells {x : World} {base : Nat} {a : Rc} {pl : Int} (h : RM x base a pl) : x.cell? ⟨a.gr, 0, none⟩ = some (.string a.card) ∧ x.cell? ⟨a.gr, 1, none⟩ = some (.map (some a.gm)) ∧ x.cell? ⟨a.gr, 2, none⟩ = some (.int .i64 a.op) ∧ x.cell? ⟨a.gr, 3, none⟩ = some (.int .i64 (lastN a.L)) ∧ x.cell? ⟨a.gr, 4, none⟩ = some (.int .i64 pl) ∧ ∀ k, x.frozen? ⟨a.gr, k, none⟩ = false := by
  have := h.1
  unfold rcs at this
  refine ⟨?_, ?_, ?_, ?_, ?_, fun k => ?_⟩ <;> simp [World.cell?, World.frozen?, this]
theorem infoTy : ∃ i, Try.prog.info? 101 = some i ∧ i.zero = some (.agg #[.int .i64 0, .int .i64 0]) ∧ i.size = 2 ∧ i.bytes = 16 := by
  have h : (Try.prog.info? 101).map (fun i => (i.zero, i.size, i.bytes)) = some (some (.agg #[.int .i64 0, .int .i64 0]), 2, 16) := by kernel_rfl
  cases e : Try.prog.info? 101 with
  | none => rw [e] at h; cases h
  | some i => rw [e] at h; simp at h; exact ⟨i, rfl, h.1, h.2.1, h.2.2⟩
/-- what is added up of a row of one tally -/
theorem total1_any (fn : FuncId) (g cap : Nat) (c s r : Int) (w : World) (hb : w.cell? ⟨g, 0, none⟩ = some (.int .i64 c) ∧ w.cell? ⟨g, 1, none⟩ = some (.int .i64 s)) (hr : I64 r)
    (hf : ∀ y, Calls Try.prog fn #[.agg #[.int .i64 c, .int .i64 s]] y fun e w' => e = .returned (.int .i64 r) ∧ Below y.heap.size y w') (eg : ∀ args w, (callFunc fn args).run Try.prog w = .ok (.enter fn args) w) :
    Calls Try.prog 47 #[.slice (some ⟨g, 0, none⟩) 1 cap, .func (.func fn) #[] #[]] w fun e w' => e = .returned (.int .i64 r) ∧ Below w.heap.size w w' := by
  obtain ⟨c0, c1⟩ := hb
  have HF : Hid (∀ y, Calls Try.prog fn #[.agg #[.int .i64 c, .int .i64 s]] y fun e w' => e = .returned (.int .i64 r) ∧ Below y.heap.size y w') := hf
  have HB1 : Hid (Below w.heap.size w (w.alloc (.cells #[.int .i64 c, .int .i64 s] 101))) := below_one _ _
  obtain ⟨r0, r1⟩ := hr
  clear hf
  go_enter Try.func47, Try.ntmps47
  go_wp2_with fail
  go_loopw [10, 5, 7] (fun iv sv _ wr => (iv = .int .i64 0 ∧ sv = .int .i64 0 ∧ wr = w) ∨ (iv = .int .i64 1 ∧ sv = .int .i64 r ∧ Hid (Below w.heap.size w wr))) (fun iv _ _ _ => 2 - (intOf iv).toNat)
  case atStart => exact .inl ⟨rfl, rfl, rfl⟩
  case round =>
    rcases hrel with ⟨rfl, rfl, rfl⟩ | ⟨rfl, rfl, HW⟩
    · go_wp2_with (go_at_fn fn; refine (HF.out _).mono ?_; rintro e w' ⟨rfl, hw'⟩)
      refine ⟨.inr ⟨by simp, by simp [wrap_64 r r0 r1], keepB HB1.out hw'⟩, ?_⟩
      simp [intOf]
    · go_wp2_with fail
      go_ret
      exact ⟨rfl, HW.out⟩
end Go.Proofs.Ytmaikkhemhonhaa.De
