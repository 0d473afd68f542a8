/- A book in memory; what of a card counts. -/
import Derived.Test.YtmaikkhemhonhaaDn
import Derived.Test.YtmaikkhemhonhaaDq
import Derived.Test.YtmaikkhemhonhaaDf
namespace Go.Proofs.Ytmaikkhemhonhaa.Dr
set_option linter.unusedVariables false
set_option linter.unusedSimpArgs false
open Go.RowKit Go.Maps Lib0 Kb Xp Da Db Dc Dd De Df Dh Di Dj Dk Dl Dm Dn Dp Dq
attribute [local go_sem] Oper.semAt_some
abbrev tStr : TypeId := 9
abbrev tMC : TypeId := 64
theorem lawS : Keyed Try.prog tStr := string_keyed Try.underlying9
def sk (c : ByteArray) : Lit := .string c.data.toList
theorem sk_key (c : ByteArray) : WideAt.IsKeyLit (sk c) := trivial
theorem sk_ne {c d : ByteArray} (h : c ≠ d) : sk c ≠ sk d := fun e => h (by
  unfold sk at e
  injection e with e
  have : c.data = d.data := Array.ext' e
  cases c; cases d; simp_all)
theorem key_s (c : ByteArray) (h : c.size ≤ maxLen) : keyOf Try.prog tStr (.string c) = some (sk c) := WideMaps.keyOf_string_mk Try.underlying9 h
theorem zeroR (w : World) : (zeroValue tP).run Try.prog w = .ok (.pointer none) w := by kernel_rfl
/-- the cards' map -/
structure Mp (D : DataW Value) (A : List Rc) : Prop where
  tidy : Maps.Tidy D
  has : ∀ l, Maps.has D l = true ↔ ∃ a ∈ A, sk a.card = l
  at_ : ∀ a ∈ A, ∀ z, D.atKey (sk a.card) z = .held (ptr a.gr)
  size : Maps.size D = A.length
  nd : A.Pairwise fun a c => a.card ≠ c.card
theorem Mp.perm {D : DataW Value} {A B : List Rc} (h : Mp D A) (p : B.Perm A) : Mp D B := ⟨h.tidy, fun l => by
  rw [h.has]
  exact ⟨fun ⟨a, ha, e⟩ => ⟨a, p.mem_iff.2 ha, e⟩, fun ⟨a, ha, e⟩ => ⟨a, p.mem_iff.1 ha, e⟩⟩, fun a ha => h.at_ a (p.mem_iff.1 ha), by rw [h.size, p.length_eq], (p.pairwise_iff (fun h e => h e.symm)).2 h.nd⟩
def Apart (a c : Rc) : Prop := a.gr ≠ c.gr ∧ a.gm ≠ c.gm ∧ a.gs ≠ c.gs ∧ ∀ g, a.rv.ownBlock = some g → c.rv.ownBlock ≠ some g
theorem Apart.symm {a c : Rc} (h : Apart a c) : Apart c a := ⟨h.1.symm, h.2.1.symm, h.2.2.1.symm, fun g h1 h2 => h.2.2.2 g h2 h1⟩
def bcs (most now gv : Int) (cm : Nat) (av : Value) : Array Value := #[.int .i64 most, .int .i64 now, .int .i64 gv, .map (some cm), av]
structure BkM (x : World) (base b : Nat) (most now gv : Int) (cm cn : Nat) (D : DataW Value) (av : Value) (A : List Rc) : Prop where
  hp : HpM x base b (bcs most now gv cm av) av A
  rb : ∀ a ∈ A, RB x base a
  apart : A.Pairwise Apart
  cards : x.ownsMap Try.prog tStr heldP cm cn D
  cma : ∀ a ∈ A, a.gm ≠ cm
  lowc : base ≤ cm
  mp : Mp D A
  cn : cn ≤ gv.toNat
theorem BkM.below {x y : World} {base b : Nat} {most now gv : Int} {cm cn : Nat} {D : DataW Value} {av : Value} {A : List Rc} (h : BkM x base b most now gv cm cn D av A) (k : Below x.heap.size x y) : BkM y base b most now gv cm cn D av A := by
  obtain ⟨es, cl, e, r⟩ := h.cards
  exact ⟨h.hp.below k, fun a ha => (h.rb a ha).below k, h.apart, ⟨es, cl, (k.block _ h.cards.lt).trans e, r⟩, h.cma, h.lowc, h.mp, h.cn⟩
theorem BkM.cells {x : World} {base b : Nat} {most now gv : Int} {cm cn : Nat} {D : DataW Value} {av : Value} {A : List Rc} (h : BkM x base b most now gv cm cn D av A) : x.cell? ⟨b, 0, none⟩ = some (.int .i64 most) ∧ x.cell? ⟨b, 1, none⟩ = some (.int .i64 now) ∧ x.cell? ⟨b, 2, none⟩ = some (.int .i64 gv) ∧ x.cell? ⟨b, 3, none⟩ = some (.map (some cm)) ∧ x.cell? ⟨b, 4, none⟩ = some av ∧ ∀ k, x.frozen? ⟨b, k, none⟩ = false := by
  have := h.hp.blk
  unfold bcs at this
  refine ⟨?_, ?_, ?_, ?_, ?_, fun k => ?_⟩ <;> simp [World.cell?, World.frozen?, this]
theorem BkM.rm {x : World} {base b : Nat} {most now gv : Int} {cm cn : Nat} {D : DataW Value} {av : Value} {A : List Rc} (h : BkM x base b most now gv cm cn D av A) {i : Nat} (hi : i < A.length) : RM x base A[i] i := ⟨h.hp.recs i hi, h.rb _ (List.getElem_mem hi)⟩
theorem look_rec {x : World} {cm cn : Nat} {D : DataW Value} {A : List Rc} (hc : x.ownsMap Try.prog tStr heldP cm cn D) (hm : Mp D A) {a : Rc} (ha : a ∈ A) (hs : a.card.size ≤ maxLen) : (Instr.lookup tMC (.map (some cm)) (.string a.card) false).run Try.prog x = .ok (ptr a.gr) x := by
  obtain ⟨v, ps, hrun, hv⟩ := hc.lookup lawS Try.underlying64 (zeroR x) (zd := .held (.pointer none)) (zp := []) rfl (key_s a.card hs)
  rw [hm.at_ a ha] at hv
  have : v = ptr a.gr := by
    cases v <;> simp [heldP, ptr] at hv ⊢
    exact hv.1
  rw [this] at hrun
  exact hrun
theorem look_no {x : World} {cm cn : Nat} {D : DataW Value} {A : List Rc} (hc : x.ownsMap Try.prog tStr heldP cm cn D) (hm : Mp D A) {c : ByteArray} (hn : ∀ a ∈ A, a.card ≠ c) (hs : c.size ≤ maxLen) : (Instr.lookup tMC (.map (some cm)) (.string c) false).run Try.prog x = .ok (.pointer none) x := by
  obtain ⟨v, ps, hrun, hv⟩ := hc.lookup lawS Try.underlying64 (zeroR x) (zd := .held (.pointer none)) (zp := []) rfl (key_s c hs)
  have hh : Maps.has D (sk c) = false := by
    cases h : Maps.has D (sk c) with
    | false => rfl
    | true =>
      obtain ⟨a, ha, e⟩ := (hm.has _).1 h
      exact absurd e (sk_ne (hn a ha))
  rw [Maps.atKey_of_not_has hh] at hv
  have : v = .pointer none := by
    cases v <;> simp [heldP] at hv ⊢
    exact hv.1
  rw [this] at hrun
  exact hrun
/-- approvals, in the order in which they were given -/
abbrev Ga := ByteArray × Ap
def lc (G : List Ga) (c : ByteArray) : List Ap := (G.filter fun g => decide (g.1 = c)).map Prod.snd
structure Gt (A : List Rc) (G : List Ga) : Prop where
  eq : ∀ a ∈ A, a.L = lc G a.card
  ne : ∀ a ∈ A, a.L ≠ []
  all : ∀ g ∈ G, ∃ a ∈ A, a.card = g.1
  sz : ∀ a ∈ A, a.card.size ≤ 1000000
structure St where
  most : Int
  now : Int
  gv : Int
  G : List Ga
structure Iv (S : St) : Prop where
  m0 : 1 ≤ S.most
  m1 : S.most ≤ 10000
  n0 : 0 ≤ S.now
  n1 : S.now ≤ 9223372036854775807
  g0 : 0 ≤ S.gv
  g1 : S.gv ≤ 900
  tk : ∀ g ∈ S.G, 0 ≤ g.2.2.2 ∧ g.2.2.2 ≤ S.now
  up : S.G.Pairwise fun x y => x.2.2.2 ≤ y.2.2.2
  am : ∀ g ∈ S.G, 0 ≤ g.2.2.1 ∧ g.2.2.1 ≤ 999999999999
  nu : S.G.Pairwise fun x y => x.2.1 < y.2.1
  nb : ∀ g ∈ S.G, 1 ≤ g.2.1 ∧ g.2.1 ≤ S.gv
/-- a book -/
def Bk (x : World) (base b : Nat) (S : St) (m : Nat) : Prop := ∃ cm cn D av A, BkM x base b S.most S.now S.gv cm cn D av A ∧ Gt A S.G ∧ Hp (kN A) A.length ∧ A.length = m ∧ Iv S
theorem Bk.below {x y : World} {base b : Nat} {S : St} {m : Nat} (h : Bk x base b S m) (k : Below x.heap.size x y) : Bk y base b S m := by
  obtain ⟨cm, cn, D, av, A, h1, h2⟩ := h
  exact ⟨cm, cn, D, av, A, h1.below k, h2⟩
theorem Bk.iv {x : World} {base b : Nat} {S : St} {m : Nat} (h : Bk x base b S m) : Iv S := by
  obtain ⟨cm, cn, D, av, A, h1, h2, h3, h4, h5⟩ := h
  exact h5
set_option maxRecDepth 100000 in
theorem len_any {w : World} {base b : Nat} {S : St} {m : Nat} (h : Bk w base b S m) : Calls Try.prog 16 #[.pointer (some ⟨b, 0, none⟩)] w fun e w' => e = .returned (.int .i64 (m : Int)) ∧ w' = w := by
  obtain ⟨cm, cn, D, av, A, h1, h2, h3, h4, h5⟩ := h
  obtain ⟨-, -, -, c3, -⟩ := h1.cells
  have hown := h1.cards
  have hs := h1.mp.size.trans h4
  clear h1 h2 h3 h4 h5
  go_enter Try.func16, Try.ntmps16
  go_wp2_with (first | (at_len; refine wpList_len_own _ rfl _ tMC rfl tStr tP Try.underlying64 heldP cm cn D rfl hown ?_; rw [hs]) | fail)
  go_ret
  exact ⟨rfl, rfl⟩
set_option maxRecDepth 100000 in
theorem used_any {w : World} {base b : Nat} {S : St} {m : Nat} (h : Bk w base b S m) (c : ByteArray) (hc : c.size ≤ 1000000) (win now : Int) (hw : 1 ≤ win ∧ win ≤ 100000) (hn : 0 ≤ now ∧ now ≤ 9223372036854775807) : Calls Try.prog 24 #[.pointer (some ⟨b, 0, none⟩), .string c, .int .i64 win, .int .i64 now] w fun e w' => e = .returned (.tuple #[.int .i64 ((la (lc S.G c) (now - win + 1)).length : Int), .int .i64 (uS (la (lc S.G c) (now - win + 1)))]) ∧ Below w.heap.size w w' := by
  obtain ⟨cm, cn, D, av, A, h1, h2, h3, h4, h5⟩ := h
  obtain ⟨-, -, -, c3, -⟩ := h1.cells
  obtain ⟨hw0, hw1⟩ := hw
  obtain ⟨hn0, hn1⟩ := hn
  have hcm : c.size ≤ maxLen := by unfold maxLen; omega
  by_cases hex : ∃ a ∈ A, a.card = c
  · obtain ⟨a, ha, rfl⟩ := hex
    obtain ⟨i, hi, rfl⟩ := List.getElem_of_mem ha
    have hlk := look_rec h1.cards h1.mp ha hcm
    have HU : Hid (Calls Try.prog 36 #[.pointer (some ⟨A[i].gr, 0, none⟩), .int .i64 (now - win + 1)] w fun e w' => e = .returned (.tuple #[.int .i64 ((la A[i].L (now - win + 1)).length : Int), .int .i64 (uS (la A[i].L (now - win + 1)))]) ∧ Below w.heap.size w w') := usedR_any (h1.rm hi) (now - win + 1)
    rw [h2.eq _ ha] at HU
    unfold ptr at hlk
    generalize (la (lc S.G A[i].card) (now - win + 1)).length = X at *
    generalize uS (la (lc S.G A[i].card) (now - win + 1)) = Y at *
    clear h1 h2 h3 h4 h5 ha hc hcm
    go_enter Try.func24, Try.ntmps24
    go_wp2_with fail
    refine HU.out.mono ?_
    rintro e y ⟨rfl, hy⟩
    go_wp2_with fail
    go_ret2
    exact ⟨rfl, hy⟩
  · have hno : ∀ a ∈ A, a.card ≠ c := fun a ha e => hex ⟨a, ha, e⟩
    have hlk := look_no h1.cards h1.mp hno hcm
    have hl : lc S.G c = [] := by
      unfold lc
      rw [List.map_eq_nil_iff, List.filter_eq_nil_iff]
      intro g hg hd
      obtain ⟨a, ha, e⟩ := h2.all g hg
      exact hno a ha (e.trans (of_decide_eq_true hd))
    rw [hl]
    have e1 : la [] (now - win + 1) = [] := rfl
    rw [e1]
    clear h1 h2 h3 h4 h5 hex hno hl e1 hc hcm
    go_enter Try.func24, Try.ntmps24
    go_wp2_with fail
    go_ret2
    exact ⟨rfl, Below.refl _ _⟩
end Go.Proofs.Ytmaikkhemhonhaa.Dr
