/- Frames: two Streams, the document's two, and a book, side by side. -/
import Derived.Test.YtfoddooehanemaaEe
import Derived.Test.YtfoddooehanemaaEa
import Derived.Test.YtfoddooehanemaaDe
namespace Go.Proofs.Ytfoddooehanemaa.Ef
set_option linter.unusedVariables false
set_option linter.unusedSimpArgs false
open Go.RowKit Lib0 Kb Fa Fb Fc Fm Fe Ff Fg Fk Fu Fv Eb Ec Da Db Dc De
/-- the block is of that type -/
def Ty (y : World) (q : Nat) (t : TypeId) : Prop := ∃ cs fz, y.heap[q]? = some (.cells cs t fz)
theorem ty_ne {y : World} {p q : Nat} {t u : TypeId} (h : Ty y p t) (k : Ty y q u) (hn : t ≠ u) : p ≠ q := by
  rintro rfl
  obtain ⟨cs, fz, h⟩ := h
  obtain ⟨cs2, fz2, k⟩ := k
  rw [h] at k
  injection k with k
  injection k with _ k _
  exact hn k
theorem ty_lt {y : World} {q : Nat} {t : TypeId} (h : Ty y q t) : q < y.heap.size := by
  obtain ⟨cs, fz, h⟩ := h
  exact (Array.getElem?_eq_some_iff.1 h).1
theorem lie_ty {y : World} {g h m : Nat} {st : St} {i : Nat} {bb : Option Nat} (L : Lie y g h m st i bb) : Ty y g 70 ∧ ∀ q, bb = some q → Ty y q 5 := by
  obtain ⟨a, b, c, d, body, t, e, S, LS⟩ := L
  refine ⟨⟨_, _, S⟩, fun q hq => ?_⟩
  cases st with
  | hdr l => rw [LS.1] at hq; cases hq
  | bod k l =>
    obtain ⟨gp, z, h1, _, _, hz, _⟩ := LS
    rw [h1] at hq; cases hq
    exact ⟨_, _, hz⟩
  | brk e => rw [LS.1] at hq; cases hq
theorem dm_ty {y : World} {g h m : Nat} {S : ByteArray} {t i : Nat} (D : Dm y g h m S t i) : Ty y g 72 := ⟨_, _, D⟩
theorem non_ty {y : World} {q : Nat} {t : TypeId} (h : Ty y q t) (h1 : t ≠ 9) (h2 : t ≠ 78) (h3 : t ≠ 34) : Non y q := by
  intro cs u fz hu
  obtain ⟨cs2, fz2, h⟩ := h
  rw [h] at hu
  injection hu with hu
  injection hu with _ hu _
  subst hu
  exact ⟨h1, h2, h3⟩
theorem dm_fr {y y' : World} {g h m : Nat} {S : ByteArray} {t i : Nat} {X : List Nat} (D : Dm y g h m S t i) (f : Fr X y y') (hX : g ∉ X) : Dm y' g h m S t i := D.keep (f.block g D.lt hX)
theorem own_ty {y : World} {B e s n : Nat} {v : Value} {xs : List Value} (h : y.ownsRow B e s v n xs) (q : Nat) (hq : v.ownBlock = some q) : Ty y q e := by
  rcases h.2 with ⟨rfl, _⟩ | ⟨g, cap, cur, rfl, _, hg, _⟩
  · cases hq
  · cases hq; exact ⟨_, _, hg⟩
theorem run_shift (h m : Nat) (st : St) (i j : Nat) (b : List UInt8) : run h m ⟨st, i + j, []⟩ b = ⟨(run h m ⟨st, j, []⟩ b).st, i + (run h m ⟨st, j, []⟩ b).idle, (run h m ⟨st, j, []⟩ b).out⟩ := by
  have := run_addI h m i b ⟨st, j, []⟩
  exact this
theorem own_base {y : World} {B B' e s n : Nat} {v : Value} {xs : List Value} (h : y.ownsRow B e s v n xs) (hb : B' ≤ B) : y.ownsRow B' e s v n xs := by
  refine ⟨h.1, ?_⟩
  rcases h.2 with h1 | ⟨g, cap, cur, h1, h2, h3⟩
  · exact .inl h1
  · exact .inr ⟨g, cap, cur, h1, by omega, h3⟩
/-- a row stays where blocks of another type change -/
theorem own_tyk {y y' : World} {B e s n : Nat} {v : Value} {xs : List Value} {X : List Nat} (h : y.ownsRow B e s v n xs) (f : Fr X y y') (hX : ∀ q ∈ X, ∃ t, Ty y q t ∧ t ≠ e) : y'.ownsRow B e s v n xs :=
  own_keep h fun p cur hp _ hc => f.block p (Array.getElem?_eq_some_iff.1 hc).1 (fun hm => by
    obtain ⟨t, ht, hn⟩ := hX p hm
    exact ty_ne ht ⟨_, _, hc⟩ hn rfl)
theorem inb_mk9 {y : World} {gl : Nat} {s : ByteArray} (h : y.heap[gl]? = some (.cells (bs (Ea.mk9 s)).toArray 5)) : Inb y gl 0 s.data.toList := by
  intro j u hj
  have hjl := (List.getElem?_eq_some_iff.1 hj).1
  unfold World.cell?
  rw [h]
  have : (Ea.mk9 s)[j]? = some u := by unfold Ea.mk9; rw [List.getElem?_append_left hjl]; exact hj
  simp [bs, this]
/-- one pair: the program's Stream and the document's -/
structure Pr (w y : World) (g d h m : Nat) (S : ByteArray) (i : Nat) (bb : Option Nat) : Prop where
  lie : Lie y g h m (Fnl h m S).st (i + (Fnl h m S).idle) bb
  dm : Dm y d h m S (Fnl h m S).out.length i
  gl : w.heap.size ≤ g
  dl : w.heap.size ≤ d
  bl : ∀ q, bb = some q → w.heap.size ≤ q
section
variable {w y y' : World} {g d h m : Nat} {S : ByteArray} {i : Nat} {bb : Option Nat}
theorem Pr.below (P : Pr w y g d h m S i bb) (k : Below y.heap.size y y') : Pr w y' g d h m S i bb :=
  ⟨P.lie.below k, P.dm.below k P.dm.lt, P.gl, P.dl, P.bl⟩
theorem Pr.fr {X : List Nat} (P : Pr w y g d h m S i bb) (f : Fr X y y') (h1 : g ∉ X) (h2 : d ∉ X) (h3 : ∀ q, bb = some q → q ∉ X) : Pr w y' g d h m S i bb :=
  ⟨P.lie.fr f h1 h3, dm_fr P.dm f h2, P.gl, P.dl, P.bl⟩
/-- blocks of other types do not touch a pair -/
theorem Pr.ty {X : List Nat} (P : Pr w y g d h m S i bb) (f : Fr X y y') (hX : ∀ q ∈ X, ∃ t, Ty y q t ∧ t ≠ 70 ∧ t ≠ 5 ∧ t ≠ 72) : Pr w y' g d h m S i bb := by
  obtain ⟨t1, t2⟩ := lie_ty P.lie
  have t3 := dm_ty P.dm
  refine P.fr f (fun hm => ?_) (fun hm => ?_) (fun q hq hm => ?_)
  · obtain ⟨t, ht, n1, n2, n3⟩ := hX g hm
    exact ty_ne ht t1 n1 rfl
  · obtain ⟨t, ht, n1, n2, n3⟩ := hX d hm
    exact ty_ne ht t3 n3 rfl
  · obtain ⟨t, ht, n1, n2, n3⟩ := hX q hm
    exact ty_ne ht (t2 q hq) n2 rfl
theorem Pr.blk (P : Pr w y g d h m S i bb) : ∀ q ∈ g :: bb.toList, ∃ t, Ty y q t ∧ (t = 70 ∨ t = 5) := by
  intro q hq
  obtain ⟨t1, t2⟩ := lie_ty P.lie
  rcases List.mem_cons.1 hq with rfl | h
  · exact ⟨_, t1, .inl rfl⟩
  · exact ⟨_, t2 q (by simpa using h), .inr rfl⟩
theorem Pr.non (P : Pr w y g d h m S i bb) : ∀ q ∈ g :: bb.toList, Non y q := by
  intro q hq
  obtain ⟨t, ht, h1 | h1⟩ := P.blk q hq
  · subst h1; exact non_ty ht (by decide) (by decide) (by decide)
  · subst h1; exact non_ty ht (by decide) (by decide) (by decide)
theorem Pr.lo (P : Pr w y g d h m S i bb) : ∀ q ∈ g :: bb.toList, w.heap.size ≤ q := by
  intro q hq
  rcases List.mem_cons.1 hq with rfl | h
  · exact P.gl
  · exact P.bl q (by simpa using h)
end
theorem below_fr {w y x : World} {B : List Nat} (hb : Below w.heap.size w y) (f : Fr B y x) (hB : ∀ q ∈ B, w.heap.size ≤ q) : Below w.heap.size w x :=
  ⟨f.os.trans hb.os, f.tape.trans hb.tape, f.output.trans hb.output, Nat.le_trans hb.size f.size, fun k hk => (f.block k (Nat.lt_of_lt_of_le hk hb.size) (fun hm => by have := hB k hm; omega)).trans (hb.block k hk)⟩
/-- all that stands while the script is played -/
structure LI (w y : World) (g0 : Nat) (bv : Value) (E : List En) (h m n g1 d1 : Nat) (S1 : ByteArray) (i1 : Nat) (bb1 : Option Nat) (g2 d2 : Nat) (S2 : ByteArray) (i2 : Nat) (bb2 : Option Nat) : Prop where
  p1 : Pr w y g1 d1 h m S1 i1 bb1
  p2 : Pr w y g2 d2 h m S2 i2 bb2
  bk : Bk y w.heap.size g0 bv E
  bel : Below w.heap.size w y
  gn : g1 ≠ g2
  dn : d1 ≠ d2
  bn : ∀ q, bb1 = some q → bb2 ≠ some q
  s1 : i1 + S1.size ≤ n * 1048576
  s2 : i2 + S2.size ≤ n * 1048576
  en : E.length ≤ n
  es : ∀ e ∈ E, e.2.2.length ≤ 1048576
section
variable {w y y' : World} {g0 : Nat} {bv : Value} {E : List En} {h m n g1 d1 : Nat} {S1 : ByteArray} {i1 : Nat} {bb1 : Option Nat} {g2 d2 : Nat} {S2 : ByteArray} {i2 : Nat} {bb2 : Option Nat}
theorem LI.swap (I : LI w y g0 bv E h m n g1 d1 S1 i1 bb1 g2 d2 S2 i2 bb2) : LI w y g0 bv E h m n g2 d2 S2 i2 bb2 g1 d1 S1 i1 bb1 :=
  ⟨I.p2, I.p1, I.bk, I.bel, I.gn.symm, I.dn.symm, fun q hq hq2 => I.bn q hq2 hq, I.s2, I.s1, I.en, I.es⟩
theorem LI.below (I : LI w y g0 bv E h m n g1 d1 S1 i1 bb1 g2 d2 S2 i2 bb2) (k : Below y.heap.size y y') : LI w y' g0 bv E h m n g1 d1 S1 i1 bb1 g2 d2 S2 i2 bb2 :=
  ⟨I.p1.below k, I.p2.below k, I.bk.below k, Kb.keepB I.bel k, I.gn, I.dn, I.bn, I.s1, I.s2, I.en, I.es⟩
theorem LI.next (I : LI w y g0 bv E h m n g1 d1 S1 i1 bb1 g2 d2 S2 i2 bb2) : LI w y g0 bv E h m (n + 1) g1 d1 S1 i1 bb1 g2 d2 S2 i2 bb2 :=
  ⟨I.p1, I.p2, I.bk, I.bel, I.gn, I.dn, I.bn, Nat.le_trans I.s1 (Nat.mul_le_mul_right _ (Nat.le_succ n)), Nat.le_trans I.s2 (Nat.mul_le_mul_right _ (Nat.le_succ n)), Nat.le_succ_of_le I.en, I.es⟩
/-- Reset of the first pair, the program's first -/
theorem LI.reset (I : LI w y g0 bv E h m n g1 d1 S1 i1 bb1 g2 d2 S2 i2 bb2) {ya yb : World} (La : Lie ya g1 h m (.hdr []) (i1 + (Fnl h m S1).idle) none) (fa : Fr [g1] y ya) (Db : Dm yb d1 h m ⟨#[]⟩ 0 (i1 + (Fnl h m S1).idle)) (fb : Fr [d1] ya yb) : LI w yb g0 bv E h m n g1 d1 ⟨#[]⟩ (i1 + (Fnl h m S1).idle) none g2 d2 S2 i2 bb2 := by
  have tg1 := lie_ty I.p1.lie
  have tg2 := lie_ty I.p2.lie
  have td1 := dm_ty I.p1.dm
  have td2 := dm_ty I.p2.dm
  have hgd : g1 ≠ d1 := ty_ne tg1.1 td1 (by decide)
  have hd1 : Ty ya d1 72 := ⟨_, _, (fa.block d1 (ty_lt td1) (by simp; exact hgd.symm)).trans I.p1.dm⟩
  have p2a : Pr w ya g2 d2 h m S2 i2 bb2 := I.p2.fr fa (by simp; exact I.gn.symm) (by simp; exact (ty_ne tg1.1 td2 (by decide)).symm) (fun q hq => by simp; exact (ty_ne tg1.1 (tg2.2 q hq) (by decide)).symm)
  have bka := I.bk.fr fa (by intro q hq; rw [List.mem_singleton.1 hq]; exact non_ty tg1.1 (by decide) (by decide) (by decide))
  have hg2a := lie_ty p2a.lie
  have p2b : Pr w yb g2 d2 h m S2 i2 bb2 := p2a.fr fb (by simp; exact (ty_ne hd1 hg2a.1 (by decide)).symm) (by simp; exact I.dn.symm) (fun q hq => by simp; exact (ty_ne hd1 (hg2a.2 q hq) (by decide)).symm)
  have hz : (Fnl h m ⟨#[]⟩) = ⟨.hdr [], 0, []⟩ := rfl
  have hcn := run_cnt h m S1.data.toList ⟨.hdr [], 0, []⟩
  have hsl : S1.data.toList.length = S1.size := rfl
  refine ⟨⟨?_, ?_, I.p1.gl, I.p1.dl, fun q hq => (by cases hq)⟩, p2b, bka.fr fb (by intro q hq; rw [List.mem_singleton.1 hq]; exact non_ty hd1 (by decide) (by decide) (by decide)), below_fr (below_fr I.bel fa (by intro q hq; rw [List.mem_singleton.1 hq]; exact I.p1.gl)) fb (by intro q hq; rw [List.mem_singleton.1 hq]; exact I.p1.dl), I.gn, I.dn, fun q hq => (by cases hq), ?_, I.s2, I.en, I.es⟩
  · rw [hz]
    exact La.fr fb (by simp; exact hgd) (fun q hq => (by cases hq))
  · rw [hz]; exact Db
  · have h1 := I.s1
    have h2 : (Fnl h m S1).idle ≤ S1.size := by
      have := hcn.1
      rw [hsl] at this
      simpa [Fnl] using this
    have h3 : (⟨#[]⟩ : ByteArray).size = 0 := rfl
    omega
/-- Feed of the first pair: lent bytes, the program, the document, the owner writes over them, the book takes both lists -/
theorem LI.feed (I : LI w y g0 bv E h m n g1 d1 S1 i1 bb1 g2 d2 S2 i2 bb2) (b : ByteArray) (hb : b.size ≤ 1048576) {ya yb yc : World} {gl : Nat} {bb' : Option Nat}
    (hgl : Ty y gl 5) (hg1 : w.heap.size ≤ gl) (hgb : ∀ q, bb1 = some q → q ≠ gl) (hgb2 : ∀ q, bb2 = some q → q ≠ gl)
    (La : Lie ya g1 h m (got h m S1 b).st (i1 + (got h m S1 b).idle) bb') (nb : ∀ q, bb' = some q → bb1 = some q ∨ y.heap.size ≤ q) (fa : Fr (g1 :: bb1.toList) y ya)
    (Db : Dm yb d1 h m (nxt h m S1 b) (Fnl h m (nxt h m S1 b)).out.length i1) (fb : Fr [d1] ya yb) (fc : Fr [gl] yb yc) : LI w yc g0 bv E h m (n + 1) g1 d1 (nxt h m S1 b) i1 bb' g2 d2 S2 i2 bb2 := by
  have tg1 := lie_ty I.p1.lie
  have tg2 := lie_ty I.p2.lie
  have td1 := dm_ty I.p1.dm
  have td2 := dm_ty I.p2.dm
  have hgd : g1 ≠ d1 := ty_ne tg1.1 td1 (by decide)
  have mem1 : ∀ q, q ∈ g1 :: bb1.toList → q = g1 ∨ bb1 = some q := fun q hq => (List.mem_cons.1 hq).elim .inl (fun h => .inr (by simpa using h))
  have hd1n : d1 ∉ g1 :: bb1.toList := fun hm => (mem1 _ hm).elim (fun e => hgd e.symm) (fun e => ty_ne (tg1.2 _ e) td1 (by decide) rfl)
  have hgln : gl ∉ g1 :: bb1.toList := fun hm => (mem1 _ hm).elim (fun e => ty_ne tg1.1 hgl (by decide) e.symm) (fun e => hgb _ e rfl)
  have p2a : Pr w ya g2 d2 h m S2 i2 bb2 := I.p2.fr fa (fun hm => (mem1 _ hm).elim (fun e => I.gn e.symm) (fun e => ty_ne (tg1.2 _ e) tg2.1 (by decide) rfl)) (fun hm => (mem1 _ hm).elim (fun e => ty_ne tg1.1 td2 (by decide) e.symm) (fun e => ty_ne (tg1.2 _ e) td2 (by decide) rfl)) (fun q hq hm => (mem1 _ hm).elim (fun e => ty_ne tg1.1 (tg2.2 q hq) (by decide) e.symm) (fun e => I.bn q e hq))
  have bka := I.bk.fr fa I.p1.non
  have td1a : Ty ya d1 72 := ⟨_, _, (fa.block d1 (ty_lt td1) hd1n).trans I.p1.dm⟩
  have tgla : Ty ya gl 5 := by
    obtain ⟨cs, fz, hc⟩ := hgl
    exact ⟨cs, fz, (fa.block gl (Array.getElem?_eq_some_iff.1 hc).1 hgln).trans hc⟩
  have tLa := lie_ty La
  have hg2a := lie_ty p2a.lie
  have hgl1 : gl ≠ d1 := ty_ne tgla td1a (by decide)
  have Lb : Lie yb g1 h m (got h m S1 b).st (i1 + (got h m S1 b).idle) bb' := La.fr fb (by simp; exact hgd) (fun q hq => by simp; exact ty_ne (tLa.2 q hq) td1a (by decide))
  have p2b : Pr w yb g2 d2 h m S2 i2 bb2 := p2a.fr fb (by simp; exact (ty_ne td1a hg2a.1 (by decide)).symm) (by simp; exact I.dn.symm) (fun q hq => by simp; exact (ty_ne td1a (hg2a.2 q hq) (by decide)).symm)
  have bkb := bka.fr fb (by intro q hq; rw [List.mem_singleton.1 hq]; exact non_ty td1a (by decide) (by decide) (by decide))
  have tglb : Ty yb gl 5 := by
    obtain ⟨cs, fz, hc⟩ := tgla
    exact ⟨cs, fz, (fb.block gl (Array.getElem?_eq_some_iff.1 hc).1 (by simp; exact hgl1)).trans hc⟩
  have hgg1 : g1 ≠ gl := ty_ne tg1.1 hgl (by decide)
  have hlt := ty_lt hgl
  have Lc : Lie yc g1 h m (got h m S1 b).st (i1 + (got h m S1 b).idle) bb' := Lb.fr fc (by simp; exact hgg1) (fun q hq => by
    simp
    rcases nb q hq with e | e
    · exact hgb q e
    · omega)
  have Dc : Dm yc d1 h m (nxt h m S1 b) (Fnl h m (nxt h m S1 b)).out.length i1 := dm_fr Db fc (by simp; exact hgl1.symm)
  have p2c : Pr w yc g2 d2 h m S2 i2 bb2 := p2b.fr fc (by simp; exact ty_ne tg2.1 hgl (by decide)) (by simp; exact ty_ne td2 hgl (by decide)) (fun q hq => by simp; exact hgb2 q hq)
  have bkc := bkb.fr fc (by intro q hq; rw [List.mem_singleton.1 hq]; exact non_ty tglb (by decide) (by decide) (by decide))
  have fn := fin_nxt h m S1 b
  have hns : (nxt h m S1 b).size ≤ S1.size + b.size := by
    unfold nxt
    split
    · rw [ByteArray.size_append]; exact Nat.le_refl _
    · omega
  have hs1 := I.s1
  have hws := I.bel.size
  refine ⟨⟨by rw [fn.1, fn.2]; exact Lc, Dc, I.p1.gl, I.p1.dl, fun q hq => (nb q hq).elim (fun e => I.p1.bl q e) (fun e => by omega)⟩, p2c, bkc, below_fr (below_fr (below_fr I.bel fa I.p1.lo) fb (by intro q hq; rw [List.mem_singleton.1 hq]; exact I.p1.dl)) fc (by intro q hq; rw [List.mem_singleton.1 hq]; exact hg1), I.gn, I.dn, fun q hq hq2 => ?_, ?_, Nat.le_trans I.s2 (Nat.mul_le_mul_right _ (Nat.le_succ n)), Nat.le_succ_of_le I.en, I.es⟩
  · rcases nb q hq with e | e
    · exact I.bn q e hq2
    · have := (I.p2.lie.blt q hq2).1
      omega
  · rw [Nat.succ_mul]; omega
theorem LI.takes (I : LI w y g0 bv E h m n g1 d1 S1 i1 bb1 g2 d2 S2 i2 bb2) {bv' : Value} {e : En} (K : Bk y' w.heap.size g0 bv' (E ++ [e])) (f : Fr (g0 :: bv.ownBlock.toList) y y') (hn : E.length + 1 ≤ n) (he : e.2.2.length ≤ 1048576) : LI w y' g0 bv' (E ++ [e]) h m n g1 d1 S1 i1 bb1 g2 d2 S2 i2 bb2 := by
  have mem0 : ∀ q, q ∈ g0 :: bv.ownBlock.toList → q = g0 ∨ bv.ownBlock = some q := fun q hq => (List.mem_cons.1 hq).elim .inl (fun h => .inr (by simpa using h))
  have hX : ∀ q ∈ g0 :: bv.ownBlock.toList, ∃ t, Ty y q t ∧ t ≠ 70 ∧ t ≠ 5 ∧ t ≠ 72 := by
    intro q hq
    rcases mem0 q hq with rfl | e
    · exact ⟨_, ⟨_, _, I.bk.book⟩, by decide, by decide, by decide⟩
    · exact ⟨_, own_ty I.bk.row q e, by decide, by decide, by decide⟩
  refine ⟨I.p1.ty f hX, I.p2.ty f hX, K, below_fr I.bel f (fun q hq => ?_), I.gn, I.dn, I.bn, I.s1, I.s2, by rw [List.length_append]; exact hn, fun e' he' => ?_⟩
  · rcases mem0 q hq with rfl | e
    · exact I.bk.lo
    · exact (own_lo I.bk.row q e).1
  · rcases List.mem_append.1 he' with h | h
    · exact I.es e' h
    · rw [List.mem_singleton.1 h]; exact he
/-- apart leaves the pairs alone -/
theorem LI.apart (I : LI w y g0 bv E h m n g1 d1 S1 i1 bb1 g2 d2 S2 i2 bb2) (f : Fr (obs E) y y') : Pr w y' g1 d1 h m S1 i1 bb1 ∧ Pr w y' g2 d2 h m S2 i2 bb2 ∧ Below w.heap.size w y' := by
  have hX : ∀ q ∈ obs E, w.heap.size ≤ q ∧ Ty y q 9 := by
    intro q hq
    obtain ⟨e, he, hb⟩ := List.mem_filterMap.1 hq
    exact ⟨(own_lo (I.bk.own e he) q hb).1, own_ty (I.bk.own e he) q hb⟩
  have hY : ∀ q ∈ obs E, ∃ t, Ty y q t ∧ t ≠ 70 ∧ t ≠ 5 ∧ t ≠ 72 := fun q hq => ⟨_, (hX q hq).2, by decide, by decide, by decide⟩
  exact ⟨I.p1.ty f hY, I.p2.ty f hY, below_fr I.bel f fun q hq => (hX q hq).1⟩
end
end Go.Proofs.Ytfoddooehanemaa.Ef
