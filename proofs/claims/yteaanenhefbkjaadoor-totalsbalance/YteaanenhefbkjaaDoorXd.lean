/- TotalsBalance: plain; what holds along its walk. -/
import Derived.Test.YteaanenhefbkjaaDoorXc
import Derived.Test.YteaanenhefbkjaaDoorTu
import Derived.Test.YteaanenhefbkjaaDoorTv
import Derived.Laws.IdiomStrings
namespace Go.Proofs.YteaanenhefbkjaaDoor.Xd
set_option linter.unusedVariables false
set_option linter.unusedSimpArgs false
open Go.RowKit Lib0 Kb Xp Ic Ta Hp Hr Ht Hu Tb Tc Td Te Tf Tn Tp Tv Xa Xc
attribute [local go_sem] Oper.semAt_some
theorem FL8 (f : Nat → Int) : FL f 8 = [(74, valN f 0), (75, valN f 1), (76, valN f 2), (77, valN f 3), (86, valN f 4), (87, valN f 5), (88, valN f 6), (89, valN f 7)] := rfl
theorem get_ok (f : Nat → Int) (j : Nat) (hj : j < 8) : getF (FL f 8) (fldN j) = some (valN f j) := by
  rw [FL8]
  rcases eight hj with rfl | rfl | rfl | rfl | rfl | rfl | rfl | rfl <;> simp [getF, fldN]
def badL (f : Nat → Int) (i : Nat) (s : ByteArray) : List Fl := (FL f 8).set i (fldN i, s)
theorem get_bad (f : Nat → Int) (i : Nat) (hi : i < 8) (s : ByteArray) : getF (badL f i s) (fldN i) = some s := by
  unfold badL
  rw [FL8]
  rcases eight hi with rfl | rfl | rfl | rfl | rfl | rfl | rfl | rfl <;> simp [getF, fldN]
theorem mism_no (f : Nat → Int) (j : Nat) (hj : j < 8) : mism (FL f 8) f j = false := by
  unfold mism getB getV
  rw [get_ok f j hj]; simp
theorem mism_bad (f : Nat → Int) (i : Nat) (hi : i < 8) (s : ByteArray) (h : s ≠ valN f i) : mism (badL f i s) f i = true := by
  unfold mism getB getV
  rw [get_bad f i hi s]
  have : (s.toList == (valN f i).toList) = false := beq_eq_false_iff_ne.2 fun e => h (bytes_ext e)
  simp [this]
theorem mism_nil (f : Nat → Int) (j : Nat) : mism [] f j = false := by
  unfold mism getB getV getF; simp
theorem valN_size (f : Nat → Int) (i : Nat) : (valN f i).size = widN i := by
  show (Wd.dgs _ _).toArray.size = _
  rw [List.size_toArray, Wd.dgs_length]
theorem dgs_dig : ∀ (w n : Nat) (c : UInt8), c ∈ Wd.dgs w n → 48 ≤ c.toNat ∧ c.toNat ≤ 57
  | 0, n, c, h => by simp [Wd.dgs] at h
  | w + 1, n, c, h => by
    rw [Wd.dgs, List.mem_append] at h
    rcases h with h | h
    · exact dgs_dig w _ c h
    · have : c = UInt8.ofNat (48 + n % 10) := by simpa using h
      subst this
      simp
      omega
/-- the digit behind -/
def nxt (c : UInt8) : UInt8 := UInt8.ofNat (48 + (c.toNat - 48 + 1) % 10)
theorem nxt_ne (c : UInt8) (h : 48 ≤ c.toNat ∧ c.toNat ≤ 57) : nxt c ≠ c := by
  intro e
  have := congrArg UInt8.toNat e
  unfold nxt at this
  simp at this
  omega
theorem nxt_val (c : UInt8) (h : 48 ≤ c.toNat ∧ c.toNat ≤ 57) : ((nxt c).toNat : Int) = 48 + ((c.toNat : Int) - 48 + 1) % 10 := by
  unfold nxt
  simp
  omega
def spL (f : Nat → Int) (i a : Nat) : List UInt8 := (Wd.dgs (widN i) (f (4 + i)).toNat).set a (nxt ((Wd.dgs (widN i) (f (4 + i)).toNat).getD a 0))
theorem spL_ne (f : Nat → Int) (i a : Nat) (ha : a < widN i) : (⟨(spL f i a).toArray⟩ : ByteArray) ≠ valN f i := by
  intro e
  have e2 : spL f i a = Wd.dgs (widN i) (f (4 + i)).toNat := by
    have := congrArg (fun b : ByteArray => b.data.toList) e
    simpa [valN] using this
  have hl : a < (Wd.dgs (widN i) (f (4 + i)).toNat).length := by rw [Wd.dgs_length]; exact ha
  have h1 := congrArg (·[a]?) e2
  unfold spL at h1
  simp only [List.getElem?_set_self hl] at h1
  rw [List.getElem?_eq_getElem hl] at h1
  have h2 := Option.some.inj h1
  rw [show (Wd.dgs (widN i) (f (4 + i)).toNat).getD a 0 = (Wd.dgs (widN i) (f (4 + i)).toNat)[a] by rw [List.getD, List.getElem?_eq_getElem hl]; rfl] at h2
  exact nxt_ne _ (dgs_dig _ _ _ (List.getElem_mem hl)) h2
/-- the counts that were told, up to the i-th -/
def Fi (T : Nat → Nat → Int) (i : Nat) : Nat → Nat → Int := fun j => if j < i then T j else fun _ => 0
theorem Fi_next (T : Nat → Nat → Int) (i : Nat) : Fi T (i + 1) = updF (Fi T i) i (T i) := by
  funext j
  unfold Fi updF
  dsimp only
  by_cases h : j = i
  · subst h; rw [if_pos (by omega), if_pos rfl]
  · rw [if_neg h]
    by_cases h2 : j < i
    · rw [if_pos h2, if_pos (by omega)]
    · rw [if_neg h2, if_neg (by omega)]
theorem Fi_zero (T : Nat → Nat → Int) : Fi T 0 = fun _ _ => 0 := by
  funext j
  unfold Fi
  rw [if_neg (by omega)]
theorem Rw.congr {x : World} {base g n : Nat} {F G : Nat → Nat → Int} (h : Rw x base g n F) (e : ∀ k, k < n → F k = G k) : Rw x base g n G := ⟨fun k hk => by rw [← e k hk]; exact h.rows k hk, h.there, h.lowg, h.ltg⟩
/-- a world behind a call that has turned the row of a book alone -/
structure Kp (g : Nat) (x y : World) : Prop where
  blk : ∀ q, q < x.heap.size → q ≠ g → y.heap[q]? = x.heap[q]?
  size : x.heap.size ≤ y.heap.size
theorem Kp.cell {g : Nat} {x y : World} (h : Kp g x y) {p : Addr} (hp : p.block < x.heap.size) (hne : p.block ≠ g) : y.cell? p = x.cell? p := by
  unfold World.cell?
  rw [h.blk _ hp hne]
theorem Kp.rw {g : Nat} {x y : World} (k : Kp g x y) {base g3 n : Nat} {F : Nat → Nat → Int} (h : Rw x base g3 n F) (hne : g3 ≠ g) : Rw y base g3 n F :=
  ⟨fun i hi j v hv => (k.cell h.ltg hne).trans (h.rows i hi j v hv), fun i hi j hj => by
    have h1 := h.there i hi j hj
    have h2 := k.blk g3 h.ltg hne
    exact ⟨by rw [show y.cell? ⟨g3, i * 12 + j, none⟩ = x.cell? ⟨g3, i * 12 + j, none⟩ from k.cell h.ltg hne]; exact h1.1, by have h3 := h1.2; unfold World.frozen? at h3 ⊢; rw [h2]; exact h3⟩, h.lowg, Nat.lt_of_lt_of_le h.ltg k.size⟩
theorem Kp.own {g : Nat} {x y : World} (k : Kp g x y) {B e s n : Nat} {v : Value} {xs : List Value} (h : x.ownsRow B e s v n xs) (hB : g < B) : y.ownsRow B e s v n xs :=
  Xa.owns_keep h fun q hq => k.blk q (h.lt q hq).2 (by have := (h.lt q hq).1; omega)
theorem owns_base {w : World} {b b' e s n : Nat} {v : Value} {xs : List Value} (h : w.ownsRow b e s v n xs) (hb : b' ≤ b) : w.ownsRow b' e s v n xs := by
  refine ⟨h.1, ?_⟩
  rcases h.2 with h2 | ⟨g, c, cur, rfl, hbg, r⟩
  · exact .inl h2
  · exact .inr ⟨g, c, cur, rfl, Nat.le_trans hb hbg, r⟩
theorem own_shape {w : World} {b e s n : Nat} {v : Value} {xs : List Value} (h : w.ownsRow b e s v n xs) (hn : 0 < n) : ∃ g cap, v = .slice (some ⟨g, 0, none⟩) n cap ∧ b ≤ g := by
  rcases h.2 with ⟨-, h0⟩ | ⟨g, c, cur, rfl, hbg, r⟩
  · omega
  · exact ⟨g, c, rfl, hbg⟩
/-- what holds along the walk -/
structure Sb (w : World) (b g g3 : Nat) (G W : Nat → Nat → Int) (f : Nat → Int) (fv : Value) (x : World) : Prop where
  bk : BkT x w.heap.size b g 4 G
  rw : Rw x g3 g3 4 W
  own : x.ownsRow g3 tF 3 fv 8 (fc (FL f 8))
  gt : g < g3
  bel : Below w.heap.size w x
theorem Sb.below {w : World} {b g g3 : Nat} {G W : Nat → Nat → Int} {f : Nat → Int} {fv : Value} {x y : World} (h : Sb w b g g3 G W f fv x) (k : Below x.heap.size x y) : Sb w b g g3 G W f fv y :=
  ⟨h.bk.below k, h.rw.below k, Xa.owns_keep h.own fun q hq => k.block q (h.own.lt q hq).2, h.gt, keepB h.bel k⟩
theorem Sb.kp {w : World} {b g g3 : Nat} {G G2 W : Nat → Nat → Int} {f : Nat → Int} {fv : Value} {x y : World} (h : Sb w b g g3 G W f fv x) (k : Kp g x y) (hb : BkT y w.heap.size b g 4 G2) (hl : Below w.heap.size x y) : Sb w b g g3 G2 W f fv y :=
  ⟨hb, k.rw h.rw (by have := h.gt; omega), k.own h.own h.gt, h.gt, h.bel.trans hl⟩
theorem Sb.lst {w : World} {b g g3 : Nat} {G W : Nat → Nat → Int} {f : Nat → Int} {fv : Value} {x : World} (h : Sb w b g g3 G W f fv x) : RowF x fv (FL f 8) := rowf_own (by simpa [FL_len] using h.own)
theorem sc_ne {w : World} {p q : Addr} {v : Value} (h : p ≠ q) : (w.setCell p v).cell? q = w.cell? q := by
  first
    | exact World.cell?_setCell_other h
    | exact World.cell?_setCell_other _ h
    | exact World.cell?_setCell_other _ _ h
    | exact World.cell?_setCell_other _ _ _ h
    | exact World.cell?_setCell_other _ _ _ _ h
theorem sc_eq {w : World} {p : Addr} {u v : Value} (h : w.cell? p = some u) : (w.setCell p v).cell? p = some v := by
  first
    | exact World.cell?_setCell_same h
    | exact World.cell?_setCell_same _ h
    | exact World.cell?_setCell_same _ _ h
    | exact World.cell?_setCell_same _ _ _ h
theorem rowf_set {y : World} {gb cb : Nat} {L : List Fl} (h : RowF y (.slice (some ⟨gb, 0, none⟩) L.length cb) L) (i : Nat) (hi : i < L.length) (s : ByteArray) : RowF (y.setCell ⟨gb, i * 3 + 1, none⟩ (.string s)) (.slice (some ⟨gb, 0, none⟩) L.length cb) (L.set i (L[i].1, s)) := by
  obtain ⟨o, cap, e, hc⟩ := h
  cases e
  refine ⟨some ⟨gb, 0, none⟩, cb, by rw [List.length_set], fun j hj => ?_⟩
  have hj' : j < L.length := by simpa using hj
  obtain ⟨a, ea, k0, k1, k2⟩ := hc j hj'
  cases ea
  rw [add_zero] at k0 k1 k2
  refine ⟨⟨gb, 0, none⟩, rfl, ?_⟩
  rw [add_zero]
  dsimp only at k0 k1 k2 ⊢
  by_cases hij : i = j
  · subst hij
    refine ⟨?_, ?_, ?_⟩
    · rw [sc_ne (by intro e; injection e with _ e2; omega), k0]; simp
    · rw [sc_eq k1]; simp
    · rw [sc_ne (by intro e; injection e with _ e2; omega), k2]
  · have hn : (L.set i (L[i].1, s))[j] = L[j] := by rw [List.getElem_set_ne hij]
    refine ⟨?_, ?_, ?_⟩
    · rw [sc_ne (by intro e; injection e with _ e2; omega), k0, hn]
    · rw [sc_ne (by intro e; injection e with _ e2; omega), k1, hn]
    · rw [sc_ne (by intro e; injection e with _ e2; omega), k2]
theorem bad_set (f : Nat → Int) (i : Nat) (hi : i < (FL f 8).length) (s : ByteArray) : (FL f 8).set i ((FL f 8)[i].1, s) = badL f i s := by
  rw [FL_at f i hi]; rfl
/-- bytes in a block -/
def Inb (w : World) (gB : Nat) (bl : List UInt8) : Prop := ∀ j u, bl[j]? = some u → w.cell? ⟨gB, j, none⟩ = some (.int .u8 (u.toNat : Int))
theorem conv_bytes (w : World) (s : ByteArray) : ∃ C w', (convert 9 35 (.string s)).run Tryd.prog w = .ok (.slice (some ⟨w.heap.size, 0, none⟩) s.size C) w' ∧ s.size ≤ C ∧ Below w.heap.size w w' ∧ w'.heap.size = w.heap.size + 1 ∧ Inb w' w.heap.size s.data.toList ∧ ∀ j, j < s.size → w'.frozen? ⟨w.heap.size, j, none⟩ = false := by
  have hC := grownCap_ge w s.size 0 5
  refine ⟨_, _, run_bytes_of_string w 9 35 5 s Tryd.underlying9 Tryd.underlying35 Tryd.underlying5, grownCap_ge _ _ _ _, (Below.refl _ _).drew.alloc (by simp) _, by simp, ?_, ?_⟩
  · generalize grownCap w s.size 0 5 = C
    intro j u hj
    have hjl := (List.getElem?_eq_some_iff.1 hj).1
    have hu := (List.getElem?_eq_some_iff.1 hj).2
    have h := h1_0 w.drew (.cells (bytesRow s C) 5 ((bytesRow s C).size, (bytesRow s C).size + 1))
    rw [show w.drew.heap.size = w.heap.size from rfl] at h
    unfold World.cell?
    rw [h]
    have hjs : j < s.data.size := by simpa using hjl
    have hue : s.data[j] = u := by rw [← hu]; simp
    have hj2 : j < s.size := hjs
    simp [bytesRow, Array.getElem?_append]
    rw [if_pos hj2, Array.getElem?_eq_getElem hjs, hue]
    rfl
  · generalize grownCap w s.size 0 5 = C at *
    intro j hj
    have h := h1_0 w.drew (.cells (bytesRow s C) 5 ((bytesRow s C).size, (bytesRow s C).size + 1))
    rw [show w.drew.heap.size = w.heap.size from rfl] at h
    have hb : j < (bytesRow s C).size := by
      simp [bytesRow]
      omega
    unfold World.frozen?
    rw [h]
    simp
    omega
theorem inb_set {w : World} {gB : Nat} {l : List UInt8} (h : Inb w gB l) (a : Nat) (ha : a < l.length) (c : UInt8) : Inb (w.setCell ⟨gB, a, none⟩ (.int .u8 (c.toNat : Int))) gB (l.set a c) := by
  intro j u hj
  by_cases e : a = j
  · subst e
    rw [List.getElem?_set_self ha] at hj
    cases hj
    exact sc_eq (h a _ (List.getElem?_eq_getElem ha))
  · rw [List.getElem?_set_ne e] at hj
    rw [sc_ne (by intro e2; injection e2 with _ e3; exact e e3)]
    exact h j u hj
end Go.Proofs.YteaanenhefbkjaaDoor.Xd
