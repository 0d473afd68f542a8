import Derived.Test.YtgchdjjafgkcbaaQf13
import Derived.DeepKeys4
/- Keys and names: as a map's keys. -/
namespace Go.Proofs.Ytgchdjjafgkcbaa.Pb
set_option linter.unusedVariables false
set_option linter.unusedSimpArgs false
open Go.RowKit Go.Maps Lib0 Kb Xp Pa
abbrev tK : TypeId := 43
abbrev tN : TypeId := 72
abbrev tMK : TypeId := 65
abbrev tMH : TypeId := 66
theorem laidOut : laidOutB Try.prog = true := by kernel_rfl
theorem rowK : tK < Try.prog.types.size := of_decide_eq_true (by kernel_rfl)
theorem rowN : tN < Try.prog.types.size := of_decide_eq_true (by kernel_rfl)
theorem wideK : (match Try.prog.underlying tK with | some (.array _ _) | some (.struct _) => true | _ => false) = true := by rw [Try.underlying43]
theorem wideN : (match Try.prog.underlying tN with | some (.array _ _) | some (.struct _) => true | _ => false) = true := by rw [Try.underlying72]
set_option maxRecDepth 100000 in
theorem klawK : WideMaps.KeyLaw Try.prog tK := deep_law_laid laidOut (m := 3) (by omega) rowK (by kernel_rfl) wideK
set_option maxRecDepth 100000 in
theorem klawN : WideMaps.KeyLaw Try.prog tN := deep_law_laid laidOut (m := 3) (by omega) rowN (by kernel_rfl) wideN
theorem lawK : Keyed Try.prog tK := Keyed.of_law klawK
theorem lawN : Keyed Try.prog tN := Keyed.of_law klawN
def nameV (a b : Int) : Value := .agg #[.int .i64 a, .int .i64 b]
def nameL (a b : Int) : Lit := .string (keyBytes [.int .i64 a, .int .i64 b])

theorem size_pos : ∃ d, Try.prog.types.size = d + 1 := by
  have h : 0 < Try.prog.types.size := Nat.lt_of_le_of_lt (Nat.zero_le _) rowN
  generalize Try.prog.types.size = n at h ⊢
  cases n with
  | zero => omega
  | succ d => exact ⟨d, rfl⟩
theorem lits_int (d : Nat) (a : Int) (h : (Lit.int .i64 a).wf = true) : Try.prog.keyLits (d + 1) 3 [.int .i64 a] = some [.int .i64 a] := by
  unfold Program.keyLits
  rw [Try.underlying3]
  simp [h]
theorem lits_str (d : Nat) (s : ByteArray) (h : s.size ≤ maxLen) : Try.prog.keyLits (d + 1) 9 [.string s] = some [.string s.data.toList] := by
  unfold Program.keyLits
  rw [Try.underlying9]
  simp [h]
theorem wf_of {a : Int} (h : I64 a) : (Lit.int .i64 a).wf = true := WalkArith.wf_i64 (by have := h.1; have := h.2; omega)
theorem cN : Try.prog.cellsOf tN = 2 := by kernel_rfl
theorem cK : Try.prog.cellsOf tK = 5 := by kernel_rfl
theorem cI : Try.prog.cellsOf 3 = 1 := by kernel_rfl
theorem cS : Try.prog.cellsOf 9 = 1 := by kernel_rfl
theorem ktN : Try.prog.keyType tN = true := by kernel_rfl
theorem ktK : Try.prog.keyType tK = true := by kernel_rfl
theorem name_lits (d : Nat) (a b : Int) (ha : I64 a) (hb : I64 b) : Try.prog.keyLits (d + 1 + 1) tN [.int .i64 a, .int .i64 b] = some [.int .i64 a, .int .i64 b] := by
  have e1 := lits_int d a (wf_of ha)
  have e2 := lits_int d b (wf_of hb)
  unfold Program.keyLits
  rw [Try.underlying72]
  simp [cN, cI, e1, e2]
theorem name_of (a b : Int) (ha : I64 a) (hb : I64 b) : keyOf Try.prog tN (nameV a b) = some (nameL a b) := by
  obtain ⟨d, hd⟩ := size_pos
  have e := name_lits d a b ha hb
  unfold keyOf nameV nameL
  rw [Try.underlying72, hd]
  have hf : (Value.agg #[.int .i64 a, .int .i64 b]).formed Try.prog tN = true := by simp [Value.formed, Try.underlying72, cN]
  have hl : (Value.agg #[.int .i64 a, .int .i64 b]).cells.toList = [.int .i64 a, .int .i64 b] := rfl
  simp only [ktN, hf, hl, e, Bool.and_self, if_true, Option.map_some]
def keyV (l c : Int) (n s t : ByteArray) : Value := .agg #[.int .i64 l, .int .i64 c, .string n, .string s, .string t]
def keyL (l c : Int) (n s t : ByteArray) : Lit := .string (keyBytes [.int .i64 l, .int .i64 c, .string n.data.toList, .string s.data.toList, .string t.data.toList])
theorem key_lits (d : Nat) (l c : Int) (n s t : ByteArray) (hl : I64 l) (hc : I64 c) (hn : n.size ≤ maxLen) (hs : s.size ≤ maxLen) (ht : t.size ≤ maxLen) : Try.prog.keyLits (d + 1 + 1) tK [.int .i64 l, .int .i64 c, .string n, .string s, .string t] = some [.int .i64 l, .int .i64 c, .string n.data.toList, .string s.data.toList, .string t.data.toList] := by
  have e1 := lits_int d l (wf_of hl)
  have e2 := lits_int d c (wf_of hc)
  have e3 := lits_str d n hn
  have e4 := lits_str d s hs
  have e5 := lits_str d t ht
  unfold Program.keyLits
  rw [Try.underlying43]
  simp [cK, cI, cS, e1, e2, e3, e4, e5]
theorem key_of (l c : Int) (n s t : ByteArray) (hl : I64 l) (hc : I64 c) (hn : n.size ≤ 281474976710656) (hs : s.size ≤ 281474976710656) (ht : t.size ≤ 281474976710656) : keyOf Try.prog tK (keyV l c n s t) = some (keyL l c n s t) := by
  obtain ⟨d, hd⟩ := size_pos
  have hm : 281474976710656 ≤ maxLen := by decide
  have e := key_lits d l c n s t hl hc (Nat.le_trans hn hm) (Nat.le_trans hs hm) (Nat.le_trans ht hm)
  unfold keyOf keyV keyL
  rw [Try.underlying43, hd]
  have hf : (Value.agg #[.int .i64 l, .int .i64 c, .string n, .string s, .string t]).formed Try.prog tK = true := by simp [Value.formed, Try.underlying43, cK]
  have hl : (Value.agg #[.int .i64 l, .int .i64 c, .string n, .string s, .string t]).cells.toList = [.int .i64 l, .int .i64 c, .string n, .string s, .string t] := rfl
  simp only [ktK, hf, hl, e, Bool.and_self, if_true, Option.map_some]
/-- of a request -/
def kl (r : Rq) : Lit := keyL r.link r.cls r.num r.stp r.trm
def nl (r : Rq) : Lit := nameL r.to_ r.no
def kv (r : Rq) : Value := keyV r.link r.cls r.num r.stp r.trm
def nv (r : Rq) : Value := nameV r.to_ r.no
theorem kl_of {r : Rq} (h : Ro r) : keyOf Try.prog tK (kv r) = some (kl r) := key_of _ _ _ _ _ h.link h.cls h.num h.stp h.trm
theorem nl_of {r : Rq} (h : Ro r) : keyOf Try.prog tN (nv r) = some (nl r) := name_of _ _ h.to_ h.no
theorem name_inj {a b c d : Int} (h1 : I64 a) (h2 : I64 b) (h3 : I64 c) (h4 : I64 d) : nameL a b = nameL c d ↔ a = c ∧ b = d := by
  constructor
  · intro e
    have := klawN.inj (name_of a b h1 h2) (e ▸ name_of c d h3 h4)
    unfold nameV at this
    simpa using this
  · rintro ⟨rfl, rfl⟩; rfl
theorem isKeyN (a b : Int) : WideAt.IsKeyLit (nameL a b) := trivial
theorem isKeyK (r : Rq) : WideAt.IsKeyLit (kl r) := trivial
end Go.Proofs.Ytgchdjjafgkcbaa.Pb
/- A table in memory. -/
namespace Go.Proofs.Ytgchdjjafgkcbaa.Pc
set_option linter.unusedVariables false
set_option linter.unusedSimpArgs false
open Go.RowKit Go.Maps Lib0 Kb Xp Za Ze Ih Fh Hh Pa Pb
abbrev tT : TypeId := 68
abbrev tH : TypeId := 76
theorem wl_kind {w : World} {b : Nat} {B : Nat → Prop} {n : Nat} {L : LT} {now last : Int} (h : Wl w b B n L now last) {g : Nat} {c : Array Value} {t : TypeId} {x : Nat × Nat} (hg : w.heap[g]? = some (.cells c t x)) (ht : t ≠ tW ∧ t ≠ tS ∧ t ≠ tL) : ¬ B g := by
  obtain ⟨sb, mb, S, cc, D, hm, hB⟩ := h
  intro hb
  rcases (hB g).1 hb with rfl | rfl | rfl | ⟨j, hj, e⟩
  · exact ty_ne hg hm.blk ht.1 rfl
  · exact ty_ne hg hm.slots ht.2.1 rfl
  · exact map_ne hg hm.map rfl
  · obtain ⟨c2, h2⟩ := own_ty (hm.row j hj) e
    exact ty_ne hg h2 ht.2.2 rfl
def heldE (v : Value) : Option (DataW Value × List MemPlace) := some (.held v, [])
/-- what stays: blocks of cells of other types than a table's, a wheel's, a slot's -/
structure Kx (w w' : World) : Prop where
  os : w'.os = w.os
  tape : w'.tape = w.tape
  output : w'.output = w.output
  size : w.heap.size ≤ w'.heap.size
  block : ∀ (g : Nat) (c : Array Value) (t : TypeId) (fr : Nat × Nat), w.heap[g]? = some (.cells c t fr) → t ≠ tT → t ≠ tW → t ≠ tS → t ≠ tL → w'.heap[g]? = w.heap[g]?
/-- .. and than a held request's -/
structure Kt (w w' : World) : Prop where
  os : w'.os = w.os
  tape : w'.tape = w.tape
  output : w'.output = w.output
  size : w.heap.size ≤ w'.heap.size
  block : ∀ (g : Nat) (c : Array Value) (t : TypeId) (fr : Nat × Nat), w.heap[g]? = some (.cells c t fr) → t ≠ tT → t ≠ tH → t ≠ tW → t ≠ tS → t ≠ tL → w'.heap[g]? = w.heap[g]?
theorem Kx.refl (w : World) : Kx w w := ⟨rfl, rfl, rfl, Nat.le_refl _, fun _ _ _ _ _ _ _ _ _ => rfl⟩
theorem Kt.refl (w : World) : Kt w w := ⟨rfl, rfl, rfl, Nat.le_refl _, fun _ _ _ _ _ _ _ _ _ _ => rfl⟩
theorem Kx.of {w x : World} (h : Below w.heap.size w x) : Kx w x := ⟨h.os, h.tape, h.output, h.size, fun g c t fr hg _ _ _ _ => h.block g (Array.getElem?_eq_some_iff.1 hg).1⟩
theorem Kt.of {w x : World} (h : Below w.heap.size w x) : Kt w x := ⟨h.os, h.tape, h.output, h.size, fun g c t fr hg _ _ _ _ _ => h.block g (Array.getElem?_eq_some_iff.1 hg).1⟩
theorem Kx.kt {w x : World} (h : Kx w x) : Kt w x := ⟨h.os, h.tape, h.output, h.size, fun g c t fr hg a _ b d e => h.block g c t fr hg a b d e⟩
theorem Kx.trans {w x y : World} (h : Kx w x) (k : Kx x y) : Kx w y := ⟨k.os.trans h.os, k.tape.trans h.tape, k.output.trans h.output, Nat.le_trans h.size k.size, fun g c t fr hg a b d e => (k.block g c t fr ((h.block g c t fr hg a b d e).trans hg) a b d e).trans (h.block g c t fr hg a b d e)⟩
theorem Kt.trans {w x y : World} (h : Kt w x) (k : Kt x y) : Kt w y := ⟨k.os.trans h.os, k.tape.trans h.tape, k.output.trans h.output, Nat.le_trans h.size k.size, fun g c t fr hg a a2 b d e => (k.block g c t fr ((h.block g c t fr hg a a2 b d e).trans hg) a a2 b d e).trans (h.block g c t fr hg a a2 b d e)⟩
theorem Kx.row {w x : World} (h : Kx w x) {base n : Nat} {v : Value} {xs : List Value} (ho : w.ownsRow base tF 3 v n xs) : x.ownsRow base tF 3 v n xs := own_keep ho fun g hg => by
  obtain ⟨c, hc⟩ := own_ty ho hg
  exact h.block g c tF _ hc (by decide) (by decide) (by decide) (by decide)
theorem Kt.row {w x : World} (h : Kt w x) {base n : Nat} {v : Value} {xs : List Value} (ho : w.ownsRow base tF 3 v n xs) : x.ownsRow base tF 3 v n xs := own_keep ho fun g hg => by
  obtain ⟨c, hc⟩ := own_ty ho hg
  exact h.block g c tF _ hc (by decide) (by decide) (by decide) (by decide) (by decide)
theorem Kt.set {w x : World} (h : Kt w x) {g o : Nat} {c : Array Value} (hg : x.heap[g]? = some (.cells c tH (0, 0))) (v : Value) : Kt w (x.setCell ⟨g, o, none⟩ v) :=
  h.trans ⟨rfl, rfl, rfl, by rw [setCell_size]; exact Nat.le_refl _, fun k c2 t fr hk a a2 b d e => setCell_ne (p := ⟨g, o, none⟩) (fun e2 : g = k => a2 (by subst e2; rw [hg] at hk; injection hk with hk; injection hk with _ hk; exact hk.symm)) v⟩
theorem kx_of_wheel {w x : World} {b : Nat} {B : Nat → Prop} {n : Nat} {L : LT} {now last : Int} (h : Wl w b B n L now last) (f : FrP B w x) : Kx w x := ⟨f.os, f.tape, f.output, f.size, fun g c t fr hg _ a b d => f.block g (Array.getElem?_eq_some_iff.1 hg).1 (wl_kind h hg ⟨a, b, d⟩)⟩
theorem kx_of_map {w x : World} {mb : Nat} (h : w.mapTurned x mb) : Kx w x := by
  obtain ⟨es, cl, es', cl', e1, e2⟩ := h
  have hg := World.mapTurned.grown (w := w) (w' := x) (b := mb) ⟨es, cl, es', cl', e1, e2⟩
  exact ⟨hg.os, hg.tape, hg.output, hg.size, fun g c t fr hgg _ _ _ _ => hg.block g (Array.getElem?_eq_some_iff.1 hgg).1 (fun e => by
    have : g = mb := by simpa using e
    subst this
    rw [e1] at hgg; cases hgg)⟩
/-- timer, tick, block, request -/
abbrev XQ := Int × Int × Nat × Rq
def tx (x : XQ) : XT := (x.1, x.2.1, .pointer (some ⟨x.2.2.1, 0, none⟩))
structure Cf where
  most : Int
  timeout : Int
  late : Int
structure Co (C : Cf) : Prop where
  m0 : 1 ≤ C.most
  m1 : C.most ≤ 10000
  t0 : 1 ≤ C.timeout
  t1 : C.timeout ≤ 100000
  l0 : 1 ≤ C.late
  l1 : C.late ≤ 100000
def hcs (r : Rq) (v1 v2 : Value) (timer : Int) (late : Bool) : Array Value := #[.int .i64 r.link, .int .i64 r.cls, .string r.num, .string r.stp, .string r.trm, .int .i64 r.frm, .int .i64 r.to_, .int .i64 r.no, .string r.m1, v1, .string r.m2, v2, .int .i64 timer, .bool late]
/-- a held request in memory -/
def Hd (w : World) (base g : Nat) (r : Rq) (timer : Int) (late : Bool) : Prop := base ≤ g ∧ ∃ v1 v2, w.heap[g]? = some (.cells (hcs r v1 v2 timer late) tH (0, 0)) ∧ w.ownsRow base tF 3 v1 r.L1.length (fc r.L1) ∧ w.ownsRow base tF 3 v2 r.L2.length (fc r.L2)
theorem Hd.keep {w x : World} {base g : Nat} {r : Rq} {timer : Int} {late : Bool} (h : Hd w base g r timer late) (k : Kx w x) : Hd x base g r timer late := by
  obtain ⟨h0, v1, v2, h1, h2, h3⟩ := h
  exact ⟨h0, v1, v2, (k.block g _ tH _ h1 (by decide) (by decide) (by decide) (by decide)).trans h1, k.row h2, k.row h3⟩
theorem Hd.lt {w : World} {base g : Nat} {r : Rq} {timer : Int} {late : Bool} (h : Hd w base g r timer late) : g < w.heap.size := by
  obtain ⟨-, v1, v2, h1, -⟩ := h
  exact (Array.getElem?_eq_some_iff.1 h1).1
/-- another one is written -/
theorem Hd.other {w : World} {base g k o : Nat} {r : Rq} {timer : Int} {late : Bool} (h : Hd w base g r timer late) {c : Array Value} (hk : w.heap[k]? = some (.cells c tH (0, 0))) (hne : k ≠ g) (v : Value) : Hd (w.setCell ⟨k, o, none⟩ v) base g r timer late := by
  obtain ⟨h0, v1, v2, h1, h2, h3⟩ := h
  have kt := Kt.set (Kt.refl w) hk (o := o) v
  exact ⟨h0, v1, v2, (setCell_ne (p := ⟨k, o, none⟩) hne v).trans h1, kt.row h2, kt.row h3⟩
structure Tm (w : World) (base b wb rb kb hb : Nat) (Bw Br : Nat → Prop) (ck ch : Nat) (Dk Dh : DataW Value) (C : Cf) (old : Int) (XW XR : LT) (nw nr lw lr : Int) : Prop where
  blk : w.heap[b]? = some (.cells #[.pointer (some ⟨wb, 0, none⟩), .pointer (some ⟨rb, 0, none⟩), .int .i64 C.timeout, .int .i64 C.late, .int .i64 old, .int .i64 C.most, .map (some kb), .map (some hb)] tT (0, 0))
  ww : Wl w wb Bw 256 XW nw lw
  wr : Wl w rb Br 256 XR nr lr
  keys : w.ownsMap Try.prog tK unitElem kb ck Dk
  held : w.ownsMap Try.prog tN heldE hb ch Dh
  apart : ∀ g, Bw g → ¬ Br g
  nk : ¬ Bw kb ∧ ¬ Br kb
  nh : ¬ Bw hb ∧ ¬ Br hb
  kh : kb ≠ hb
  low : base ≤ b ∧ base ≤ kb ∧ base ≤ hb
  loww : ∀ g, Bw g → base ≤ g
  lowr : ∀ g, Br g → base ≤ g
  base_ : base ≤ w.heap.size
section
variable {w x : World} {base b wb rb kb hb : Nat} {Bw Br : Nat → Prop} {ck ch : Nat} {Dk Dh : DataW Value} {C : Cf} {old : Int} {XW XR : LT} {nw nr lw lr : Int}
theorem map_keep {K : TypeId} {R : Value → Option (DataW Value × List MemPlace)} {mb n : Nat} {D : DataW Value} (h : w.ownsMap Try.prog K R mb n D) (k : x.heap[mb]? = w.heap[mb]?) : x.ownsMap Try.prog K R mb n D := by
  obtain ⟨es, cl, hk, r⟩ := h
  exact ⟨es, cl, k.trans hk, r⟩
theorem Tm.below (h : Tm w base b wb rb kb hb Bw Br ck ch Dk Dh C old XW XR nw nr lw lr) (k : Below w.heap.size w x) : Tm x base b wb rb kb hb Bw Br ck ch Dk Dh C old XW XR nw nr lw lr :=
  ⟨kept k h.blk, h.ww.below k, h.wr.below k, map_keep h.keys (k.block _ h.keys.lt), map_keep h.held (k.block _ h.held.lt), h.apart, h.nk, h.nh, h.kh, h.low, h.loww, h.lowr, Nat.le_trans h.base_ k.size⟩
theorem Tm.cells (h : Tm w base b wb rb kb hb Bw Br ck ch Dk Dh C old XW XR nw nr lw lr) : w.cell? ⟨b, 0, none⟩ = some (.pointer (some ⟨wb, 0, none⟩)) ∧ w.cell? ⟨b, 1, none⟩ = some (.pointer (some ⟨rb, 0, none⟩)) ∧ w.cell? ⟨b, 2, none⟩ = some (.int .i64 C.timeout) ∧ w.cell? ⟨b, 3, none⟩ = some (.int .i64 C.late) ∧ w.cell? ⟨b, 4, none⟩ = some (.int .i64 old) ∧ w.cell? ⟨b, 5, none⟩ = some (.int .i64 C.most) ∧ w.cell? ⟨b, 6, none⟩ = some (.map (some kb)) ∧ w.cell? ⟨b, 7, none⟩ = some (.map (some hb)) := by
  have := h.blk
  refine ⟨?_, ?_, ?_, ?_, ?_, ?_, ?_, ?_⟩ <;> simp [World.cell?, this]
theorem Tm.nb (h : Tm w base b wb rb kb hb Bw Br ck ch Dk Dh C old XW XR nw nr lw lr) : ¬ Bw b ∧ ¬ Br b := ⟨wl_kind h.ww h.blk ⟨by decide, by decide, by decide⟩, wl_kind h.wr h.blk ⟨by decide, by decide, by decide⟩⟩
/-- the wheel of those that wait turned -/
theorem Tm.wait (h : Tm w base b wb rb kb hb Bw Br ck ch Dk Dh C old XW XR nw nr lw lr) {XW' : LT} {nw' lw' : Int} (t : Trn w wb Bw 256 XW' nw' lw' x) : (∃ Bw', Tm x base b wb rb kb hb Bw' Br ck ch Dk Dh C old XW' XR nw' nr lw' lr) ∧ Kx w x ∧ Below base w x := by
  obtain ⟨B', h1, f, h3⟩ := t
  have hlt := h.wr.lt
  have bl : ∀ g, g < w.heap.size → ¬ Bw g → x.heap[g]? = w.heap[g]? := f.block
  refine ⟨⟨B', (bl b (Array.getElem?_eq_some_iff.1 h.blk).1 h.nb.1).trans h.blk, h1, h.wr.keep (fun g hg => bl g (hlt g hg) (fun e => h.apart g e hg)), map_keep h.keys (bl _ h.keys.lt h.nk.1), map_keep h.held (bl _ h.held.lt h.nh.1), fun g hg hr => ?_, ⟨fun e => ?_, h.nk.2⟩, ⟨fun e => ?_, h.nh.2⟩, h.kh, h.low, fun g hg => ?_, h.lowr, Nat.le_trans h.base_ f.size⟩, kx_of_wheel h.ww f, ⟨f.os, f.tape, f.output, f.size, fun g hg => bl g (Nat.lt_of_lt_of_le hg h.base_) (fun e => by have := h.loww g e; omega)⟩⟩
  · rcases h3 g hg with e | e
    · exact h.apart g e hr
    · have := hlt g hr; omega
  · rcases h3 _ e with e | e
    · exact h.nk.1 e
    · have := h.keys.lt; omega
  · rcases h3 _ e with e | e
    · exact h.nh.1 e
    · have := h.held.lt; omega
  · rcases h3 g hg with e | e
    · exact h.loww g e
    · exact Nat.le_trans h.base_ e
/-- the wheel of those that are remembered turned -/
theorem Tm.rem (h : Tm w base b wb rb kb hb Bw Br ck ch Dk Dh C old XW XR nw nr lw lr) {XR' : LT} {nr' lr' : Int} (t : Trn w rb Br 256 XR' nr' lr' x) : (∃ Br', Tm x base b wb rb kb hb Bw Br' ck ch Dk Dh C old XW XR' nw nr' lw lr') ∧ Kx w x ∧ Below base w x := by
  obtain ⟨B', h1, f, h3⟩ := t
  have hlt := h.ww.lt
  have bl : ∀ g, g < w.heap.size → ¬ Br g → x.heap[g]? = w.heap[g]? := f.block
  refine ⟨⟨B', (bl b (Array.getElem?_eq_some_iff.1 h.blk).1 h.nb.2).trans h.blk, h.ww.keep (fun g hg => bl g (hlt g hg) (h.apart g hg)), h1, map_keep h.keys (bl _ h.keys.lt h.nk.2), map_keep h.held (bl _ h.held.lt h.nh.2), fun g hw hg => ?_, ⟨h.nk.1, fun e => ?_⟩, ⟨h.nh.1, fun e => ?_⟩, h.kh, h.low, h.loww, fun g hg => ?_, Nat.le_trans h.base_ f.size⟩, kx_of_wheel h.wr f, ⟨f.os, f.tape, f.output, f.size, fun g hg => bl g (Nat.lt_of_lt_of_le hg h.base_) (fun e => by have := h.lowr g e; omega)⟩⟩
  · rcases h3 g hg with e | e
    · exact h.apart g hw e
    · have := hlt g hw; omega
  · rcases h3 _ e with e | e
    · exact h.nk.2 e
    · have := h.keys.lt; omega
  · rcases h3 _ e with e | e
    · exact h.nh.2 e
    · have := h.held.lt; omega
  · rcases h3 g hg with e | e
    · exact h.lowr g e
    · exact Nat.le_trans h.base_ e
theorem turned_block (t : w.mapTurned x kb) {g : Nat} (hg : g < w.heap.size) (hne : g ≠ kb) : x.heap[g]? = w.heap[g]? := (World.mapTurned.grown t).block g hg (fun e => hne (by simpa using e))
theorem turned_below (t : w.mapTurned x kb) (h1 : base ≤ kb) (h2 : base ≤ w.heap.size) : Below base w x := by
  have hg := World.mapTurned.grown t
  exact ⟨hg.os, hg.tape, hg.output, hg.size, fun g h => turned_block t (Nat.lt_of_lt_of_le h h2) (by omega)⟩
theorem map_blk {K : TypeId} {R : Value → Option (DataW Value × List MemPlace)} {mb n g : Nat} {D : DataW Value} (h : w.ownsMap Try.prog K R mb n D) {c : Array Value} {t : TypeId} {fr : Nat × Nat} (hg : w.heap[g]? = some (.cells c t fr)) : g ≠ mb := fun e => by
  obtain ⟨es, cl, hk, -⟩ := h
  rw [e, hk] at hg; cases hg
/-- the map of keys turned -/
theorem Tm.key (h : Tm w base b wb rb kb hb Bw Br ck ch Dk Dh C old XW XR nw nr lw lr) {ck' : Nat} {Dk' : DataW Value} (ho : x.ownsMap Try.prog tK unitElem kb ck' Dk') (t : w.mapTurned x kb) : Tm x base b wb rb kb hb Bw Br ck' ch Dk' Dh C old XW XR nw nr lw lr :=
  ⟨(turned_block t (Array.getElem?_eq_some_iff.1 h.blk).1 (map_blk h.keys h.blk)).trans h.blk, h.ww.keep (fun g hg => turned_block t (h.ww.lt g hg) (fun e => h.nk.1 (e ▸ hg))), h.wr.keep (fun g hg => turned_block t (h.wr.lt g hg) (fun e => h.nk.2 (e ▸ hg))), ho, map_keep h.held (turned_block t h.held.lt h.kh.symm), h.apart, h.nk, h.nh, h.kh, h.low, h.loww, h.lowr, Nat.le_trans h.base_ (World.mapTurned.grown t).size⟩
/-- the map of those that are held turned -/
theorem Tm.hel (h : Tm w base b wb rb kb hb Bw Br ck ch Dk Dh C old XW XR nw nr lw lr) {ch' : Nat} {Dh' : DataW Value} (ho : x.ownsMap Try.prog tN heldE hb ch' Dh') (t : w.mapTurned x hb) : Tm x base b wb rb kb hb Bw Br ck ch' Dk Dh' C old XW XR nw nr lw lr :=
  ⟨(turned_block t (Array.getElem?_eq_some_iff.1 h.blk).1 (map_blk h.held h.blk)).trans h.blk, h.ww.keep (fun g hg => turned_block t (h.ww.lt g hg) (fun e => h.nh.1 (e ▸ hg))), h.wr.keep (fun g hg => turned_block t (h.wr.lt g hg) (fun e => h.nh.2 (e ▸ hg))), map_keep h.keys (turned_block t h.keys.lt h.kh), ho, h.apart, h.nk, h.nh, h.kh, h.low, h.loww, h.lowr, Nat.le_trans h.base_ (World.mapTurned.grown t).size⟩
/-- a held request is written -/
theorem Tm.setH (h : Tm w base b wb rb kb hb Bw Br ck ch Dk Dh C old XW XR nw nr lw lr) {g o : Nat} {c : Array Value} (hg : w.heap[g]? = some (.cells c tH (0, 0))) (v : Value) : Tm (w.setCell ⟨g, o, none⟩ v) base b wb rb kb hb Bw Br ck ch Dk Dh C old XW XR nw nr lw lr := by
  have ne : ∀ k, k ≠ g → (w.setCell ⟨g, o, none⟩ v).heap[k]? = w.heap[k]? := fun k hk => setCell_ne (p := ⟨g, o, none⟩) (fun e : g = k => hk e.symm) v
  have n1 := wl_kind h.ww hg ⟨by decide, by decide, by decide⟩
  have n2 := wl_kind h.wr hg ⟨by decide, by decide, by decide⟩
  exact ⟨(ne b (ty_ne h.blk hg (by decide))).trans h.blk, h.ww.keep (fun k hk => ne k (fun e => n1 (e ▸ hk))), h.wr.keep (fun k hk => ne k (fun e => n2 (e ▸ hk))), map_keep h.keys (ne _ (map_blk h.keys hg).symm), map_keep h.held (ne _ (map_blk h.held hg).symm), h.apart, h.nk, h.nh, h.kh, h.low, h.loww, h.lowr, by rw [setCell_size]; exact h.base_⟩
/-- the oldest is written -/
theorem Tm.setOld (h : Tm w base b wb rb kb hb Bw Br ck ch Dk Dh C old XW XR nw nr lw lr) (old' : Int) : Tm (w.setCell ⟨b, 4, none⟩ (.int .i64 old')) base b wb rb kb hb Bw Br ck ch Dk Dh C old' XW XR nw nr lw lr := by
  have ne : ∀ k, k ≠ b → (w.setCell ⟨b, 4, none⟩ (.int .i64 old')).heap[k]? = w.heap[k]? := fun k hk => setCell_ne (p := ⟨b, 4, none⟩) (fun e : b = k => hk e.symm) _
  exact ⟨by rw [setCell_heap h.blk]; rfl, h.ww.keep (fun k hk => ne k (fun e => h.nb.1 (e ▸ hk))), h.wr.keep (fun k hk => ne k (fun e => h.nb.2 (e ▸ hk))), map_keep h.keys (ne _ (map_blk h.keys h.blk).symm), map_keep h.held (ne _ (map_blk h.held h.blk).symm), h.apart, h.nk, h.nh, h.kh, h.low, h.loww, h.lowr, by rw [setCell_size]; exact h.base_⟩
end
end Go.Proofs.Ytgchdjjafgkcbaa.Pc
