/- Keys and names: as a map's keys. -/
import Derived.Test.YtgchdjjafgkcbaaPa
import Derived.DeepKeys4
namespace Go.Proofs.Ytgchdjjafgkcbaa.Pb
set_option linter.unusedVariables false
set_option linter.unusedSimpArgs false
open Go.RowKit Go.Maps Lib0 Kb Xp Pa
abbrev tK : TypeId := 43
abbrev tN : TypeId := 72
abbrev tMK : TypeId := 65
abbrev tMH : TypeId := 66
theorem laidOut : laidOutB Try.prog = true := by kernel_rfl
theorem rowK : tK < Try.prog.types.size := of_decide_eq_true (by kernel_rfl)
theorem rowN : tN < Try.prog.types.size := of_decide_eq_true (by kernel_rfl)
theorem wideK : (match Try.prog.underlying tK with | some (.array _ _) | some (.struct _) => true | _ => false) = true := by rw [Try.underlying43]
theorem wideN : (match Try.prog.underlying tN with | some (.array _ _) | some (.struct _) => true | _ => false) = true := by rw [Try.underlying72]
set_option maxRecDepth 100000 in
theorem klawK : WideMaps.KeyLaw Try.prog tK := deep_law_laid laidOut (m := 3) (by omega) rowK (by kernel_rfl) wideK
set_option maxRecDepth 100000 in
theorem klawN : WideMaps.KeyLaw Try.prog tN := deep_law_laid laidOut (m := 3) (by omega) rowN (by kernel_rfl) wideN
theorem lawK : Keyed Try.prog tK := Keyed.of_law klawK
theorem lawN : Keyed Try.prog tN := Keyed.of_law klawN
def nameV (a b : Int) : Value := .agg #[.int .i64 a, .int .i64 b]
def nameL (a b : Int) : Lit := .string (keyBytes [.int .i64 a, .int .i64 b])

theorem size_pos : ∃ d, Try.prog.types.size = d + 1 := by
  have h : 0 < Try.prog.types.size := Nat.lt_of_le_of_lt (Nat.zero_le _) rowN
  generalize Try.prog.types.size = n at h ⊢
  cases n with
  | zero => omega
  | succ d => exact ⟨d, rfl⟩
theorem lits_int (d : Nat) (a : Int) (h : (Lit.int .i64 a).wf = true) : Try.prog.keyLits (d + 1) 3 [.int .i64 a] = some [.int .i64 a] := by
  unfold Program.keyLits
  rw [Try.underlying3]
  simp [h]
theorem lits_str (d : Nat) (s : ByteArray) (h : s.size ≤ maxLen) : Try.prog.keyLits (d + 1) 9 [.string s] = some [.string s.data.toList] := by
  unfold Program.keyLits
  rw [Try.underlying9]
  simp [h]
theorem wf_of {a : Int} (h : I64 a) : (Lit.int .i64 a).wf = true := WalkArith.wf_i64 (by have := h.1; have := h.2; omega)
theorem cN : Try.prog.cellsOf tN = 2 := by kernel_rfl
theorem cK : Try.prog.cellsOf tK = 5 := by kernel_rfl
theorem cI : Try.prog.cellsOf 3 = 1 := by kernel_rfl
theorem cS : Try.prog.cellsOf 9 = 1 := by kernel_rfl
theorem ktN : Try.prog.keyType tN = true := by kernel_rfl
theorem ktK : Try.prog.keyType tK = true := by kernel_rfl
theorem name_lits (d : Nat) (a b : Int) (ha : I64 a) (hb : I64 b) : Try.prog.keyLits (d + 1 + 1) tN [.int .i64 a, .int .i64 b] = some [.int .i64 a, .int .i64 b] := by
  have e1 := lits_int d a (wf_of ha)
  have e2 := lits_int d b (wf_of hb)
  unfold Program.keyLits
  rw [Try.underlying72]
  simp [cN, cI, e1, e2]
theorem name_of (a b : Int) (ha : I64 a) (hb : I64 b) : keyOf Try.prog tN (nameV a b) = some (nameL a b) := by
  obtain ⟨d, hd⟩ := size_pos
  have e := name_lits d a b ha hb
  unfold keyOf nameV nameL
  rw [Try.underlying72, hd]
  have hf : (Value.agg #[.int .i64 a, .int .i64 b]).formed Try.prog tN = true := by simp [Value.formed, Try.underlying72, cN]
  have hl : (Value.agg #[.int .i64 a, .int .i64 b]).cells.toList = [.int .i64 a, .int .i64 b] := rfl
  simp only [ktN, hf, hl, e, Bool.and_self, if_true, Option.map_some]
def keyV (l c : Int) (n s t : ByteArray) : Value := .agg #[.int .i64 l, .int .i64 c, .string n, .string s, .string t]
def keyL (l c : Int) (n s t : ByteArray) : Lit := .string (keyBytes [.int .i64 l, .int .i64 c, .string n.data.toList, .string s.data.toList, .string t.data.toList])
theorem key_lits (d : Nat) (l c : Int) (n s t : ByteArray) (hl : I64 l) (hc : I64 c) (hn : n.size ≤ maxLen) (hs : s.size ≤ maxLen) (ht : t.size ≤ maxLen) : Try.prog.keyLits (d + 1 + 1) tK [.int .i64 l, .int .i64 c, .string n, .string s, .string t] = some [.int .i64 l, .int .i64 c, .string n.data.toList, .string s.data.toList, .string t.data.toList] := by
  have e1 := lits_int d l (wf_of hl)
  have e2 := lits_int d c (wf_of hc)
  have e3 := lits_str d n hn
  have e4 := lits_str d s hs
  have e5 := lits_str d t ht
  unfold Program.keyLits
  rw [Try.underlying43]
  simp [cK, cI, cS, e1, e2, e3, e4, e5]
theorem key_of (l c : Int) (n s t : ByteArray) (hl : I64 l) (hc : I64 c) (hn : n.size ≤ 281474976710656) (hs : s.size ≤ 281474976710656) (ht : t.size ≤ 281474976710656) : keyOf Try.prog tK (keyV l c n s t) = some (keyL l c n s t) := by
  obtain ⟨d, hd⟩ := size_pos
  have hm : 281474976710656 ≤ maxLen := by decide
  have e := key_lits d l c n s t hl hc (Nat.le_trans hn hm) (Nat.le_trans hs hm) (Nat.le_trans ht hm)
  unfold keyOf keyV keyL
  rw [Try.underlying43, hd]
  have hf : (Value.agg #[.int .i64 l, .int .i64 c, .string n, .string s, .string t]).formed Try.prog tK = true := by simp [Value.formed, Try.underlying43, cK]
  have hl : (Value.agg #[.int .i64 l, .int .i64 c, .string n, .string s, .string t]).cells.toList = [.int .i64 l, .int .i64 c, .string n, .string s, .string t] := rfl
  simp only [ktK, hf, hl, e, Bool.and_self, if_true, Option.map_some]
/-- of a request -/
def kl (r : Rq) : Lit := keyL r.link r.cls r.num r.stp r.trm
def nl (r : Rq) : Lit := nameL r.to_ r.no
def kv (r : Rq) : Value := keyV r.link r.cls r.num r.stp r.trm
def nv (r : Rq) : Value := nameV r.to_ r.no
theorem kl_of {r : Rq} (h : Ro r) : keyOf Try.prog tK (kv r) = some (kl r) := key_of _ _ _ _ _ h.link h.cls h.num h.stp h.trm
theorem nl_of {r : Rq} (h : Ro r) : keyOf Try.prog tN (nv r) = some (nl r) := name_of _ _ h.to_ h.no
theorem name_inj {a b c d : Int} (h1 : I64 a) (h2 : I64 b) (h3 : I64 c) (h4 : I64 d) : nameL a b = nameL c d ↔ a = c ∧ b = d := by
  constructor
  · intro e
    have := klawN.inj (name_of a b h1 h2) (e ▸ name_of c d h3 h4)
    unfold nameV at this
    simpa using this
  · rintro ⟨rfl, rfl⟩; rfl
theorem isKeyN (a b : Int) : WideAt.IsKeyLit (nameL a b) := trivial
theorem isKeyK (r : Rq) : WideAt.IsKeyLit (kl r) := trivial
end Go.Proofs.Ytgchdjjafgkcbaa.Pb
