/- A wheel of *turnstile/pending.held in memory; New, slot, Left, Len, Now. -/
import Derived.Test.YtgchdjjafgkcbaaEh
import Derived.BigQuiet
import Derived.Deep.OwnRows
namespace Go.Proofs.Ytgchdjjafgkcbaa.Fh
set_option linter.unusedVariables false
set_option linter.unusedSimpArgs false
open Go.RowKit Go.Maps Lib0 Kb Xp Ih Dh Eh
attribute [local go_sem] Oper.semAt_some
abbrev tW : TypeId := 98
abbrev tS : TypeId := 108
structure Wm (w : World) (b sb mb n : Nat) (S : Nat → Value) (c : Nat) (D : DataW Unit) (L : LT) (now last : Int) : Prop where
  blk : w.heap[b]? = some (.cells #[.slice (some ⟨sb, 0, none⟩) n n, .map (some mb), .int .i64 now, .int .i64 last] tW)
  slots : w.heap[sb]? = some (.cells ((List.range n).map S).toArray tS)
  row : ∀ j, j < n → w.ownsRow 0 tL 3 (S j) (slotL L n j).length (gc (slotL L n j))
  apart : ∀ i j, i < n → j < n → i ≠ j → ∀ g, (S i).ownBlock = some g → (S j).ownBlock ≠ some g
  map : w.ownsMap Try.prog tI (plainElem Try.prog tI) mb c D
  mp : Mp D L
  cnt : c ≤ last.toNat
/-- its blocks -/
def Bk (b sb mb n : Nat) (S : Nat → Value) (g : Nat) : Prop := g = b ∨ g = sb ∨ g = mb ∨ ∃ j, j < n ∧ (S j).ownBlock = some g
def Wl (w : World) (b : Nat) (B : Nat → Prop) (n : Nat) (L : LT) (now last : Int) : Prop := ∃ sb mb S c D, Wm w b sb mb n S c D L now last ∧ ∀ g, B g ↔ Bk b sb mb n S g
/-- what holds of it besides -/
structure Ok (n : Nat) (L : LT) (now last : Int) : Prop where
  pos : 1 ≤ n
  top : n ≤ 4096
  one : One L
  inc : Inc L
  num : ∀ x ∈ L, 1 ≤ x.1 ∧ x.1 ≤ last
  tik : ∀ x ∈ L, now < x.2.1 ∧ x.2.1 ≤ now + 100000
  now0 : 0 ≤ now
  now1 : now ≤ 1000000000000
  last0 : 0 ≤ last
  last1 : last ≤ 5864062014805
def tyOf (o : Option Obj) : Nat := match o with | some (.cells _ t _) => t | _ => 0
theorem ty_ne {w : World} {g k : Nat} {c d : Array Value} {s t : TypeId} {x y : Nat × Nat} (h : w.heap[g]? = some (.cells c s x)) (h2 : w.heap[k]? = some (.cells d t y)) (hne : s ≠ t) : g ≠ k := fun e => by
  rw [e, h2] at h
  exact hne (congrArg tyOf h).symm
theorem map_ne {w : World} {g k : Nat} {c : Array Value} {t : TypeId} {x : Nat × Nat} {n : Nat} {D : DataW Unit} (h : w.heap[g]? = some (.cells c t x)) (hm : w.ownsMap Try.prog tI (plainElem Try.prog tI) k n D) : g ≠ k := fun e => by
  obtain ⟨es, cl, hk, _⟩ := hm
  rw [e, hk] at h
  cases h
theorem Wm.row_lt {w : World} {b sb mb n : Nat} {S : Nat → Value} {c : Nat} {D : DataW Unit} {L : LT} {now last : Int} (h : Wm w b sb mb n S c D L now last) {j g : Nat} (hj : j < n) (hg : (S j).ownBlock = some g) : g < w.heap.size ∧ g ≠ b ∧ g ≠ sb ∧ g ≠ mb := by
  obtain ⟨cc, hc⟩ := own_ty (h.row j hj) hg
  exact ⟨(Array.getElem?_eq_some_iff.1 hc).1, ty_ne hc h.blk (by decide), ty_ne hc h.slots (by decide), map_ne hc h.map⟩
theorem Wm.lt {w : World} {b sb mb n : Nat} {S : Nat → Value} {c : Nat} {D : DataW Unit} {L : LT} {now last : Int} (h : Wm w b sb mb n S c D L now last) : ∀ g, Bk b sb mb n S g → g < w.heap.size := by
  rintro g (rfl | rfl | rfl | ⟨j, hj, hg⟩)
  · exact (Array.getElem?_eq_some_iff.1 h.blk).1
  · exact (Array.getElem?_eq_some_iff.1 h.slots).1
  · exact h.map.lt
  · exact (h.row_lt hj hg).1
/-- it stays where its blocks stay -/
theorem Wm.keep {w x : World} {b sb mb n : Nat} {S : Nat → Value} {c : Nat} {D : DataW Unit} {L : LT} {now last : Int} (h : Wm w b sb mb n S c D L now last) (k : ∀ g, Bk b sb mb n S g → x.heap[g]? = w.heap[g]?) : Wm x b sb mb n S c D L now last := by
  refine ⟨(k b (.inl rfl)).trans h.blk, (k sb (.inr (.inl rfl))).trans h.slots, fun j hj => own_keep (h.row j hj) fun g hg => k g (.inr (.inr (.inr ⟨j, hj, hg⟩))), h.apart, ?_, h.mp, h.cnt⟩
  obtain ⟨es, cl, hk, r⟩ := h.map
  exact ⟨es, cl, (k mb (.inr (.inr (.inl rfl)))).trans hk, r⟩
theorem Wl.keep {w x : World} {b : Nat} {B : Nat → Prop} {n : Nat} {L : LT} {now last : Int} (h : Wl w b B n L now last) (k : ∀ g, B g → x.heap[g]? = w.heap[g]?) : Wl x b B n L now last := by
  obtain ⟨sb, mb, S, c, D, hm, hB⟩ := h
  exact ⟨sb, mb, S, c, D, hm.keep (fun g hg => k g ((hB g).2 hg)), hB⟩
theorem Wl.lt {w : World} {b : Nat} {B : Nat → Prop} {n : Nat} {L : LT} {now last : Int} (h : Wl w b B n L now last) : ∀ g, B g → g < w.heap.size := by
  obtain ⟨sb, mb, S, c, D, hm, hB⟩ := h
  exact fun g hg => hm.lt g ((hB g).1 hg)
theorem Wl.below {w x : World} {b : Nat} {B : Nat → Prop} {n : Nat} {L : LT} {now last : Int} (h : Wl w b B n L now last) (k : Below w.heap.size w x) : Wl x b B n L now last := h.keep fun g hg => k.block g (h.lt g hg)
theorem slots_at (n : Nat) (S : Nat → Value) (j : Nat) (h : j < n) : (((List.range n).map S).toArray)[j]? = some (S j) := by simp [h]
theorem tmod_at {tick : Int} {n : Nat} (h : 0 ≤ tick) : tick.tmod (n : Int) = ((tick.toNat % n : Nat) : Int) := by
  obtain ⟨m, rfl⟩ := Int.eq_ofNat_of_zero_le h
  rw [Int.tmod_eq_emod_of_nonneg h, Int.toNat_natCast]
  exact (Int.natCast_emod m n).symm
set_option maxRecDepth 100000 in
theorem slot_any (w : World) (b sb mb n : Nat) (v2 v3 : Value) (tick : Int) (hb : w.heap[b]? = some (.cells #[.slice (some ⟨sb, 0, none⟩) n n, .map (some mb), v2, v3] tW)) (ht : 0 ≤ tick) (hn : 1 ≤ n) (hn2 : n ≤ 4096) :
    Calls Try.prog 54 #[.pointer (some ⟨b, 0, none⟩), .int .i64 tick] w fun e w' => e = .returned (.pointer (some ⟨sb, tick.toNat % n, none⟩)) ∧ ∃ m, w' = w.drewN m := by
  have c0 : w.cell? ⟨b, 0, none⟩ = some (.slice (some ⟨sb, 0, none⟩) n n) := by simp [World.cell?, hb]
  obtain ⟨j, HJ⟩ : ∃ j, Hid (tick.toNat % n = j) := ⟨_, rfl⟩
  have e1 : tick.tmod (n : Int) = (j : Int) := by rw [tmod_at ht, HJ.out]
  have q1 : j < n := by rw [← HJ.out]; exact Nat.mod_lt _ (by omega)
  have q2 : (0 : Int) ≤ (j : Int) := by omega
  have q3 : (j : Int) < (n : Int) := by omega
  have q4 : ((n : Int) == 0) = false := beq_eq_false_iff_ne.2 (by omega)
  have q5 : (n : Int) ≠ 0 := by omega
  have q6 : (j : Int) ≤ 9223372036854775807 := by omega
  have q7 : -9223372036854775808 ≤ (j : Int) := by omega
  have q8 : IntKind.i64.wrap (j : Int) = (j : Int) := Lib0.wrap_i64 _ (by omega) (by omega)
  rw [HJ.out]
  clear hb HJ
  go_enter Try.func54, Try.ntmps54
  go_wp2_with fail
  go_quiet (fail)
  go_wp2_with fail
  go_ret
  exact ⟨rfl, _, rfl⟩
theorem law : Keyed Try.prog tI := int_keyed Try.underlying3
theorem zeroI (w : World) : (zeroValue tI).run Try.prog w = .ok (.int .i64 0) w := by kernel_rfl
/-- what Left says -/
def lfN (L : LT) (now t : Int) : Int := match lkG L t with | some x => x.2.1 - now | none => 0
def lfE (L : LT) (t : Int) : Int := match lkG L t with | some x => 0 | none => 170
theorem len_m (w : World) (b sb mb n : Nat) (S : Nat → Value) (c : Nat) (D : DataW Unit) (L : LT) (now last : Int) (h : Wm w b sb mb n S c D L now last) :
    Calls Try.prog 22 #[.pointer (some ⟨b, 0, none⟩)] w fun e w' => e = .returned (.int .i64 (L.length : Nat)) ∧ w' = w := by
  have hb := h.blk
  have c1 : w.cell? ⟨b, 1, none⟩ = some (.map (some mb)) := by simp [World.cell?, hb]
  have hown := h.map
  have HS : Hid (Maps.size D = L.length) := h.mp.size
  clear h hb
  go_enter Try.func22, Try.ntmps22
  go_wp2_with (first | (at_len; refine wpList_len_own _ rfl _ 96 rfl tI tI Try.underlying96 _ mb c D rfl hown ?_) | fail)
  go_ret
  exact ⟨by rw [← HS.out]; rfl, rfl⟩
theorem new_no (n : Int) (w : World) (h : n < 1 ∨ 4096 < n) : Calls Try.prog 34 #[.int .i64 n] w fun e w' => e = .returned (.tuple #[.pointer none, .int .i64 1]) ∧ w' = w := by
  by_cases h1 : n < 1
  · clear h
    go_enter Try.func34, Try.ntmps34
    go_wp2
    go_ret2
    exact ⟨rfl, rfl⟩
  · have h2 : 4096 < n := by omega
    clear h
    go_enter Try.func34, Try.ntmps34
    go_wp2
    go_ret2
    exact ⟨rfl, rfl⟩
theorem infoS : (Try.prog.info? tS).map (fun i => (i.zero, i.size, i.bytes)) = some (some (.slice none 0 0), 1, 24) := by kernel_rfl
set_option maxRecDepth 100000 in
theorem new_yes (n : Nat) (w : World) (h1 : 1 ≤ n) (h2 : n ≤ 4096) : Calls Try.prog 34 #[.int .i64 (n : Nat)] w fun e w' => ∃ b, e = .returned (.tuple #[.pointer (some ⟨b, 0, none⟩), .int .i64 0]) ∧ ∃ B, Wl w' b B n [] 0 0 ∧ Below w.heap.size w w' ∧ ∀ g, B g → w.heap.size ≤ g := by
  have hmk := run_make_row' (P := Try.prog) 95 tS (.slice none 0 0) 24 Try.underlying95 infoS rfl .i64 .i64 n (by omega) (by omega)
  have hmm := @run_makeMap Try.prog
  have q1 : ¬ (n : Int) < 1 := by omega
  have q2 : ¬ 4096 < (n : Int) := by omega
  go_enter Try.func34, Try.ntmps34
  go_wp2_with fail
  go_ret2
  refine ⟨w.heap.size + 1 + 1, rfl, Bk (w.heap.size + 1 + 1) w.heap.size (w.heap.size + 1) n (fun _ => .slice none 0 0), ⟨w.heap.size, w.heap.size + 1, fun _ => .slice none 0 0, 0, .map [], ⟨h3_2 _ _ _ _, ?_, fun j hj => World.ownsRow_nil _ _ _ _, fun i j _ _ _ g hg => by simp [Value.ownBlock] at hg, ?_, mp_nil, Nat.zero_le _⟩, fun g => Iff.rfl⟩, below_three _ _ _ _, ?_⟩
  · rw [h3_0]
    congr 2
    apply Array.ext
    · simp [madeCells]
    · intro i a1 a2
      simp [madeCells, Nat.mod_one]
  · have := World.ownsMap_made (H := Unit) (w.alloc (Obj.cells (madeCells #[Value.slice none 0 0] n) tS)) Try.prog tI (plainElem Try.prog tI)
    rw [World.size_alloc] at this
    exact this.alloc _
  · rintro g (rfl | rfl | rfl | ⟨j, hj, hg⟩)
    · omega
    · omega
    · omega
    · simp [Value.ownBlock] at hg
end Go.Proofs.Ytgchdjjafgkcbaa.Fh
