import Derived.Test.YtpifebapodfeaaaGreatQ08
import Derived.Test.YtpifebapodfeaaaGreatQ18
import Derived.Deep.OwnRows
import Derived.Deep.RegionHeld3
import Derived.Deep.RegionWith
/- fitted. -/
namespace Go.Proofs.YtpifebapodfeaaaGreat.Ft
set_option linter.unusedVariables false
open Go.RowKit Cb Fp Sm Pd
theorem made_zero (n : Nat) : madeCells #[.int .u8 0] n = byC n fun _ => 0 := by
  apply Array.ext_getElem?
  intro i
  by_cases hi : i < n
  · rw [byC_get n _ i hi]; simp [madeCells, hi, Nat.mod_one]
  · rw [Array.getElem?_eq_none (by simp [madeCells]; omega), Array.getElem?_eq_none (by rw [byC_size]; omega)]
theorem conv_by {P : Program} {w : World} {src dst e : TypeId} {g n : Nat} {v : Nat → Nat} {t : TypeId} {fr : Nat × Nat} (hv : ∀ i, i < n → v i < 256) (hs : P.underlying src = some (.slice e)) (he : P.underlying e = some (.int .u8)) (hd : P.underlying dst = some .string)
    (hg : w.heap[g]? = some (.cells (byC n v) t fr)) : (convert src dst (.slice (some ⟨g, 0, none⟩) n n)).run P w = .ok (.string ⟨((List.range n).map (fun i => UInt8.ofNat (v i))).toArray⟩) w := by
  have hl : ((List.range n).map (fun i => UInt8.ofNat (v i))).length = n := by simp
  have h := run_convert_bytes_back (P := P) w src dst e ⟨g, 0, none⟩ n ((List.range n).map (fun i => UInt8.ofNat (v i))) hs he hd (fun j hj => by
    rw [hl] at hj
    rw [show (⟨g, 0, none⟩ : Addr).add j = ⟨g, j, none⟩ by unfold Addr.add; split <;> simp_all, cell_of_row w g j _ t fr hg, byC_get _ _ _ hj]
    have := hv j hj
    simp; omega)
  rw [hl] at h
  exact h
theorem set_by {w : World} {g n : Nat} {v : Nat → Nat} {t : TypeId} (hg : w.heap[g]? = some (.cells (byC n v) t)) (hv : ∀ i, v i < 256) (j : Nat) (hj : j < n) (x : Int) (h0 : 0 ≤ x) (h1 : x < 256) :
    ∃ v' : Nat → Nat, (∀ i, v' i < 256) ∧ (w.setCell ⟨g, j, none⟩ (.int .u8 x)).heap[g]? = some (.cells (byC n v') t) := by
  refine ⟨updN v j x.toNat, fun i => ?_, ?_⟩
  · unfold updN
    split
    · omega
    · exact hv i
  · have h := setCell_heap hg j (.int .u8 ((x.toNat : Nat) : Int))
    rw [byC_set n v j x.toNat hj, show ((x.toNat : Nat) : Int) = x by omega] at h
    exact h
set_option maxRecDepth 100000 in
set_option maxHeartbeats 1600000 in
theorem fitted_any (s : ByteArray) (n : Nat) (hn : n ≤ 1000) (hs : s.size ≤ 9223372036854775807) (w : World) :
    Calls Tryz.prog 15 #[.string s, .int .i64 (n : Int)] w fun e w' => ∃ r : ByteArray, e = .returned (.string r) ∧ r.size = n ∧ Below w.heap.size w w' := by
  obtain ⟨i0, hi, hz0, hz1, hz2⟩ := info_parts info
  go_enter Tryz.func15, Tryz.ntmps15
  go_wp2_with (at_make; refine wpList_make_row _ rfl _ _ 75 rfl 5 i0 _ Tryz.underlying75 hi hz0 hz1 rfl _ _ n rfl rfl (by rw [hz2]; omega) (by omega) ?_)
  rw [made_zero]
  have h0 := h1_0 w (Obj.cells (byC n fun _ => 0) 5)
  have b0 := below_one w (Obj.cells (byC n fun _ => 0) 5)
  generalize w.alloc (Obj.cells (byC n fun _ => 0) 5) = W0 at *
  go_loopw [6] (fun c wr => ∃ (j : Nat) (v : Nat → Nat), j ≤ n ∧ c = .int .i64 (j : Int) ∧ (∀ i, v i < 256) ∧ wr.heap[w.heap.size]? = some (.cells (byC n v) 5) ∧ Below w.heap.size w wr) (fun c _ => n + 1 - (intOf c).toNat)
  case atStart => exact ⟨0, fun _ => 0, Nat.zero_le _, rfl, fun _ => (by decide : (0 : Nat) < 256), h0, b0⟩
  case round =>
    obtain ⟨j, v, hj, rfl, hv, hg, hb⟩ := hrel
    by_cases hlt : j < n
    · have q0 : (0 : Int) ≤ (j : Int) := by omega
      have q1 : (j : Int) < (n : Int) := by omega
      have q2 : (j : Int) ≤ 1000 := by omega
      have c0 : wr.cell? ⟨w.heap.size, j, none⟩ = some (.int .u8 ((v j : Nat) : Int)) := by rw [cell_of_row wr _ j _ _ _ hg, byC_get n v j hlt]
      have f0 := R_frozen hg j
      by_cases hz : 0 < s.size
      · have q3 : (s.size : Int) > 0 := by omega
        obtain ⟨v', hv', hg'⟩ := set_by hg hv j hlt (17 * (j : Int) % 256) (by omega) (by omega)
        have hb' := below_setCell hb (Nat.le_refl w.heap.size) j (.int .u8 (17 * (j : Int) % 256))
        have r0 : ¬ (s.size : Int) = 0 := by omega
        have r1 : 0 ≤ (j : Int) % (s.size : Int) := Int.emod_nonneg _ r0
        have r2 : (j : Int) % (s.size : Int) < (s.size : Int) := Int.emod_lt_of_pos _ (by omega)
        have r3 : 0 ≤ (j : Int) / (s.size : Int) := Int.ediv_nonneg q0 (by omega)
        have r4 : (j : Int) / (s.size : Int) ≤ 1000 := Int.le_trans (Int.ediv_le_self _ q0) q2
        go_wp2_with fail
        have c1 : (wr.setCell ⟨w.heap.size, j, none⟩ (.int .u8 (17 * (j : Int) % 256))).cell? ⟨w.heap.size, j, none⟩ = some (.int .u8 ((v' j : Nat) : Int)) := by rw [cell_of_row _ _ j _ _ _ hg', byC_get n v' j hlt]
        have f1 := R_frozen hg' j
        generalize wr.setCell ⟨w.heap.size, j, none⟩ (.int .u8 (17 * (j : Int) % 256)) = W1 at *
        go_region
        go_wp2
        obtain ⟨v2, hv2, hg2⟩ := set_by hg' hv' j hlt ((((s[j % s.size]'(Nat.mod_lt _ hz)).toNat : Int) + (j : Int) / (s.size : Int)) % 256) (Int.emod_nonneg _ (by decide)) (Int.emod_lt_of_pos _ (by decide))
        exact ⟨⟨j + 1, v2, hlt, by simp, hv2, hg2, (below_setCell hb' (Nat.le_refl _) j _).drew⟩, by simp only [intOf]; omega⟩
      · have q3 : ¬ (s.size : Int) > 0 := by omega
        obtain ⟨v', hv', hg'⟩ := set_by hg hv j hlt (17 * (j : Int) % 256) (by omega) (by omega)
        have hb' := below_setCell hb (Nat.le_refl w.heap.size) j (.int .u8 (17 * (j : Int) % 256))
        go_wp2
        exact ⟨⟨j + 1, v', hlt, by simp, hv', hg', hb'⟩, by simp only [intOf]; omega⟩
    · obtain rfl : j = n := by omega
      have q1 : ¬ (j : Int) < (j : Int) := by omega
      have cv := conv_by (P := Tryz.prog) (src := 75) (dst := 9) (e := 5) (n := j) (v := v) (fun i _ => hv i) Tryz.underlying75 Tryz.underlying5 Tryz.underlying9 hg
      obtain ⟨L, hL⟩ : ∃ L, L = ((List.range j).map (fun i => UInt8.ofNat (v i))).toArray := ⟨_, rfl⟩
      have hLs : Hid (L.size = j) := (by rw [hL]; simp : L.size = j)
      rw [← hL] at cv
      clear hL
      go_wp2
      go_ret
      exact ⟨_, rfl, hLs.out, hb⟩
theorem wf_i64 {a : Int} (h : (Lit.int .i64 a).wf = true) : -9223372036854775808 ≤ a ∧ a ≤ 9223372036854775807 := by
  simp [Lit.wf, IntKind.min, IntKind.max, IntKind.signed, IntKind.bits] at h; omega
/-- pick, as a natural number -/
theorem pick_nat (a : Int) (h : (Lit.int .i64 a).wf = true) (n : Nat) (hn : 0 < n) (hn2 : n ≤ 1000000) : ∃ p : Nat, p < n ∧ ∀ y, Calls Tryz.prog 6 #[.int .i64 a, .int .i64 (n : Int)] y fun e w' => e = .returned (.int .i64 (p : Int)) ∧ w' = y := by
  have hb := wf_i64 h
  have h1 := Pick.pick_lo a (n : Int) (by omega)
  have h2 := Pick.pick_hi a (n : Int) (by omega)
  refine ⟨(Pick.pickOf a (n : Int)).toNat, by omega, fun y => ?_⟩
  have := Pick.pick_any a (n : Int) y (by omega) (by omega) (by omega) (by omega)
  rw [show Pick.pickOf a (n : Int) = (((Pick.pickOf a (n : Int)).toNat : Nat) : Int) by omega] at this
  exact this
/-- the algorithm and the method that are picked -/
theorem pick_alg (a : Int) (h : (Lit.int .i64 a).wf = true) : ∃ (p : Int) (alg : Nat), 0 ≤ p ∧ p ≤ 1 ∧ (alg = 1 ∨ alg = 3) ∧ 1 + 2 * p = (alg : Int) ∧ ∀ y, Calls Tryz.prog 6 #[.int .i64 a, .int .i64 2] y fun e w' => e = .returned (.int .i64 p) ∧ w' = y := by
  obtain ⟨p, hp, C⟩ := pick_nat a h 2 (by decide) (by decide)
  exact ⟨p, 1 + 2 * p, by omega, by omega, by omega, by omega, C⟩
theorem pick_met (a : Int) (h : (Lit.int .i64 a).wf = true) : ∃ (p : Int) (m : Nat), 0 ≤ p ∧ p ≤ 1 ∧ (m = 1 ∨ m = 2) ∧ 1 + p = (m : Int) ∧ ∀ y, Calls Tryz.prog 6 #[.int .i64 a, .int .i64 2] y fun e w' => e = .returned (.int .i64 p) ∧ w' = y := by
  obtain ⟨p, hp, C⟩ := pick_nat a h 2 (by decide) (by decide)
  exact ⟨p, 1 + p, by omega, by omega, by omega, by omega, C⟩
end Go.Proofs.YtpifebapodfeaaaGreat.Ft
/- Both rows of slots, beside one another. -/
namespace Go.Proofs.YtpifebapodfeaaaGreat.Dj
set_option linter.unusedVariables false
open Go.RowKit Pla Cb Sm Wd Nw Bk Eb Et Cc Ch Pm Fp Sp Pe Se Tg Sd Sq Sr Dd De Rg Df Wk Sx Sy Dg Dh Sw Di
/-- as it was, but for these blocks -/
def FL (L : List Nat) (a w : World) : Prop := w.os = a.os ∧ w.tape = a.tape ∧ w.output = a.output ∧ a.heap.size ≤ w.heap.size ∧ ∀ k, k < a.heap.size → k ∉ L → w.heap[k]? = a.heap[k]?
theorem FL.refl (L : List Nat) (a : World) : FL L a a := ⟨rfl, rfl, rfl, Nat.le_refl _, fun _ _ _ => rfl⟩
theorem FL.trans {L : List Nat} {a w x : World} (h : FL L a w) (k : FL L w x) : FL L a x :=
  ⟨k.1.trans h.1, k.2.1.trans h.2.1, k.2.2.1.trans h.2.2.1, Nat.le_trans h.2.2.2.1 k.2.2.2.1, fun i hi h1 => (k.2.2.2.2 i (Nat.lt_of_lt_of_le hi h.2.2.2.1) h1).trans (h.2.2.2.2 i hi h1)⟩
theorem FL.of_fr {L : List Nat} {b d : Nat} {a w : World} (h : Fr b d a w) (hb : b ∈ L) (hd : d ∈ L) : FL L a w :=
  ⟨h.1, h.2.1, h.2.2.1, h.2.2.2.1, fun k hk hn => h.2.2.2.2 k hk (fun e => hn (e ▸ hb)) (fun e => hn (e ▸ hd))⟩
theorem FL.of_below {L : List Nat} {a w : World} (h : Below a.heap.size a w) : FL L a w := ⟨h.os, h.tape, h.output, h.size, fun k hk _ => h.block k hk⟩
theorem FL.below {L : List Nat} {B : Nat} {a w : World} (h : FL L a w) (hL : ∀ k ∈ L, B ≤ k) (hB : B ≤ a.heap.size) : Below B a w :=
  ⟨h.1, h.2.1, h.2.2.1, h.2.2.2.1, fun k hk => h.2.2.2.2 k (by omega) (fun hm => by have := hL k hm; omega)⟩
theorem FL.keep {L : List Nat} {g : Nat} {a w : World} {o : Obj} (h : FL L a w) (hg : a.heap[g]? = some o) (h1 : g ∉ L) : w.heap[g]? = some o := (h.2.2.2.2 g (Array.getElem?_eq_some_iff.1 hg).1 h1).trans hg
/-- these blocks are no keys and no sealers -/
def Lt (a : World) (L : List Nat) : Prop := ∀ k ∈ L, ∃ A t, a.heap[k]? = some (.cells A t) ∧ t ≠ 117 ∧ t ≠ 83
theorem key_fl {L : List Nat} {a w : World} {g K : Nat} {l : List UInt8} (h : FL L a w) (hL : Lt a L) (hk : Key a g K l) : Key w g K l :=
  h.keep hk fun hm => by
    obtain ⟨A, t, e, h1, _⟩ := hL g hm
    exact ne_of_type hk e (fun x => h1 x.symm) rfl
theorem sealed_fl {L : List Nat} {a w : World} {g alg m : Nat} {key : List UInt8} (h : FL L a w) (hL : Lt a L) (hs : Sealed a g alg m key) : Sealed w g alg m key := by
  obtain ⟨g1, p2, h1, h2, h3⟩ := hs
  refine ⟨g1, p2, h.keep h1 (fun hm => ?_), key_fl h hL h2, fun e => ?_⟩
  · obtain ⟨A, t, e, _, h2'⟩ := hL g hm
    exact ne_of_type h1 e (fun x => h2' x.symm) rfl
  · obtain ⟨g2, e2, k2⟩ := h3 e
    exact ⟨g2, e2, key_fl h hL k2⟩
theorem has_fl {L : List Nat} {a w : World} (h : FL L a w) (hL : Lt a L) {o : Option Held} {p x r : Value} (hh : Has a o p x r) : Has w o p x r := by
  cases o with
  | none => exact hh
  | some hl =>
    obtain ⟨h1, h2, ⟨g, h3, h4⟩, h5⟩ := hh
    refine ⟨h1, h2, ⟨g, h3, sealed_fl h hL h4⟩, ?_⟩
    rcases h5 with h5 | ⟨h5, gx, h6, h7⟩
    · exact .inl h5
    · exact .inr ⟨h5, gx, h6, key_fl h hL h7⟩
theorem slots_fl {L : List Nat} {a w : World} {b d n : Nat} {f : Nat → Option Held} (h : FL L a w) (hL : Lt a L) (hS : Slots a b d n f) (hb : b ∉ L) (hd : d ∉ L) : Slots w b d n f := by
  obtain ⟨hm, n1, n2, A, h1, h2, h3⟩ := hS
  exact ⟨h.keep hm hb, n1, n2, A, h1, h.keep h2 hd, fun i hi => by obtain ⟨p, x, r, e1, e2, e3, e4⟩ := h3 i hi; exact ⟨p, x, r, e1, e2, e3, has_fl h hL e4⟩⟩
theorem dslots_fl {L : List Nat} {a w : World} {b d n : Nat} {f : Nat → Option Held} (h : FL L a w) (hS : DSlots a b d n f) (hb : b ∉ L) (hd : d ∉ L) : DSlots w b d n f := by
  obtain ⟨hm, n1, n2, A, h1, h2, h3⟩ := hS
  exact ⟨h.keep hm hb, n1, n2, A, h1, h.keep h2 hd, h3⟩
/-- the program's slots and the document's have the same -/
def Syn (w : World) (b1 d1 b2 d2 n : Nat) (f : Nat → Option Held) : Prop := Slots w b1 d1 n f ∧ DSlots w b2 d2 n f
theorem slots_lt {w : World} {b d n : Nat} {f : Nat → Option Held} (hS : Slots w b d n f) : Lt w [b, d] := by
  obtain ⟨hm, _, _, A, hr⟩ := hS
  intro k hk
  rcases List.mem_cons.1 hk with rfl | hk
  · exact ⟨_, _, hm, by decide, by decide⟩
  · obtain rfl := List.mem_singleton.1 hk
    exact ⟨_, _, hr.2.1, by decide, by decide⟩
theorem dslots_lt {w : World} {b d n : Nat} {f : Nat → Option Held} (hS : DSlots w b d n f) : Lt w [b, d] := by
  obtain ⟨hm, _, _, A, hr⟩ := hS
  intro k hk
  rcases List.mem_cons.1 hk with rfl | hk
  · exact ⟨_, _, hm, by decide, by decide⟩
  · obtain rfl := List.mem_singleton.1 hk
    exact ⟨_, _, hr.2.1, by decide, by decide⟩
theorem syn_lt {w : World} {b1 d1 b2 d2 n : Nat} {f : Nat → Option Held} (hS : Syn w b1 d1 b2 d2 n f) : Lt w [b1, d1, b2, d2] := by
  intro k hk
  have h1 := slots_lt hS.1
  have h2 := dslots_lt hS.2
  rcases List.mem_cons.1 hk with e | hk
  · exact h1 k (by rw [e]; exact List.mem_cons_self ..)
  · rcases List.mem_cons.1 hk with e | hk
    · exact h1 k (by rw [e]; exact List.mem_cons_of_mem _ (List.mem_cons_self ..))
    · exact h2 k hk
/-- four blocks, all unlike -/
theorem syn_ne {w : World} {b1 d1 b2 d2 n : Nat} {f g : Nat → Option Held} (h1 : Slots w b1 d1 n f) (h2 : DSlots w b2 d2 n g) : b2 ≠ b1 ∧ b2 ≠ d1 ∧ d2 ≠ b1 ∧ d2 ≠ d1 := by
  obtain ⟨hm, _, _, A, hr⟩ := h1
  obtain ⟨gm, _, _, B, gr⟩ := h2
  exact ⟨ne_of_type gm hm (by decide), ne_of_type gm hr.2.1 (by decide), ne_of_type gr.2.1 hm (by decide), ne_of_type gr.2.1 hr.2.1 (by decide)⟩
/-- behind the program's own doing -/
theorem syn_a {w y : World} {b1 d1 b2 d2 n : Nat} {f f' : Nat → Option Held} (hS : Syn w b1 d1 b2 d2 n f) (h1 : Slots y b1 d1 n f') (hf : Fr b1 d1 w y) : DSlots y b2 d2 n f := by
  obtain ⟨e1, e2, e3, e4⟩ := syn_ne hS.1 hS.2
  exact dslots_fl (FL.of_fr (L := [b1, d1]) hf (by simp) (by simp)) hS.2 (by simp [e1, e2]) (by simp [e3, e4])
/-- behind the document's own doing -/
theorem syn_b {w y : World} {b1 d1 b2 d2 n : Nat} {f f' : Nat → Option Held} (h1 : Slots w b1 d1 n f) (h2 : DSlots w b2 d2 n f') (hf : Fr d2 d2 w y) : Slots y b1 d1 n f := by
  obtain ⟨e1, e2, e3, e4⟩ := syn_ne h1 h2
  have hl := dslots_lt h2
  refine slots_fl (FL.of_fr (L := [d2]) hf (by simp) (by simp)) (fun k hk => hl k (by simp at hk; simp [hk])) h1 (by simp; exact e3.symm) (by simp; exact e4.symm)
theorem syn_below {w y : World} {b1 d1 b2 d2 n : Nat} {f : Nat → Option Held} (hS : Syn w b1 d1 b2 d2 n f) (h : Below w.heap.size w y) : Syn y b1 d1 b2 d2 n f :=
  ⟨slots_fl (L := []) (FL.of_below h) (fun k hk => by cases hk) hS.1 (by simp) (by simp), dslots_below h hS.2⟩
theorem syn_fl {L : List Nat} {w y : World} {b1 d1 b2 d2 n : Nat} {f : Nat → Option Held} (hS : Syn w b1 d1 b2 d2 n f) (h : FL L w y) (hL : Lt w L) (e1 : b1 ∉ L) (e2 : d1 ∉ L) (e3 : b2 ∉ L) (e4 : d2 ∉ L) : Syn y b1 d1 b2 d2 n f :=
  ⟨slots_fl h hL hS.1 e1 e2, dslots_fl h hS.2 e3 e4⟩
/-! the statement's helpers: they hand something back -/
theorem near_any (c : Int) (hc : (Lit.int .i64 c).wf = true) (n : Nat) (h1 : 1 ≤ n) (hn : n ≤ 1000) (w : World) : Calls Tryz.prog 12 #[.int .i64 c, .int .i64 (n : Int)] w fun e w' => ∃ r : Int, -1 ≤ r ∧ r ≤ (n : Int) ∧ e = .returned (.int .i64 r) ∧ w' = w := by
  obtain ⟨p, hp, PK⟩ := Ft.pick_nat c hc (n + 2) (by omega) (by omega)
  rw [show ((n + 2 : Nat) : Int) = (n : Int) + 2 by omega] at PK
  have q : (p : Int) ≤ 1001 := by omega
  go_enter Tryz.func12, Tryz.ntmps12
  go_wp2_with (go_at_call 6; refine (PK _).mono ?_; rintro e x ⟨rfl, hx⟩; rw [hx])
  go_ret
  exact ⟨_, by omega, by omega, rfl, rfl⟩
theorem lit5 (w : World) (g q : Nat) (t : TypeId) (hq : q < 5) (v0 v1 v2 v3 v4 : ByteArray) (h0 : v0.size = 8) (h1 : v1.size = 8) (h2 : v2.size = 8) (h3 : v3.size = 8) (h4 : v4.size = 8) (h : w.heap[g]? = some (.cells #[.string v0, .string v1, .string v2, .string v3, .string v4] t)) : ∃ v : ByteArray, v.size = 8 ∧ w.cell? ⟨g, q, Option.none⟩ = some (.string v) := by
  match q, hq with
  | 0, _ => exact ⟨v0, h0, by rw [cell_of_row w g 0 _ t _ h]; rfl⟩
  | 1, _ => exact ⟨v1, h1, by rw [cell_of_row w g 1 _ t _ h]; rfl⟩
  | 2, _ => exact ⟨v2, h2, by rw [cell_of_row w g 2 _ t _ h]; rfl⟩
  | 3, _ => exact ⟨v3, h3, by rw [cell_of_row w g 3 _ t _ h]; rfl⟩
  | 4, _ => exact ⟨v4, h4, by rw [cell_of_row w g 4 _ t _ h]; rfl⟩
end Go.Proofs.YtpifebapodfeaaaGreat.Dj
/- The statement's helpers: weak, wrapped, bent. -/
namespace Go.Proofs.YtpifebapodfeaaaGreat.Dk
set_option linter.unusedVariables false
open Go.RowKit Pla Cb Sm Wd Nw Bk Eb Et Cc Ch Pm Fp Sp Pe Se Tg Sd Sq Sr Dd De Rg Df Wk Sx Sy Dg Dh Sw Di Dj
set_option maxRecDepth 100000 in
set_option maxHeartbeats 1600000 in
theorem weak_some (n : Nat) (hn : n = 8 ∨ n = 16) (c : Int) (hc : (Lit.int .i64 c).wf = true) (w : World) : Calls Tryz.prog 30 #[.int .i64 (n : Int), .int .i64 c] w fun e w' => ∃ r : ByteArray, e = .returned (.string r) ∧ r.size = n ∧ Below w.heap.size w w' := by
  obtain ⟨p, hp, PK⟩ := Ft.pick_nat c hc 5 (by decide) (by decide)
  rw [show ((5 : Nat) : Int) = 5 from rfl] at PK
  have hb := Ft.wf_i64 hc
  obtain ⟨hb1, hb2⟩ := hb
  obtain ⟨v, hv, cv⟩ := lit5 (w.alloc (Obj.cells #[.string ⟨#[1, 1, 1, 1, 1, 1, 1, 1]⟩, .string ⟨#[254, 254, 254, 254, 254, 254, 254, 254]⟩, .string ⟨#[224, 224, 224, 224, 241, 241, 241, 241]⟩, .string ⟨#[31, 31, 31, 31, 14, 14, 14, 14]⟩, .string ⟨#[0, 1, 0, 1, 0, 1, 0, 1]⟩] 9)) w.heap.size p 9 hp _ _ _ _ _ rfl rfl rfl rfl rfl (h1_0 w _)
  have bw := below_one w (Obj.cells #[.string ⟨#[1, 1, 1, 1, 1, 1, 1, 1]⟩, .string ⟨#[254, 254, 254, 254, 254, 254, 254, 254]⟩, .string ⟨#[224, 224, 224, 224, 241, 241, 241, 241]⟩, .string ⟨#[31, 31, 31, 31, 14, 14, 14, 14]⟩, .string ⟨#[0, 1, 0, 1, 0, 1, 0, 1]⟩] 9)
  have i0 : (0 : Int) ≤ (p : Int) := by omega
  have i1 : (p : Int) < 5 := by omega
  have c1 : ¬ 9223372036854775807 < (8 : Nat) + v.size := by omega
  have c2 : ¬ 9223372036854775807 < v.size + (8 : Nat) := by omega
  have hv' : Hid (v.size = 8) := hv
  have s1 : Hid (((⟨#[97, 98, 99, 100, 101, 102, 103, 104]⟩ : ByteArray) ++ v).size = 16) := by show _ = _; rw [ByteArray.size_append, hv]; rfl
  have s2 : Hid ((v ++ (⟨#[97, 98, 99, 100, 101, 102, 103, 104]⟩ : ByteArray)).size = 16) := by show _ = _; rw [ByteArray.size_append, hv]; rfl
  clear hp hv hc
  rcases hn with rfl | rfl
  · go_enter Tryz.func30, Tryz.ntmps30
    go_wp2_with (go_at_call 6; refine (PK _).mono ?_; rintro e x ⟨rfl, hx⟩; rw [hx])
    all_goals (go_ret; exact ⟨_, rfl, by first | exact hv'.out | exact s1.out | exact s2.out, bw⟩)
  · go_enter Tryz.func30, Tryz.ntmps30
    go_wp2_with (go_at_call 6; refine (PK _).mono ?_; rintro e x ⟨rfl, hx⟩; rw [hx])
    all_goals (go_ret; exact ⟨_, rfl, by first | exact hv'.out | exact s1.out | exact s2.out, bw⟩)
set_option maxRecDepth 100000 in
set_option maxHeartbeats 1600000 in
theorem wrapped_none (key : ByteArray) (w : World) (B : Bool) (i1 i2 i5 : Int) (t3 : ByteArray) : Calls Tryz.prog 31 #[.agg #[.bool B, .int .i64 i1, .int .i64 i2, .string t3, .string ⟨#[]⟩, .int .i64 i5], .string key] w fun e w' => e = .returned (.tuple #[.string ⟨#[]⟩, .string ⟨#[]⟩]) ∧ Below w.heap.size w w' := by
  go_enter Tryz.func31, Tryz.ntmps31
  go_wp2
  exact bodyPost_ret (v := .tuple #[.string ⟨#[]⟩, .string ⟨#[]⟩]) (by simp [results, Tryz.results31, go_sem]) rfl ⟨rfl, below_one w _⟩
set_option maxRecDepth 100000 in
set_option maxHeartbeats 1600000 in
theorem wrapped_some (key : ByteArray) (N : Nat) (hN : key.size = 8 * N) (hN2 : N = 1 ∨ N = 2) (w : World) (B : Bool) (i1 i2 i5 : Int) (t3 ex : ByteArray) (hx : ex.size = 16) : Calls Tryz.prog 31 #[.agg #[.bool B, .int .i64 i1, .int .i64 i2, .string t3, .string ex, .int .i64 i5], .string key] w fun e w' => ∃ r1 r2 : ByteArray, e = .returned (.tuple #[.string r1, .string r2]) ∧ r2.size ≤ 100 ∧ Below w.heap.size w w' := by
  have e1 : ex.toList.isEmpty = false := by have := ex_ne ex hx; simpa using this
  have TU := fun y => Ru.turn_ref ex key false (.inr (.inl hx)) N hN (by omega) y
  have hz : ¬ kindN key.size = 0 := by rw [hN]; rcases hN2 with rfl | rfl <;> decide
  have CK := fun y => Ok.check_ref key hz y
  have zc : (ByteArray.mk ((byW (enc key.data.toList Ck.z64)).take 3).toArray).size ≤ 100 := by show ((byW _).take 3).toArray.size ≤ 100; rw [List.size_toArray, List.length_take]; omega
  generalize Ru.turnB ex.data.toList false key N = R1 at *
  generalize (ByteArray.mk ((byW (enc key.data.toList Ck.z64)).take 3).toArray) = R2 at *
  clear hz hN hN2 hx
  go_enter Tryz.func31, Tryz.ntmps31
  go_wp2_with (first
    | (go_at_call 43; refine (TU _).mono ?_; rintro e y2 ⟨rfl, hy2⟩)
    | (go_at_call 47; refine (CK _).mono ?_; rintro e y4 ⟨rfl, hy4⟩))
  exact bodyPost_ret (v := .tuple #[.string R1, .string R2]) (by simp [results, Tryz.results31, go_sem]) rfl ⟨R1, R2, rfl, zc, keepB (keepB (below_one w _) hy2) hy4⟩
theorem wrapped_any (o : Option Held) (hok : ∀ h, o = Option.some h → h.Ok) (key : ByteArray) (N : Nat) (hN : key.size = 8 * N) (hN2 : N = 1 ∨ N = 2) (w : World) : Calls Tryz.prog 31 #[.agg (dC o), .string key] w fun e w' => ∃ r1 r2 : ByteArray, e = .returned (.tuple #[.string r1, .string r2]) ∧ r2.size ≤ 100 ∧ Below w.heap.size w w' := by
  cases o with
  | none => exact (wrapped_none key w _ _ _ _ _).mono fun e w' h => ⟨_, _, h.1, by decide, h.2⟩
  | some h =>
    rcases (hok h rfl).ex with hx | hx
    · have e := emp_ba h.ex hx
      simp only [dC, e]
      exact (wrapped_none key w _ _ _ _ _).mono fun e w' h => ⟨_, _, h.1, by decide, h.2⟩
    · exact wrapped_some key N hN hN2 w _ _ _ _ _ _ hx
theorem conv1 (w : World) (v : UInt8) : (convert 75 9 (.slice (some ⟨w.heap.size, 0, Option.none⟩) 1 1)).run Tryz.prog ((w.alloc (Obj.cells #[.int .u8 (v.toNat : Int)] 5)).drew) = .ok (.string ⟨#[v]⟩) ((w.alloc (Obj.cells #[.int .u8 (v.toNat : Int)] 5)).drew) :=
  Pd.R_str (P := Tryz.prog) (w := (w.alloc (Obj.cells #[.int .u8 (v.toNat : Int)] 5)).drew) (src := 75) (dst := 9) (e := 5) (l := [v]) Tryz.underlying75 Tryz.underlying5 Tryz.underlying9 (h1_0 w (Obj.cells #[.int .u8 (v.toNat : Int)] 5)) 1
theorem pow8 (q : Nat) (h : q < 8) : IntKind.u8.wrap ((2 : Int) ^ q) = ((UInt8.ofNat (2 ^ q)).toNat : Int) := by
  match q, h with
  | 0, _ => decide +kernel
  | 1, _ => decide +kernel
  | 2, _ => decide +kernel
  | 3, _ => decide +kernel
  | 4, _ => decide +kernel
  | 5, _ => decide +kernel
  | 6, _ => decide +kernel
  | 7, _ => decide +kernel
set_option maxRecDepth 100000 in
set_option maxHeartbeats 1600000 in
theorem bent_any (s : ByteArray) (hs : s.size ≤ 100) (c : Int) (hc : (Lit.int .i64 c).wf = true) (w : World) : Calls Tryz.prog 16 #[.string s, .int .i64 c] w fun e w' => ∃ r : ByteArray, e = .returned (.string r) ∧ Below w.heap.size w w' := by
  by_cases h0 : s.size = 0
  · have e := emp_ba s h0
    subst e
    go_enter Tryz.func16, Tryz.ntmps16
    go_wp2
    go_ret
    exact ⟨_, rfl, Below.refl _ _⟩
  · have e1 : s.toList.isEmpty = false := by
      have h : (s.toList == (ByteArray.mk #[]).toList) = false := (Lib.bytes_beq_false_iff s _).2 fun e => h0 (by rw [e]; rfl)
      simpa using h
    obtain ⟨p, hp, PK⟩ := Ft.pick_nat c hc s.size (by omega) (by omega)
    have hb := Ft.wf_i64 hc
    obtain ⟨hb1, hb2⟩ := hb
    obtain ⟨D, hD⟩ : ∃ D : Int, D = Int.tdiv c 8 := ⟨_, rfl⟩
    have hDw : (Lit.int .i64 D).wf = true := by
      have h1 : D ≤ 9223372036854775807 ∧ -9223372036854775808 ≤ D := by
        rw [hD]
        rcases Int.le_total 0 c with h | h
        · rw [Int.tdiv_eq_ediv_of_nonneg h]; omega
        · have e : c.tdiv 8 = -((-c) / 8) := by rw [← Int.tdiv_eq_ediv_of_nonneg (by omega), Int.neg_tdiv, Int.neg_neg]
          rw [e]; omega
      simp [Lit.wf, IntKind.min, IntKind.max, IntKind.signed, IntKind.bits]; omega
    obtain ⟨q, hq, PQ⟩ := Ft.pick_nat D hDw 8 (by decide) (by decide)
    rw [show ((8 : Nat) : Int) = 8 from rfl] at PQ
    have i0 : (0 : Int) ≤ (p : Int) := by omega
    have i1 : (p : Int) < (s.size : Int) := by omega
    have i2 : (p : Int) ≤ (s.size : Int) := by omega
    have i3 : (p : Int) + 1 ≤ (s.size : Int) := by omega
    have i4 : (s.size : Int) ≤ 100 := by omega
    have i5 : (0 : Int) ≤ (q : Int) := by omega
    have i6 : (q : Int) < 8 := by omega
    go_enter Tryz.func16, Tryz.ntmps16
    go_wp2_with (go_at_call 6; refine (PK _).mono ?_; rintro e x ⟨rfl, hx⟩; rw [hx])
    have hD' := hD.symm
    have wD : IntKind.i64.wrap D = D := by rw [IntKind.wrap_i64]; have := Ft.wf_i64 hDw; omega
    have wP : IntKind.i64.wrap ((p : Int) + 1) = (p : Int) + 1 := by rw [IntKind.wrap_i64]; omega
    obtain ⟨v, hv⟩ : ∃ v : UInt8, v = s[p] ^^^ UInt8.ofNat (2 ^ q) := ⟨_, rfl⟩
    have u1 : bits .xor .u8 (s[p].toNat : Int) (IntKind.u8.wrap ((2 : Int) ^ q)) = (v.toNat : Int) := by rw [pow8 q hq, hv]; exact Sa.xor8 _ _
    have hcv := conv1 w v
    have bw : Below w.heap.size w ((w.alloc (Obj.cells #[.int .u8 (v.toNat : Int)] 5)).drew) := (below_one w _).drew
    have i7 : (0 : Int) ≤ (p : Int) + 1 := by omega
    have z1 : (s.extract 0 p).size = p := by rw [ByteArray.size_extract]; omega
    have c1 : ¬ 9223372036854775807 < (s.extract 0 p).size + (ByteArray.mk #[v]).size := by rw [z1]; show ¬ 9223372036854775807 < p + 1; omega
    have c2 : ¬ 9223372036854775807 < (s.extract 0 p ++ ByteArray.mk #[v]).size + (s.extract (p + 1) s.size).size := by rw [ByteArray.size_append, z1, ByteArray.size_extract]; show ¬ 9223372036854775807 < p + 1 + _; omega
    clear hD hv z1
    go_region_with (go_at_call 6; refine (PQ _).mono ?_; rintro e y ⟨rfl, rfl⟩)
    all_goals (
      go_wp2
      go_ret
      exact ⟨_, rfl, bw⟩)
end Go.Proofs.YtpifebapodfeaaaGreat.Dk
/- changes: the steps that change a key. -/
namespace Go.Proofs.YtpifebapodfeaaaGreat.Dl
set_option linter.unusedVariables false
open Go.RowKit Pla Cb Sm Wd Nw Bk Eb Et Cc Ch Pm Fp Sp Pe Se Tg Sd Sq Sr Dd De Rg Df Wk Sx Sy Dg Dh Sw Di Dj Dk
theorem op_cells {y : World} {g : Nat} {v0 v1 v2 v3 v4 v5 v6 v7 : Value} {t : TypeId} (h : y.heap[g]? = some (.cells #[v0, v1, v2, v3, v4, v5, v6, v7] t)) :
    y.cell? ⟨g, 0, Option.none⟩ = some v0 ∧ y.cell? ⟨g, 1, Option.none⟩ = some v1 ∧ y.cell? ⟨g, 2, Option.none⟩ = some v2 ∧ y.cell? ⟨g, 3, Option.none⟩ = some v3 ∧ y.cell? ⟨g, 4, Option.none⟩ = some v4 ∧ y.cell? ⟨g, 5, Option.none⟩ = some v5 ∧ y.cell? ⟨g, 6, Option.none⟩ = some v6 ∧ y.cell? ⟨g, 7, Option.none⟩ = some v7 :=
  ⟨cell_of_row y g 0 _ t _ h, cell_of_row y g 1 _ t _ h, cell_of_row y g 2 _ t _ h, cell_of_row y g 3 _ t _ h, cell_of_row y g 4 _ t _ h, cell_of_row y g 5 _ t _ h, cell_of_row y g 6 _ t _ h, cell_of_row y g 7 _ t _ h⟩
theorem syn_nm {y : World} {b1 d1 b2 d2 n g : Nat} {f : Nat → Option Held} {A : Array Value} {t : TypeId} (hS : Syn y b1 d1 b2 d2 n f) (h : y.heap[g]? = some (.cells A t)) (ht : t = 35 ∨ t = 67 ∧ d2 ≠ g) : g ∉ [b1, d1, b2, d2] := by
  obtain ⟨⟨hm, _, _, A1, hr⟩, ⟨gm, _, _, B1, gr⟩⟩ := hS
  simp only [List.mem_cons, List.not_mem_nil, or_false, not_or]
  rcases ht with rfl | ⟨rfl, hd⟩
  · exact ⟨ne_of_type h hm (by decide), ne_of_type h hr.2.1 (by decide), ne_of_type h gm (by decide), ne_of_type h gr.2.1 (by decide)⟩
  · exact ⟨ne_of_type h hm (by decide), ne_of_type h hr.2.1 (by decide), ne_of_type h gm (by decide), fun e => hd e.symm⟩
theorem fl_a {y z : World} {b1 d1 b2 d2 : Nat} (h : Fr b1 d1 y z) : FL [b1, d1, b2, d2] y z := FL.of_fr h (by simp) (by simp)
theorem fl_b {y z : World} {b1 d1 b2 d2 : Nat} (h : Fr d2 d2 y z) : FL [b1, d1, b2, d2] y z := FL.of_fr h (by simp) (by simp)
set_option maxRecDepth 100000 in
set_option maxHeartbeats 1600000 in
theorem changes_six (b1 d1 b2 d2 n : Nat) (f : Nat → Option Held) (slot on sl al me : Int) (key ex text : ByteArray) (w : World) (hS : Syn w b1 d1 b2 d2 n f) :
    Calls Tryz.prog 19 #[.pointer (some ⟨b1, 0, Option.none⟩), .pointer (some ⟨b2, 0, Option.none⟩), .int .i64 slot, .agg #[.int .i64 6, .int .i64 on, .int .i64 sl, .int .i64 al, .int .i64 me, .string key, .string ex, .string text]] w
      fun e w' => ∃ f', e = .returned (.bool true) ∧ Syn w' b1 d1 b2 d2 n f' ∧ FL [b1, d1, b2, d2] w w' := by
  have CA := fun y (h : Slots y b1 d1 n f) => Change_any b1 d1 n f slot (fun a e => slots_ok h slot a e) key text y h
  have CB := fun y (h : DSlots y b2 d2 n f) => Changer_any b2 d2 n f slot (fun a e => slots_ok hS.1 slot a e) key text y h
  have RA := fun y h => Round_any b1 d1 n (chgF n f slot key text) slot y h
  have RB := fun y h => Roundr b2 d2 n (chgF n f slot key text) slot y h
  have B1 := below_one w (Obj.cells #[.int .i64 6, .int .i64 on, .int .i64 sl, .int .i64 al, .int .i64 me, .string key, .string ex, .string text] 35)
  have hS1 := syn_below hS B1
  have F1 : FL [b1, d1, b2, d2] w _ := FL.of_below B1
  generalize hf' : chgF n f slot key text = f' at *
  generalize hE : chgE (getO n f slot) key text = E at *
  generalize (roundOf (getO n f' slot) : Int) = R at *
  clear hf' hE hS B1
  go_enter Tryz.func19, Tryz.ntmps19
  go_wp2_with (first
    | (go_at_call 32; refine (CA _ hS1.1).mono ?_; rintro e y1 ⟨rfl, hA1, g1⟩; have hB1 := syn_a hS1 hA1 g1; have F2 := F1.trans (fl_a g1))
    | (go_at_call 33; refine (CB _ hB1).mono ?_; rintro e y2 ⟨rfl, hB2, g2⟩; have hA2 := syn_b hA1 hB1 g2; have F3 := F2.trans (fl_b g2))
    | (go_at_call 10; refine (RA _ hA2).mono ?_; rintro e y3 ⟨rfl, hA3, g3⟩; have hB3 := syn_a ⟨hA2, hB2⟩ hA3 g3; have F4 := F3.trans (fl_a g3))
    | (go_at_call 11; refine (RB _ hB3).mono ?_; rintro e y4 ⟨rfl, g4⟩; have hS4 := syn_below ⟨hA3, hB3⟩ g4; have F5 := F4.trans (FL.of_below g4)))
  go_ret
  exact ⟨_, by simp, hS4, F5⟩
end Go.Proofs.YtpifebapodfeaaaGreat.Dl
