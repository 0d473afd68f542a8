/- Which nodes can't be written. -/
import Derived.Test.YtgidjfhlooggkaaWk
import Derived.Test.YtgidjfhlooggkaaLs
import Derived.Test.YtgidjfhlooggkaaGn
import Derived.Laws.EntriesVeiled
namespace Go.Proofs.Ytgidjfhlooggkaa.Wr
set_option linter.unusedVariables false
set_option linter.unusedSimpArgs false
open Go.RowKit Go.Shelf Kb Ga Gb Gc Nt Wk Ls
attribute [local go_sem] Oper.semAt_some
/-- why one of them can't be written; 0: it can -/
def wrC (c d : Nat) (t : Int) (v : ByteArray) (kl : Nat) : Int := if 500 < c + 1 then 93 else if 8 < d then 92 else if ftB t v kl then 0 else 90
def wr1 (c : Nat) (x : El) : Int := wrC c x.1 x.2.tag x.2.val x.2.kids.length
def wrR : Nat → List El → Int
  | _, [] => 0
  | c, x :: r => if wr1 c x = 0 then wrR (c + 1) r else wr1 c x
theorem wrR_cons {c : Nat} {x : El} (r : List El) (h : wr1 c x = 0) : wrR c (x :: r) = wrR (c + 1) r := by simp only [wrR]; rw [if_pos h]
theorem wrR_hit {c : Nat} {x : El} (r : List El) (h : wr1 c x ≠ 0) : wrR c (x :: r) = wr1 c x := by simp only [wrR]; rw [if_neg h]
theorem wrR_go : ∀ (a : List El) (c : Nat) (b : List El), wrR c a = 0 → wrR c (a ++ b) = wrR (c + a.length) b
  | [], c, b, _ => by simp
  | x :: a, c, b, h => by
    by_cases h1 : wr1 c x = 0
    · rw [wrR_cons a h1] at h
      rw [List.cons_append, wrR_cons _ h1, wrR_go a (c + 1) b h, List.length_cons, show c + 1 + a.length = c + (a.length + 1) by omega]
    · rw [wrR_hit a h1] at h; exact absurd h h1
theorem wrR_end : ∀ (a : List El) (c : Nat) (b : List El), wrR c a ≠ 0 → wrR c (a ++ b) = wrR c a
  | [], c, b, h => absurd (by simp [wrR]) h
  | x :: a, c, b, h => by
    by_cases h1 : wr1 c x = 0
    · rw [wrR_cons a h1] at h ⊢
      rw [List.cons_append, wrR_cons _ h1, wrR_end a (c + 1) b h]
    · rw [List.cons_append, wrR_hit _ h1, wrR_hit _ h1]
theorem wrR_snoc {a : List El} {x : El} (h : wrR 0 a = 0) : wrR 0 (a ++ [x]) = wr1 a.length x := by
  rw [wrR_go a 0 [x] h, Nat.zero_add]
  by_cases h1 : wr1 a.length x = 0
  · rw [wrR_cons _ h1, h1]; simp [wrR]
  · rw [wrR_hit _ h1]
theorem wrR_len : ∀ (a : List El) (c : Nat), c ≤ 500 → wrR c a = 0 → c + a.length ≤ 500
  | [], c, hc, _ => by simpa using hc
  | x :: a, c, hc, h => by
    by_cases h1 : wr1 c x = 0
    · rw [wrR_cons a h1] at h
      have hc1 : c + 1 ≤ 500 := by
        unfold wr1 wrC at h1
        split at h1
        · exact absurd h1 (by decide)
        · omega
      have := wrR_len a (c + 1) hc1 h
      rw [List.length_cons]; omega
    · rw [wrR_hit a h1] at h; exact absurd h h1
theorem wrR_stop {a L : List El} (h : a <+: L) (hn : wrR 0 a ≠ 0) : wrR 0 L = wrR 0 a := by
  obtain ⟨r, rfl⟩ := h
  exact wrR_end a 0 r hn
theorem setCell_heap' {w : World} {g : Nat} {c : Array Value} {t : TypeId} {fr : Nat × Nat} (h : w.heap[g]? = some (.cells c t fr)) (o : Nat) (v : Value) : (w.setCell ⟨g, o, none⟩ v).heap[g]? = some (.cells (c.setIfInBounds o v) t fr) := Gd.setCell_heap h o v
/-- a block of cells lies on while other objects are laid or turned -/
theorem cells_on {W W' : World} {row : Option Nat} {k : Nat} {c : Array Value} {t : TypeId} {fr : Nat × Nat} (h : W.heap[k]? = some (.cells c t fr)) (hg : W.grownBy W' row) (hr : ∀ r, row = some r → ∃ o : Obj, W.heap[r]? = some o ∧ o.isCells = false) : W'.heap[k]? = some (.cells c t fr) := by
  refine (hg.block k (Array.getElem?_eq_some_iff.1 h).1 (fun e => ?_)).trans h
  obtain ⟨o, ho, hc⟩ := hr k e.symm
  rw [h] at ho; cases ho; simp [Obj.isCells] at hc
theorem kf_set {W : World} {g : Nat} {c : Array Value} {t : TypeId} {fr : Nat × Nat} (B : Nat) (h : W.heap[g]? = some (.cells c t fr)) (v : Value) : KeepsFrom B W (W.setCell ⟨g, 0, none⟩ v) := (KeepsOthers.setCell _ _ _).from B
theorem kf_below {W W' : World} (B : Nat) (h : Below W.heap.size W W') : KeepsFrom B W W' := ⟨h.size, fun k o _ hk _ => (h.block k (Array.getElem?_eq_some_iff.1 hk).1).trans hk⟩
theorem KeepsFrom.trans' {B : Nat} {X Y Z : World} (h : KeepsFrom B X Y) (k : KeepsFrom B Y Z) : KeepsFrom B X Z := ⟨Nat.le_trans h.size k.size, fun i o hi ho hc => k.same i o hi (h.same i o hi ho hc) hc⟩
/-- all that is in the steps of nodes that can be read can be read -/
theorem steps_read {w : World} : ∀ (d : Nat) (ts : List AT), rdL w ts → ∀ x ∈ steps d ts, Rdn w x.2.kv x.2.kids ∧ x.2.val.size ≤ 1048576 ∧ tagB x.2.tag
  | d, [], h, x, hx => by simp [steps] at hx
  | d, .mk t v kv ks :: ts, h, x, hx => by
    unfold rdL at h
    simp only [steps, List.mem_cons, List.mem_append] at hx
    rcases hx with rfl | hx | hx
    · exact ⟨⟨h.1.1, h.1.2.1⟩, h.1.2.2⟩
    · exact steps_read (d + 1) ks h.1.2.1 x hx
    · exact steps_read d ts h.2 x hx
theorem steps_dep : ∀ (d : Nat) (ts : List AT), ∀ x ∈ steps d ts, x.1 + 1 ≤ d + dep ts
  | d, [], x, hx => by simp [steps] at hx
  | d, .mk t v kv ks :: ts, x, hx => by
    simp only [steps, List.mem_cons, List.mem_append] at hx
    simp only [dep]
    rcases hx with rfl | hx | hx
    · simp only; omega
    · have := steps_dep (d + 1) ks x hx; omega
    · have := steps_dep d ts x hx; omega
set_option maxRecDepth 100000 in
set_option maxHeartbeats 1600000 in
theorem wrong_any (ts : List AT) (v : Value) (w : World) (hr : Rdn w v ts) (hd : dep ts ≤ 999999) :
    Calls Try.prog 40 #[v] w fun e w' => e = .returned (.int .i64 (wrR 0 (steps 1 ts))) ∧ Below w.heap.size w w' := by
  obtain ⟨o, cap, e, hN, -⟩ := hr.row
  obtain ⟨N, HN⟩ : ∃ N : Nat, Hid (ts.length = N) := ⟨_, rfl⟩
  rw [HN.out] at e
  subst e
  obtain ⟨R, HR⟩ : ∃ R, Hid (wrR 0 (steps 1 ts) = R) := ⟨_, rfl⟩
  rw [HR.out]
  refine (callsIn_wide (n := 8)).1 ?_
  refine callsIn_of_wp_marks Try.func40 rfl trivial ?_ rfl
  simp only [Try.ntmps40, List.size_toArray, List.length_cons, List.length_nil, Nat.reduceAdd, Nat.reduceSub, Array.replicate_succ, Array.replicate_zero, List.push_toArray, List.append_toArray, List.nil_append, List.cons_append]
  refine wpIn_wide.2 ?_
  go_wp2_with fail
  have M0 := h2_0 w (.cells #[.int .i64 0] 24) (.cells #[.int .i64 0] 3)
  have M1 := h2_1 w (.cells #[.int .i64 0] 24) (.cells #[.int .i64 0] 3)
  have B0 := below_two w (.cells #[.int .i64 0] 24) (.cells #[.int .i64 0] 3)
  have s0 : ((w.alloc (.cells #[.int .i64 0] 24)).alloc (.cells #[.int .i64 0] 3)).heap.size = w.heap.size + 1 + 1 := by simp
  generalize (w.alloc (.cells #[.int .i64 0] 24)).alloc (.cells #[.int .i64 0] 3) = W at *
  refine (all_any o N cap W).mono ?_
  rintro _ V ⟨b, rfl, hbV, hV, hbW⟩
  have hB := keepB B0 hV
  replace M0 := kept hV M0
  replace M1 := kept hV M1
  clear B0 hV
  go_wp2_with fail
  have hbb : b = w.heap.size + 1 + 1 := by rw [hbW, s0]
  have hV3 : w.heap.size + 1 + 1 < V.heap.size := by rw [← hbb]; exact (Array.getElem?_eq_some_iff.1 hbV).1
  rw [hbb] at hbV
  have hsr := steps_read 1 ts hr.kids
  have hsd := steps_dep 1 ts
  obtain ⟨r, Hr⟩ : ∃ r, Hid (w.heap.size = r) := ⟨_, rfl⟩
  clear hbW s0 hbb
  refine (wpIn_wide (n := 8)).1 ?_
  refine wpIn_rangeFunc_ownH rfl (by omega) (gf := 48) (lb := #[.pointer (some ⟨w.heap.size + 1 + 1, 0, none⟩)]) rfl trivial (enters_of Try.func48 (by kernel_rfl) rfl)
    (goes_all hr hd _ V hB hbV) kn_t (kn_b hB.size) (Below.refl _ _) (fun _ => rfl)
    (fun pre X => wrR 0 (pre.map (·.1)) = 0 ∧ X.heap[w.heap.size]? = some (.cells #[.int .i64 0] 24) ∧ X.heap[w.heap.size + 1]? = some (.cells #[.int .i64 (pre.length : Int)] 3) ∧ Below w.heap.size w X)
    (fun c pre X => c = .ret ∧ wrR 0 (pre.map (·.1)) ≠ 0 ∧ X.heap[w.heap.size]? = some (.cells #[.int .i64 (wrR 0 (pre.map (·.1)))] 24) ∧ Below w.heap.size w X)
    (fun s X Y row hs hg hrow => ⟨hs.1, cells_on hs.2.1 hg (fun r e => (hrow r e).2), cells_on hs.2.2.1 hg (fun r e => (hrow r e).2), hs.2.2.2.grown hg hs.2.2.2.size (fun k e => by have := (hrow k e).1; omega)⟩)
    (fun c s X Y row hs hg hrow => ⟨hs.1, hs.2.1, cells_on hs.2.2.1 hg (fun r e => (hrow r e).2), hs.2.2.2.grown hg hs.2.2.2.size (fun k e => by have := (hrow k e).1; omega)⟩)
    ⟨by simp [wrR], M0, M1, hB⟩
    (fun x a' X => ∃ blk, a' = { tmps := #[.slice o N cap, undef, .pointer (some ⟨w.heap.size, 0, none⟩), .pointer (some ⟨w.heap.size + 1, 0, none⟩), .int .i64 (x.1.1 : Int), .pointer (some ⟨blk, 0, none⟩), .slice o N cap, fv (w.heap.size + 1 + 1), .int .i64 (x.1.1 : Int), .agg #[.int .i64 x.1.2.tag, .string x.1.2.val, x.1.2.kv], undef, undef, undef, undef, undef, undef, undef, undef, undef, undef, undef, undef], defers := [] } ∧ X.heap[blk]? = some (.cells #[.int .i64 x.1.2.tag, .string x.1.2.val, x.1.2.kv] 40))
    (fun x a' s X Y row hs hg hrow => by
      obtain ⟨blk, e, hx⟩ := hs
      exact ⟨blk, e, cells_on hx hg (fun r e => (hrow r e).2)⟩)
    ?assign ?body ?done ?stop
  case assign =>
    rintro l pre ⟨⟨d, a⟩, hx⟩ X K hI hK
    obtain ⟨hI0, hI1, hI2, hI3⟩ := hI
    have hs := hsr _ hx
    cases a with
    | mk tag val kv ks =>
    simp only [AT.tag, AT.val, AT.kv, AT.kids] at hs hK
    simp only [enc, AT.tag, AT.val, AT.kv]
    obtain ⟨ko, kc, rfl⟩ := kv_form hs.1.row
    have b1 := below_one X (.cells #[.int .i64 tag, .string val, .slice ko ks.length kc] 40)
    have n1 := h1_0 X (.cells #[.int .i64 tag, .string val, .slice ko ks.length kc] 40)
    have K1 := hK { tmps := #[.slice o N cap, undef, .pointer (some ⟨w.heap.size, 0, none⟩), .pointer (some ⟨w.heap.size + 1, 0, none⟩), .int .i64 (d : Int), .pointer (some ⟨X.heap.size, 0, none⟩), .slice o N cap, fv (w.heap.size + 1 + 1), .int .i64 (d : Int), .agg #[.int .i64 tag, .string val, .slice ko ks.length kc], undef, undef, undef, undef, undef, undef, undef, undef, undef, undef, undef, undef], defers := [] } _ (kf_below _ b1) (kn_below b1 hI3.size) ⟨hI0, kept b1 hI1, kept b1 hI2, keepB hI3 b1⟩ ⟨_, rfl, n1⟩
    clear hI0 hI1 hI2 hI3 hs hK b1 n1 hsr hsd M0 M1 hbV
    generalize ks.length = kl at *
    gi_wp2
    exact K1
  case body =>
    rintro l pre x a' X hl - ⟨hI0, hI1, hI2, hI3⟩ ⟨blk, ea, hblk⟩ hpl
    have hs := hsr _ x.2
    have hdd := hsd _ x.2
    obtain ⟨P, HP⟩ : ∃ P : Nat, Hid (pre.length = P) := ⟨_, rfl⟩
    have HW : Hid (wrR 0 ((pre ++ [x]).map (·.1)) = wr1 P x.1) := by
      show _ = _
      rw [List.map_append, List.map_cons, List.map_nil, wrR_snoc hI0, List.length_map, HP.out]
    have HLn : Hid ((pre ++ [x]).length = P + 1) := by show _ = _; rw [List.length_append, HP.out]; rfl
    have hP6 : P ≤ 500 := by have := wrR_len _ 0 (by omega) hI0; rw [List.length_map, HP.out] at this; omega
    rw [HP.out] at hI2
    generalize pre ++ [x] = pre2 at *
    clear hpl hI0 hsr hsd HR hbV M0 M1 HP pre
    obtain ⟨⟨d, a⟩, hx⟩ := x
    cases a with
    | mk tag val kv ks =>
    simp only [AT.tag, AT.val, AT.kv, AT.kids] at hs ea hblk hdd
    subst ea
    obtain ⟨ko, kc, rfl⟩ := kv_form hs.1.row
    obtain ⟨KL, HKL, hKL⟩ : ∃ KL : Nat, Hid (ks.length = KL) ∧ KL ≤ 1048576 := by
      obtain ⟨_, _, _, hl, _⟩ := hs.1.row
      exact ⟨_, rfl, hl⟩
    simp only [wr1, AT.tag, AT.val, AT.kids] at HW
    rw [HKL.out] at hblk HW ⊢
    have hft := fun y => fits_any tag val ko KL kc y hs.2.2.2 hKL
    clear hx hs HKL
    obtain ⟨c1, z1⟩ := Gn.cell1 hI2
    obtain ⟨c0, z0⟩ := Gn.cell1 hI1
    have hbc : blk ≠ w.heap.size + 1 := fun e => by rw [e] at hblk; rw [hblk] at hI2; cases hI2
    have ne1 : ¬ w.heap.size = w.heap.size + 1 := by omega
    have q1 := setCell_heap' hI2 0 (.int .i64 ((P : Int) + 1))
    have q0 := (Gd.setCell_ne (w := X) (g := w.heap.size + 1) (k := w.heap.size) (by omega) 0 (.int .i64 ((P : Int) + 1))).trans hI1
    have qb := (Gd.setCell_ne (w := X) (g := w.heap.size + 1) (k := blk) (fun e => hbc e.symm) 0 (.int .i64 ((P : Int) + 1))).trans hblk
    have kf1 := kf_set V.heap.size hI2 (.int .i64 ((P : Int) + 1))
    have kn1 := kn_set (n₀ := w.heap.size) hI2 (by decide) (by omega) 0 (.int .i64 ((P : Int) + 1))
    have b1 : Below w.heap.size w (X.setCell ⟨w.heap.size + 1, 0, none⟩ (.int .i64 ((P : Int) + 1))) := hI3.setCell (p := ⟨w.heap.size + 1, 0, none⟩) (by simp) _
    have sz1 : (X.setCell ⟨w.heap.size + 1, 0, none⟩ (.int .i64 ((P : Int) + 1))).heap.size = X.heap.size := by simp [World.setCell]
    have c0' := Gn.cell1 q0
    have c1' := Gn.cell1 q1
    clear hI1 hI2 hblk
    by_cases h5 : 500 < P + 1
    · have HV : Hid (wrR 0 (pre2.map (·.1)) = 93) := by show _ = _; rw [HW.out]; unfold wrC; rw [if_pos h5]
      have h5' : 500 < (P : Int) + 1 := by omega
      clear HW
      gi_wp2
      refine ⟨KeepsFrom.trans' kf1 (kf_set _ q0 _), rfl, by rw [HV.out]; decide, ?_, b1.setCell (p := ⟨w.heap.size, 0, none⟩) (Nat.le_refl _) _⟩
      rw [HV.out]
      exact setCell_heap' q0 0 _
    by_cases h8 : 8 < d
    · have HV : Hid (wrR 0 (pre2.map (·.1)) = 92) := by show _ = _; rw [HW.out]; unfold wrC; rw [if_neg h5, if_pos h8]
      have h5' : ¬ 500 < (P : Int) + 1 := by omega
      have h8' : 8 < (d : Int) := by omega
      clear HW
      gi_wp2
      refine ⟨KeepsFrom.trans' kf1 (kf_set _ q0 _), rfl, by rw [HV.out]; decide, ?_, b1.setCell (p := ⟨w.heap.size, 0, none⟩) (Nat.le_refl _) _⟩
      rw [HV.out]
      exact setCell_heap' q0 0 _
    have h5' : ¬ 500 < (P : Int) + 1 := by omega
    have h8' : ¬ 8 < (d : Int) := by omega
    have HV : Hid (wrR 0 (pre2.map (·.1)) = if ftB tag val KL then 0 else 90) := by show _ = _; rw [HW.out]; unfold wrC; rw [if_neg h5, if_neg h8]
    have d0 : (X.setCell ⟨w.heap.size + 1, 0, none⟩ (.int .i64 ((P : Int) + 1))).cell? ⟨blk, 0, none⟩ = some (.int .i64 tag) := by simp [World.cell?, qb]
    have d1 : (X.setCell ⟨w.heap.size + 1, 0, none⟩ (.int .i64 ((P : Int) + 1))).cell? ⟨blk, 1, none⟩ = some (.string val) := by simp [World.cell?, qb]
    have d2 : (X.setCell ⟨w.heap.size + 1, 0, none⟩ (.int .i64 ((P : Int) + 1))).cell? ⟨blk, 2, none⟩ = some (.slice ko KL kc) := by simp [World.cell?, qb]
    clear HW qb
    cases hf : ftB tag val KL with
    | true =>
      rw [hf] at HV
      simp only [hf] at hft
      gi_wp2_with (refine ⟨trivial, ?_⟩; gi_at_call 72; refine (CallsIn.inRound l (callsIn_wide.2 (hft _))).mono ?_; rintro e y ⟨rfl, hy⟩)
      have q1' : y.heap[w.heap.size + 1]? = some (.cells #[.int .i64 ((P : Int) + 1)] 3) := kept hy q1
      refine ⟨KeepsFrom.trans' kf1 (kf_below _ hy), kn_t kn1 (kn_below hy (by rw [sz1]; exact hI3.size)), HV.out, kept hy q0, ?_, keepB b1 hy⟩
      rw [HLn.out]
      exact q1'
    | false =>
      rw [hf] at HV
      simp only [hf] at hft
      gi_wp2_with (refine ⟨trivial, ?_⟩; gi_at_call 72; refine (CallsIn.inRound l (callsIn_wide.2 (hft _))).mono ?_; rintro e y ⟨rfl, hy⟩; have k0 := Gn.cell1 (kept hy q0))
      refine ⟨KeepsFrom.trans' kf1 (KeepsFrom.trans' (kf_below _ hy) (kf_set _ (kept hy q0) _)), rfl, by rw [HV.out]; decide, ?_, (keepB b1 hy).setCell (p := ⟨w.heap.size, 0, none⟩) (Nat.le_refl _) _⟩
      rw [HV.out]
      exact setCell_heap' (kept hy q0) 0 _
  case done =>
    rintro D xs Y hD hS ⟨h0, h1, h2, h3⟩ hK
    have HE : Hid (R = 0) := by show _ = _; rw [← HR.out, ← hS]; exact h0
    obtain ⟨c0, z0⟩ := Gn.cell1 h1
    have h1' := setCell_heap' h1 0 (.int .i64 0)
    clear hS h0 h2 hsr hsd M0 M1 hbV HR
    go_wp2
    have hK' := (KeepsOthers.setCell Y ⟨w.heap.size, 0, none⟩ (.int .i64 0)).same D _ hK rfl
    refine ⟨by simp, .inl ⟨_, _, rfl, run_takeDeferred hK', ?_⟩⟩
    have hne : w.heap.size ≠ D := by omega
    have hc5 : ((Y.setCell ⟨w.heap.size, 0, none⟩ (.int .i64 0)).putObj D (.deferred none)).cell? ⟨w.heap.size, 0, none⟩ = some (.int .i64 0) := by
      have := (World.putObj_heap_other (w := Y.setCell ⟨w.heap.size, 0, none⟩ (.int .i64 0)) (o := .deferred none) hne).trans h1'
      simp [World.cell?, this]
    refine ⟨.int .i64 0, ?_, by rw [HE.out], (h3.setCell (p := ⟨w.heap.size, 0, none⟩) (Nat.le_refl _) _).trans (belowK_b (w := w) (Nat.le_refl _) _ D _ _ (by omega) hK' rfl rfl)⟩
    simp [results, Try.f40, go_sem, hc5]
  case stop =>
    rintro D c pre Y hD hS ⟨rfl, h0, h1, h3⟩ hK
    have HE : Hid (wrR 0 (pre.map (·.1)) = R) := by show _ = _; rw [← HR.out]; exact (wrR_stop hS h0).symm
    rw [HE.out] at h1
    clear hS h0 hsr hsd M0 M1 hbV HR
    gi_wp2
    refine ⟨by simp, .inl ⟨_, _, rfl, run_takeDeferred hK, ?_⟩⟩
    have hne : w.heap.size ≠ D := by omega
    have hc5 : (Y.putObj D (.deferred none)).cell? ⟨w.heap.size, 0, none⟩ = some (.int .i64 R) := by
      have := (World.putObj_heap_other (w := Y) (o := .deferred none) hne).trans h1
      simp [World.cell?, this]
    refine ⟨.int .i64 R, ?_, rfl, h3.trans (belowK_b (w := w) (Nat.le_refl _) _ D _ _ (by omega) hK rfl rfl)⟩
    simp [results, Try.f40, go_sem, hc5]
end Go.Proofs.Ytgidjfhlooggkaa.Wr
