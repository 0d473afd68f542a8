/- Nodes as bytes. -/
import Derived.Test.YtgidjfhlooggkaaWr
import Derived.Lib.AppendStr
import Derived.Stop.RegionWithIn
namespace Go.Proofs.Ytgidjfhlooggkaa.Nb
set_option linter.unusedVariables false
set_option linter.unusedSimpArgs false
open Go.RowKit Go.Shelf Kb Ga Gb Gc Nt Wk Ls Wr
attribute [local go_sem] Oper.semAt_some
theorem wpListIn_append_str {F : Fence} {m : Nat} {P : Program} (w : World) {ops : Array Oper} {rest : List Oper} {o : Oper} {a : Act} {Q : Exit → Act → World → Prop} (hgd : o.guard = none) (sl x : Operand) (t u : TypeId)
    (ho : o.op = .call { callee := .builtin .append, args := #[sl, x], argTypes := #[t, u] })
    (base : Nat) (e : TypeId) (i : TypeInfo) (ht : P.underlying t = some (.slice e)) (hu : P.underlying u = some .string) (hi : P.info? e = some i) (hz : i.zero = some (.int .u8 0))
    (hsize : i.size = 1) (hby : i.bytes = 1)
    (v : Value) (n : Nat) (xs : List Value) (hs : a.eval sl = v) (hown : w.ownsRow base e 1 v n xs) (s : ByteArray) (hx : a.eval x = .string s)
    (h63 : n + s.size ≤ maxLen) (hbytes : n + s.size ≤ 140737488355328) (hbase : base ≤ w.heap.size)
    (h : ∀ v' w', w'.ownsRow base e 1 v' (n + s.size) (xs ++ Lib.strCells s) → w.grownBy w' v.ownBlock → wpListIn F m P ops Q rest (a.put o.dst v') w') : wpListIn F m P ops Q (o :: rest) a w := by
  refine wpListIn_plain hgd fun K hK' => ?_
  obtain ⟨v', w', hrun, h2, h3, h4⟩ := Lib.run_append_own_string (P := P) w base t u o.type e i ht hu hi hz hsize hby v n xs hown s h63 hbytes hbase
  unfold Oper.wpIn
  refine ⟨?_, ?_⟩
  · simp [Oper.about, ho, resolve, Target.leads, Sem.run_pure]
  · rw [Oper.semAt_plain F _ _ (by rw [ho]; intro c hc'; cases hc')]
    simp [execOp, ho, resolve, invoke, builtin, hs, hx, hrun, Result.andThen]
    exact hK' _ _ (h v' w' h2 h3)
/-- a row of bytes that may turn leaves nodes, and what is no cells, as they were -/
theorem row_ne {X : World} {base n : Nat} {v : Value} {xs : List Value} {k : Nat} {o : Obj} (ho : X.ownsRow base 5 1 v n xs) (hk : X.heap[k]? = some o) (hne : ∀ c fr, o ≠ .cells c 5 fr) : some k ≠ v.ownBlock := fun e => by
  rcases ho.2 with ⟨rfl, _⟩ | ⟨g, cap, cur, rfl, _, hg, _⟩
  · simp [Value.ownBlock] at e
  · simp only [Value.ownBlock, Option.some.injEq] at e
    subst e
    rw [hg] at hk; cases hk
    exact hne _ _ rfl
theorem kn_row {n₀ n : Nat} {X Y : World} {v : Value} {xs : List Value} (h : X.grownBy Y v.ownBlock) (ho : X.ownsRow n₀ 5 1 v n xs) (hn : n₀ ≤ X.heap.size) : KN n₀ X Y :=
  ⟨(Below.refl n₀ X).grown h hn fun k hk => (ho.lt k hk).1, fun k c fr hk => h.block k (Array.getElem?_eq_some_iff.1 hk).1 (row_ne ho hk (fun c' fr' e => by cases e))⟩
theorem kf_row {base n : Nat} {X Y : World} {v : Value} {xs : List Value} (B : Nat) (h : X.grownBy Y v.ownBlock) (ho : X.ownsRow base 5 1 v n xs) : KeepsFrom B X Y :=
  ⟨h.size, fun k o _ hk hc => (h.block k (Array.getElem?_eq_some_iff.1 hk).1 (row_ne ho hk (fun c' fr' e => by subst e; simp [Obj.isCells] at hc))).trans hk⟩
theorem on_row {base n : Nat} {X Y : World} {v : Value} {xs : List Value} {k : Nat} {c : Array Value} {t : TypeId} {fr : Nat × Nat} (h : X.grownBy Y v.ownBlock) (ho : X.ownsRow base 5 1 v n xs) (hk : X.heap[k]? = some (.cells c t fr)) (ht : t ≠ 5) : Y.heap[k]? = some (.cells c t fr) :=
  (h.block k (Array.getElem?_eq_some_iff.1 hk).1 (row_ne ho hk (fun c' fr' e => by cases e; exact ht rfl))).trans hk
theorem owns_on {W W' : World} {row : Option Nat} {base e s n : Nat} {v : Value} {xs : List Value} (h : W.ownsRow base e s v n xs) (hg : W.grownBy W' row) (hr : ∀ r, row = some r → ∃ o : Obj, W.heap[r]? = some o ∧ o.isCells = false) : W'.ownsRow base e s v n xs := by
  refine ⟨h.1, ?_⟩
  rcases h.2 with hn | ⟨g, cap, cur, rfl, hb, hgg, r⟩
  · exact .inl hn
  · exact .inr ⟨g, cap, cur, rfl, hb, cells_on hgg hg hr, r⟩
theorem owns_set {W : World} {base n k : Nat} {v u : Value} {xs : List Value} {c : Array Value} {t : TypeId} {fr : Nat × Nat} (h : W.ownsRow base 5 1 v n xs) (hk : W.heap[k]? = some (.cells c t fr)) (ht : t ≠ 5) (o : Nat) : (W.setCell ⟨k, o, none⟩ u).ownsRow base 5 1 v n xs :=
  owns_keep h fun b hb => Gd.setCell_ne (fun e => row_ne h hk (fun c' fr' e => by cases e; exact ht rfl) (by rw [hb, e])) _ _
/-- one node's own bytes, and all of them -/
def enc1 (x : El) : List UInt8 := tgB x.2.tag ++ lnB (csz x.2 : Int) ++ x.2.val.data.toList
def encS (l : List El) : List UInt8 := l.flatMap enc1
theorem cell3 {x : World} {g : Nat} {a b c : Value} {t : TypeId} (h : x.heap[g]? = some (.cells #[a, b, c] t)) : x.cell? ⟨g, 0, none⟩ = some a ∧ x.cell? ⟨g, 1, none⟩ = some b ∧ x.cell? ⟨g, 2, none⟩ = some c := by
  refine ⟨?_, ?_, ?_⟩ <;> simp only [World.cell?, h] <;> rfl
theorem encS_snoc (a : List El) (x : El) : encS (a ++ [x]) = encS a ++ enc1 x := by simp [encS]
theorem tgB_len (t : Int) : (tgB t).length ≤ 3 := by
  unfold tgB
  repeat' split
  all_goals simp
theorem lnB_len (t : Int) : (lnB t).length ≤ 3 := by
  unfold lnB
  repeat' split
  all_goals simp
theorem steps_size : ∀ (d : Nat) (ts : List AT), ∀ x ∈ steps d ts, csz x.2 ≤ lsz ts
  | d, [], x, hx => by simp [steps] at hx
  | d, .mk t v kv ks :: ts, x, hx => by
    simp only [steps, List.mem_cons, List.mem_append] at hx
    simp only [lsz]
    rcases hx with rfl | hx | hx
    · simp only [csz, AT.val, AT.kids]; omega
    · have := steps_size (d + 1) ks x hx; omega
    · have := steps_size d ts x hx; omega
theorem enc1_len {x : El} {m : Nat} (h : csz x.2 ≤ m) : (enc1 x).length ≤ m + 6 := by
  have h1 := tgB_len x.2.tag
  have h2 := lnB_len (csz x.2 : Int)
  have h3 : x.2.val.data.toList.length = x.2.val.size := by simp
  unfold csz at h
  unfold enc1
  simp only [List.length_append]
  omega
def slOf (v : Value) : Prop := ∃ o n cap, v = .slice o n cap
theorem owns_sl {w : World} {base e s n : Nat} {v : Value} {xs : List Value} (h : w.ownsRow base e s v n xs) : ∃ o cap, v = .slice o n cap := by
  rcases h.2 with ⟨rfl, h0⟩ | ⟨g, cap, cur, rfl, _⟩
  · exact ⟨none, 0, by rw [h0]⟩
  · exact ⟨_, cap, rfl⟩
set_option maxRecDepth 100000 in
set_option maxHeartbeats 1600000 in
theorem bytes_any (ts : List AT) (v : Value) (w : World) (hr : Rdn w v ts) (hd : dep ts ≤ 999999) (hz : lsz ts ≤ 9999) (hL : (steps 1 ts).length ≤ 1000) :
    Calls Try.prog 42 #[v] w fun e w' => e = .returned (.string ⟨(encS (steps 1 ts)).toArray⟩) ∧ Below w.heap.size w w' := by
  obtain ⟨o, cap, e, hN, -⟩ := hr.row
  obtain ⟨N, HN⟩ : ∃ N : Nat, Hid (ts.length = N) := ⟨_, rfl⟩
  rw [HN.out] at e
  subst e
  obtain ⟨R, HR⟩ : ∃ R, Hid (encS (steps 1 ts) = R) := ⟨_, rfl⟩
  rw [HR.out]
  obtain ⟨ia, hia, hza0, hza1, hza2⟩ := info_parts infoB
  refine (callsIn_wide (n := 8)).1 ?_
  refine callsIn_of_wp_marks Try.func42 rfl trivial ?_ rfl
  simp only [Try.ntmps42, List.size_toArray, List.length_cons, List.length_nil, Nat.reduceAdd, Nat.reduceSub, Array.replicate_succ, Array.replicate_zero, List.push_toArray, List.append_toArray, List.nil_append, List.cons_append]
  refine wpIn_wide.2 ?_
  go_wp2_with fail
  have M0 := h1_0 w (.cells #[.slice none 0 0] 81)
  have B0 := below_one w (.cells #[.slice none 0 0] 81)
  have s0 : (w.alloc (.cells #[.slice none 0 0] 81)).heap.size = w.heap.size + 1 := by simp
  generalize w.alloc (.cells #[.slice none 0 0] 81) = W at *
  refine (all_any o N cap W).mono ?_
  rintro _ V ⟨b, rfl, hbV, hV, hbW⟩
  have hB := keepB B0 hV
  replace M0 := kept hV M0
  clear B0 hV
  go_wp2_with fail
  have hbb : b = w.heap.size + 1 := by rw [hbW, s0]
  have hV3 : w.heap.size + 1 < V.heap.size := by rw [← hbb]; exact (Array.getElem?_eq_some_iff.1 hbV).1
  rw [hbb] at hbV
  have hsr := steps_read 1 ts hr.kids
  have hss := steps_size 1 ts
  clear hbW s0 hbb
  refine (wpIn_wide (n := 8)).1 ?_
  refine wpIn_rangeFunc_ownH rfl (by omega) (gf := 48) (lb := #[.pointer (some ⟨w.heap.size + 1, 0, none⟩)]) rfl trivial (enters_of Try.func48 (by kernel_rfl) rfl)
    (goes_all hr hd _ V hB hbV) kn_t (kn_b hB.size) (Below.refl _ _) (fun _ => rfl)
    (fun pre X => (∃ u, X.heap[w.heap.size]? = some (.cells #[u] 81) ∧ X.ownsRow w.heap.size 5 1 u (encS (pre.map (·.1))).length (Lib.byteCells (encS (pre.map (·.1))))) ∧ (encS (pre.map (·.1))).length ≤ 10005 * pre.length ∧ Below w.heap.size w X)
    (fun c pre X => False)
    (fun s X Y row hs hg hrow => by
      obtain ⟨⟨u, h1, h2⟩, h3, h4⟩ := hs
      exact ⟨⟨u, cells_on h1 hg (fun r e => (hrow r e).2), owns_on h2 hg (fun r e => (hrow r e).2)⟩, h3, h4.grown hg h4.size (fun k e => by have := (hrow k e).1; omega)⟩)
    (fun c s X Y row hs hg hrow => hs)
    ⟨⟨_, M0, World.ownsRow_nil _ _ _ _⟩, by simp [encS], hB⟩
    (fun x a' X => ∃ blk, a' = { tmps := #[.slice o N cap, undef, .string ⟨#[]⟩, .pointer (some ⟨w.heap.size, 0, none⟩), undef, .pointer (some ⟨blk, 0, none⟩), .slice o N cap, fv (w.heap.size + 1), .int .i64 (x.1.1 : Int), .agg #[.int .i64 x.1.2.tag, .string x.1.2.val, x.1.2.kv], undef, undef, undef, undef, undef, undef, undef, undef, undef, undef, undef, undef, undef, undef], defers := [] } ∧ X.heap[blk]? = some (.cells #[.int .i64 x.1.2.tag, .string x.1.2.val, x.1.2.kv] 40))
    (fun x a' s X Y row hs hg hrow => by
      obtain ⟨blk, e, hx⟩ := hs
      exact ⟨blk, e, cells_on hx hg (fun r e => (hrow r e).2)⟩)
    ?assign ?body ?done ?stop
  case assign =>
    rintro l pre ⟨⟨d, a⟩, hx⟩ X K hI hK
    obtain ⟨⟨u, hI0, hI1⟩, hI2, hI3⟩ := hI
    have hs := hsr _ hx
    cases a with
    | mk tag val kv ks =>
    simp only [AT.tag, AT.val, AT.kv, AT.kids] at hs hK
    simp only [enc, AT.tag, AT.val, AT.kv]
    obtain ⟨ko, kc, rfl⟩ := kv_form hs.1.row
    have b1 := below_one X (.cells #[.int .i64 tag, .string val, .slice ko ks.length kc] 40)
    have n1 := h1_0 X (.cells #[.int .i64 tag, .string val, .slice ko ks.length kc] 40)
    have K1 := hK { tmps := #[.slice o N cap, undef, .string ⟨#[]⟩, .pointer (some ⟨w.heap.size, 0, none⟩), undef, .pointer (some ⟨X.heap.size, 0, none⟩), .slice o N cap, fv (w.heap.size + 1), .int .i64 (d : Int), .agg #[.int .i64 tag, .string val, .slice ko ks.length kc], undef, undef, undef, undef, undef, undef, undef, undef, undef, undef, undef, undef, undef, undef], defers := [] } _ (kf_below _ b1) (kn_below b1 hI3.size) ⟨⟨u, kept b1 hI0, owns_keep hI1 fun q hq => b1.block q (hI1.lt q hq).2⟩, hI2, keepB hI3 b1⟩ ⟨_, rfl, n1⟩
    clear hI0 hI1 hI2 hI3 hs hK b1 n1 hsr hss M0 hbV
    generalize ks.length = kl at *
    gi_wp2
    exact K1
  case body =>
    rintro l pre x a' X hl - ⟨⟨u, hI0, hI1⟩, hI2, hI3⟩ ⟨blk, ea, hblk⟩ hpl
    have hs := hsr _ x.2
    have hcs := hss _ x.2
    obtain ⟨E, HE⟩ : ∃ E, Hid (encS (pre.map (·.1)) = E) := ⟨_, rfl⟩
    rw [HE.out] at hI1 hI2
    have HE2 : Hid (encS ((pre ++ [x]).map (·.1)) = E ++ enc1 x.1) := by
      show _ = _
      rw [List.map_append, List.map_cons, List.map_nil, encS_snoc, HE.out]
    have HLn : Hid ((E ++ enc1 x.1).length ≤ 10005 * (pre ++ [x]).length) := by
      show _ ≤ _
      have := enc1_len (m := 9999) (Nat.le_trans hcs hz)
      rw [List.length_append, List.length_append]
      simp only [List.length_cons, List.length_nil]
      omega
    have hE : E.length ≤ 10010000 := by omega
    generalize pre ++ [x] = pre2 at *
    clear hpl hsr hss HR hbV M0 HE pre hI2
    obtain ⟨⟨d, a⟩, hx⟩ := x
    cases a with
    | mk tag val kv ks =>
    simp only [AT.tag, AT.val, AT.kv, AT.kids, csz] at hs ea hblk hcs
    simp only [enc1, AT.tag, AT.val, csz, AT.kids] at HE2 HLn
    subst ea
    obtain ⟨ko, kc, rfl⟩ := kv_form hs.1.row
    obtain ⟨KL, HKL⟩ : ∃ KL : Nat, Hid (ks.length = KL) := ⟨_, rfl⟩
    rw [HKL.out] at hblk ⊢
    obtain ⟨C, HC, hC⟩ : ∃ C : Nat, Hid (val.size + lsz ks = C) ∧ C ≤ 9999 := ⟨_, rfl, by omega⟩
    have hvs : val.size ≤ 9999 := by have := HC.out; omega
    have hkr : Rdn w (.slice ko KL kc) ks := by rw [← HKL.out]; exact hs.1
    have htg := hs.2.2.2
    have HCS := fun (y : World) (hy : Below w.heap.size w y) => contentSize_any tag val (.slice ko KL kc) ks y (hkr.below hy) (by omega)
    simp only [HC.out] at HCS HE2 HLn
    obtain ⟨uo, uc, rfl⟩ := owns_sl hI1
    obtain ⟨c0, z0⟩ := Gn.cell1 hI0
    have d0 : X.cell? ⟨blk, 0, none⟩ = some (.int .i64 tag) := by simp [World.cell?, hblk]
    have hat := appendTag_gr tag (.slice uo E.length uc) E E.length w.heap.size X htg (by omega) hI3.size hI1
    clear hx hs HKL HC hkr hcs
    gi_wp2_with (refine ⟨trivial, ?_⟩; gi_at_call 76; refine (CallsIn.inRound l (callsIn_wide.2 hat)).mono ?_; rintro e y ⟨v1, rfl, ho1, hb1, hg1⟩; obtain ⟨o1, cp1, rfl⟩ := owns_sl ho1; have k0 := on_row hg1.1 hI1 hI0 (by decide); have kc0 := Gn.cell1 k0)
    have hbx : blk ≠ w.heap.size := fun e => by rw [e] at hblk; rw [hblk] at hI0; cases hI0
    have n1 : y.heap[blk]? = some (.cells #[.int .i64 tag, .string val, .slice ko KL kc] 40) := on_row hg1.1 hI1 hblk (by decide)
    have KN1 := kn_t (kn_row hg1.1 hI1 hI3.size) (kn_set (n₀ := w.heap.size) k0 (by decide) (Nat.le_refl _) 0 (.slice o1 (E.length + (tgB tag).length) cp1))
    have KF1 := KeepsFrom.trans' (kf_row V.heap.size hg1.1 hI1) (kf_set V.heap.size k0 (.slice o1 (E.length + (tgB tag).length) cp1))
    have nb1 := setCell_heap' k0 0 (.slice o1 (E.length + (tgB tag).length) cp1)
    have ow1 := owns_set (u := .slice o1 (E.length + (tgB tag).length) cp1) ho1 k0 (by decide) 0
    have nk1 := (Gd.setCell_ne (w := y) (g := w.heap.size) (k := blk) (fun e => hbx e.symm) 0 (.slice o1 (E.length + (tgB tag).length) cp1)).trans n1
    have B1 := (hI3.trans hb1).setCell (p := ⟨w.heap.size, 0, none⟩) (Nat.le_refl _) (.slice o1 (E.length + (tgB tag).length) cp1)
    obtain ⟨L1, HL1, hL1⟩ : ∃ L1, Hid (E.length + (tgB tag).length = L1) ∧ L1 ≤ 10010003 := ⟨_, rfl, by have := tgB_len tag; omega⟩
    rw [HL1.out] at KN1 KF1 nb1 ow1 nk1 B1
    rw [HL1.out]
    clear hg1 ho1 hb1 k0 kc0 n1 hI0 hI1 hblk c0 z0 d0 hat
    generalize y.setCell ⟨w.heap.size, 0, none⟩ (.slice o1 L1 cp1) = Y1 at *
    obtain ⟨e0, g0⟩ := Gn.cell1 nb1
    obtain ⟨f0, f1, f2⟩ := cell3 nk1
    have hcs := HCS Y1.drew B1.drew
    gi_region_with (first
      | (refine ⟨trivial, ?_⟩; gi_at_call 73; refine (CallsIn.inRound l (callsIn_wide.2 hcs)).mono ?_; rintro e z ⟨rfl, hz⟩; have nbz : z.heap[w.heap.size]? = some (.cells #[.slice o1 L1 cp1] 81) := kept hz nb1; have owz : z.ownsRow w.heap.size 5 1 (.slice o1 L1 cp1) L1 (Lib.byteCells (E ++ tgB tag)) := owns_keep ow1 (fun q hq => hz.block q (ow1.lt q hq).2); have ez := Gn.cell1 nbz; have B1z : Below w.heap.size w z := keepB B1.drew hz; have hal := appendLength_gr (C : Int) (.slice o1 L1 cp1) (E ++ tgB tag) L1 w.heap.size z (by omega) (by omega) (by omega) B1z.size owz)
      | (refine ⟨trivial, ?_⟩; gi_at_call 77; refine (CallsIn.inRound l (callsIn_wide.2 hal)).mono ?_; rintro e z2 ⟨v2, rfl, ho2, hb2, hg2⟩; obtain ⟨o2, cp2, rfl⟩ := owns_sl ho2; have nb2 := on_row hg2.1 owz nbz (by decide); have eb2 := Gn.cell1 nb2))
    all_goals
      have nkz : z.heap[blk]? = some (.cells #[.int .i64 tag, .string val, .slice ko KL kc] 40) := kept hz nk1
      have n2 := on_row hg2.1 owz nkz (by decide)
      have KNd : KN w.heap.size X Y1.drew := ⟨KN1.1.drew, KN1.2⟩
      have KFd : KeepsFrom V.heap.size X Y1.drew := ⟨KF1.size, KF1.same⟩
      have KN2 := kn_t KNd (kn_t (kn_below hz B1.drew.size) (kn_t (kn_row hg2.1 owz B1z.size) (kn_set (n₀ := w.heap.size) nb2 (by decide) (Nat.le_refl _) 0 (.slice o2 (L1 + (lnB (C : Int)).length) cp2))))
      have KF2 := KeepsFrom.trans' KFd (KeepsFrom.trans' (kf_below V.heap.size hz) (KeepsFrom.trans' (kf_row V.heap.size hg2.1 owz) (kf_set V.heap.size nb2 (.slice o2 (L1 + (lnB (C : Int)).length) cp2))))
      have nb3 := setCell_heap' nb2 0 (.slice o2 (L1 + (lnB (C : Int)).length) cp2)
      have ow3 := owns_set (u := .slice o2 (L1 + (lnB (C : Int)).length) cp2) ho2 nb2 (by decide) 0
      have nk3 := (Gd.setCell_ne (w := z2) (g := w.heap.size) (k := blk) (fun e => hbx e.symm) 0 (.slice o2 (L1 + (lnB (C : Int)).length) cp2)).trans n2
      have B3 := (B1z.trans hb2).setCell (p := ⟨w.heap.size, 0, none⟩) (Nat.le_refl _) (.slice o2 (L1 + (lnB (C : Int)).length) cp2)
      obtain ⟨L2, HL2, hL2⟩ : ∃ L2, Hid (L1 + (lnB (C : Int)).length = L2) ∧ L2 ≤ 10010006 := ⟨_, rfl, by have := lnB_len (C : Int); omega⟩
      rw [HL2.out] at KN2 KF2 nb3 ow3 nk3 B3
      rw [HL2.out]
      clear hg2 ho2 hb2 nb2 eb2 n2 nkz hal B1z ez owz nbz hz hcs KN1 KF1 KNd KFd nb1 ow1 nk1 e0 g0 f0 f1 f2
      generalize z2.setCell ⟨w.heap.size, 0, none⟩ (.slice o2 L2 cp2) = Z at *
      obtain ⟨e0, g0⟩ := Gn.cell1 nb3
      obtain ⟨f0, f1, f2⟩ := cell3 nk3
      gi_wp2_with (refine wpListIn_append_str _ rfl _ _ _ _ rfl w.heap.size 5 ia Try.underlying81 Try.underlying9 hia hza0 hza1 hza2 _ L2 _ rfl ow3 val rfl (by unfold maxLen; omega) (by omega) B3.size ?_; intro v3 w3 own3 gr3; obtain ⟨o3, cp3, rfl⟩ := owns_sl own3; have nb4 := on_row gr3 ow3 nb3 (by decide); have eb4 := Gn.cell1 nb4)
      have ow4 := owns_set (u := .slice o3 (L2 + val.size) cp3) own3 nb4 (by decide) 0
      refine ⟨KeepsFrom.trans' KF2 (KeepsFrom.trans' (kf_row _ gr3 ow3) (kf_set _ nb4 _)), kn_t KN2 (kn_t (kn_row gr3 ow3 B3.size) (kn_set nb4 (by decide) (Nat.le_refl _) 0 _)), ⟨⟨_, setCell_heap' nb4 0 _, ?_⟩, ?_, (B3.grown gr3 B3.size fun k hk => (ow3.lt k hk).1).setCell (p := ⟨w.heap.size, 0, none⟩) (Nat.le_refl _) _⟩⟩
      · rw [HE2.out]
        have el : (E ++ (tgB tag ++ lnB (C : Int) ++ val.data.toList)).length = L2 + val.size := by
          have h3 : val.data.toList.length = val.size := by simp
          simp only [List.length_append]
          have := HL1.out
          have := HL2.out
          omega
        rw [el, ← List.append_assoc, ← List.append_assoc, Lib.byteCells_append]
        exact ow4
      · rw [HE2.out]
        exact HLn.out
  case done =>
    rintro D xs Y hD hS ⟨⟨u, h0, h1⟩, h2, h3⟩ hK
    have HE : Hid (encS (xs.map (·.1)) = R) := by show _ = _; rw [← HR.out, hS]
    rw [HE.out] at h1 h2
    obtain ⟨uo, uc, rfl⟩ := owns_sl h1
    obtain ⟨c0, z0⟩ := Gn.cell1 h0
    have hcv : (convert 81 9 (.slice uo R.length uc)).run Try.prog Y = .ok (.string ⟨R.toArray⟩) Y := Lib0.run_str Try.underlying81 Try.underlying5 Try.underlying9 h1
    clear hS h0 h1 h2 hsr hss M0 hbV HR HE
    go_wp2
    refine ⟨by simp, .inl ⟨_, _, rfl, run_takeDeferred hK, ?_⟩⟩
    refine ⟨.string ⟨R.toArray⟩, ?_, rfl, h3.trans (belowK_b (w := w) (Nat.le_refl _) _ D _ _ (by omega) hK rfl rfl)⟩
    simp [results, Try.f42, go_sem]
  case stop =>
    rintro D c pre Y hD hS hF hK
    exact hF.elim
end Go.Proofs.Ytgidjfhlooggkaa.Nb
