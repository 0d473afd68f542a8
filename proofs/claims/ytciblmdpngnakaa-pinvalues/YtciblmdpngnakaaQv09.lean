import Derived.Test.YtciblmdpngnakaaQv02
import Derived.Deep.QuietTactic
import Derived.Test.YtciblmdpngnakaaQv06
import Derived.Test.YtciblmdpngnakaaQv08
/- Regions that draw their order, whose operations leave a class of worlds alone but for the last one, which waits for all others. -/
namespace Go.Proofs.Ytciblmdpngnakaa.Ql
set_option linter.unusedVariables false
open Go.RowKit Pla Cb
variable {P : Program} {ops : Array Oper} {md : Region.Mode} {C : World → Prop}
/-- what an operation waits for -/
def deps (md : Region.Mode) (ops : Array Oper) (j : Nat) : List Nat := match ops[j]? with
  | none => []
  | some o => (o.after.filter (Region.binds md)).toList.map (·.on)
def ups (md : Region.Mode) (ops : Array Oper) : Nat → List Nat → List Nat
  | 0, l => l
  | k + 1, l => ups md ops k (l ++ l.flatMap (deps md ops))
/-- all that stands ahead of n is waited for by n -/
def lastB (md : Region.Mode) (ops : Array Oper) (n : Nat) : Bool := (List.range n).all fun j => (ups md ops n (deps md ops n)).contains j
def Closed (md : Region.Mode) (ops : Array Oper) (listed : Array Bool) : Prop := ∀ j, listed.getD j false = true → ∀ d ∈ deps md ops j, listed.getD d false = true
theorem ups_listed {listed : Array Bool} (hc : Closed md ops listed) : ∀ (k : Nat) (l : List Nat), (∀ d ∈ l, listed.getD d false = true) → ∀ d ∈ ups md ops k l, listed.getD d false = true
  | 0, l, h => h
  | k + 1, l, h => ups_listed hc k _ fun d hd => by
    rcases List.mem_append.1 hd with hd | hd
    · exact h d hd
    · obtain ⟨j, hj, hd⟩ := List.mem_flatMap.1 hd
      exact hc j (h j hj) d hd
theorem ready_deps {listed : Array Bool} {j : Nat} (h : j ∈ Region.ready md ops listed) : ∀ d ∈ deps md ops j, listed.getD d false = true := by
  obtain ⟨_, o, ho, hall⟩ := mem_ready.1 h
  intro d hd
  unfold deps at hd
  rw [ho] at hd
  obtain ⟨e, he, rfl⟩ := List.mem_map.1 hd
  have he' := Array.mem_filter.1 (by simpa using he)
  exact hall e he'.1 he'.2
theorem last_all {listed : Array Bool} {n : Nat} (hB : lastB md ops n = true) (hc : Closed md ops listed) (h : n ∈ Region.ready md ops listed) (j : Nat) (hj : j < n) : listed.getD j false = true := by
  have hm := List.all_eq_true.1 hB j (List.mem_range.2 hj)
  exact ups_listed hc n _ (ready_deps h) j (by simpa using hm)
theorem set_true {listed : Array Bool} {i d : Nat} (h : listed.getD d false = true) : (listed.setIfInBounds i true).getD d false = true := getD_set_true h
theorem closed_set {listed : Array Bool} {i : Nat} (hc : Closed md ops listed) (hi : i ∈ Region.ready md ops listed) : Closed md ops (listed.setIfInBounds i true) := by
  intro j hj d hd
  by_cases e : i = j
  · subst e; exact set_true (ready_deps hi d hd)
  · refine set_true (hc j ?_ d hd)
    simpa [Array.getElem?_setIfInBounds, e] using hj
def wpAnyL (P : Program) (md : Region.Mode) (ops : Array Oper) (C : World → Prop) (T : Act → Prop) (n : Nat) : Nat → Array Bool → Act → Prop
  | 0, listed, a => Region.ready md ops listed = [n] ∧ Region.ready md ops (listed.setIfInBounds n true) = [] ∧ T a
  | fuel + 1, listed, a => Region.ready md ops listed ≠ [] ∧ ∀ i ∈ Region.ready md ops listed, qOp P ops C i (wpAnyL P md ops C T n fuel (listed.setIfInBounds i true)) a
theorem wpAny_of_last {T : Act → Prop} {n : Nat} {Q' : Exit → Act → World → Prop} (hT : ∀ a w, C w → T a → wpOp P ops Q' n (fun a' w' => Q' .normal a' w') a w) : ∀ (fuel : Nat) (listed : Array Bool) (a : Act) (w : World), C w →
    wpAnyL P md ops C T n fuel listed a → wpAny P md ops Q' (fuel + 1) listed a w
  | 0, listed, a, w, hw, h => ⟨fun h0 => by rw [h.1] at h0; simp at h0, fun i hi => by
      rw [h.1] at hi
      have : i = n := by simpa using hi
      subst this
      exact wpOp_mono (fun a' w' hq => ⟨h.2.1, hq⟩) (hT a w hw h.2.2)⟩
  | fuel + 1, listed, a, w, hw, h => ⟨fun h0 => absurd h0 h.1, fun i hi => wpOp_of_qOp hw (fun a' w' hw' => wpAny_of_last hT fuel _ a' w' hw') (h.2 i hi)⟩
theorem wpAnyL_first {T : Act → Prop} {n i : Nat} {oi : Oper} {v : Value} (hB : lastB md ops n = true) (hin : i < n) (hi : ops[i]? = some oi) (hsel : ∀ (j : Nat) (o : Oper) cs b, ops[j]? = some o → o.op ≠ .select cs b) :
    ∀ (fuel : Nat) (listed : Array Bool) (a : Act), Closed md ops listed →
      (∀ j oj, ops[j]? = some oj → j ≠ i → listed.getD j true = false → (∀ e ∈ oj.after, Region.binds md e = true → e.on ≠ i) → oi.apart ops oj = true) →
      i ∈ Region.ready md ops listed → YieldsIn P ops C oi v a →
      wpAnyL P md ops C T n fuel (listed.setIfInBounds i true) (a.put oi.dst v) → wpAnyL P md ops C T n (fuel + 1) listed a := by
  intro fuel
  induction fuel with
  | zero =>
    intro listed a hc _ hr hy H
    refine ⟨fun h => (by rw [h] at hr; cases hr), fun j hj => ?_⟩
    by_cases hji : j = i
    · subst hji; exact hy.qOp hi H
    · have h2 := ready_mono hj hji
      rw [H.1] at h2
      have : j = n := by simpa using h2
      subst this
      have h3 := last_all hB hc hj i hin
      have h4 := (mem_ready.1 hr).1
      rcases Nat.lt_or_ge i listed.size with h' | h'
      · simp [h'] at h3 h4; rw [h3] at h4; cases h4
      · simp [Array.getElem?_eq_none h'] at h3
  | succ fuel ih =>
    intro listed a hc hfree hr hy H
    refine ⟨fun h => (by rw [h] at hr; cases hr), fun j hj => ?_⟩
    by_cases hji : j = i
    · subst hji; exact hy.qOp hi H
    · have h1 := H.2 j (ready_mono hj hji)
      obtain ⟨hjun, oj, hoj, hall⟩ := mem_ready.1 hj
      have hnot : ∀ e ∈ oj.after, Region.binds md e = true → e.on ≠ i := fun e he hb heq => by
        have h1 := hall e he hb
        have h0 := (mem_ready.1 hr).1
        rw [heq] at h1
        rcases Nat.lt_or_ge i listed.size with h' | h'
        · simp [h'] at h0 h1; rw [h0] at h1; cases h1
        · simp [Array.getElem?_eq_none h'] at h1
      have h2 := qOp_put hoj (hfree j oj hoj hji hjun hnot) (fun cs b => hsel i oi cs b hi) (fun cs b => hsel j oj cs b hoj) hy h1
      have hfree' : ∀ k ok, ops[k]? = some ok → k ≠ i → (listed.setIfInBounds j true).getD k true = false →
          (∀ e ∈ ok.after, Region.binds md e = true → e.on ≠ i) → oi.apart ops ok = true := fun k ok hk hki hun hno => by
        refine hfree k ok hk hki ?_ hno
        by_cases hjk : j = k
        · subst hjk; exact hjun
        · rw [getD_set_ne true hjk] at hun; exact hun
      refine qOp_mono (fun a' h3 => ih (listed.setIfInBounds j true) a' (closed_set hc hj) hfree' (ready_mono hr (Ne.symm hji)) h3.1 ?_) h2
      rw [Array.setIfInBounds_comm _ _ hji]
      exact h3.2
def lexL (md : Region.Mode) (ops : Array Oper) (n : Nat) : Nat → Nat → Array Bool → Bool
  | 0, k, listed => Region.ready md ops listed == [n] && Region.ready md ops (listed.setIfInBounds n true) == []
  | fuel + 1, k, listed => (Region.ready md ops listed).contains k && Region.free md ops listed k && lexL md ops n fuel (k + 1) (listed.setIfInBounds k true)
theorem wpAnyL_lex {T : Act → Prop} {n : Nat} (hB : lastB md ops n = true) (hs : Region.noSelect ops = true) : ∀ (l : List Oper) (k : Nat) (listed : Array Bool) (a : Act), k + l.length = n → Closed md ops listed → (∀ j, j < l.length → l[j]? = ops[k + j]?) →
    lexL md ops n l.length k listed = true → wpQuiet P ops C T l a → wpAnyL P md ops C T n l.length listed a
  | [], _, _, _, _, _, _, hL, h => by
    simp only [List.length_nil, lexL, Bool.and_eq_true, beq_iff_eq] at hL
    exact ⟨hL.1, hL.2, h⟩
  | o :: l, k, listed, a, hn, hc, hl, hL, h => by
    have h0 : ops[k]? = some o := by simpa using (hl 0 (by simp)).symm
    simp only [List.length_cons, lexL, Bool.and_eq_true] at hL
    obtain ⟨⟨hr, hf⟩, hL'⟩ := hL
    have hr' : k ∈ Region.ready md ops listed := by simpa using hr
    have hst : qOp P ops C k (wpQuiet P ops C T l) a := by unfold qOp; simp only [h0]; exact h
    obtain ⟨v, hy, hK⟩ := yieldsIn_of_qOp h0 hst
    simp only [List.length_cons] at hn
    exact wpAnyL_first hB (by omega) h0 (Region.noSelect_spec hs) l.length listed a hc (Region.free_spec h0 hf) hr' hy
      (wpAnyL_lex hB hs l (k + 1) _ _ (by omega) (closed_set hc hr') (fun j hj => by have := hl (j + 1) (by simp; omega); simpa [Nat.add_assoc, Nat.add_comm 1 j] using this) hL' hK)
theorem closed_zero (n : Nat) : Closed md ops (Array.replicate n false) := by
  intro j hj
  rcases Nat.lt_or_ge j n with h | h
  · simp [h] at hj
  · simp [Array.getElem?_eq_none (show (Array.replicate n false).size ≤ j by simp; omega)] at hj
/-- the region: all but the last in the order of the text, then the last -/
theorem region_last {id : Nat} {Q : Exit → Act → World → Prop} {a : Act} {w : World} {l : List Oper} {o : Oper} (hm : P.follows .mixedOrders = true)
    (hs : Region.noSelect (l ++ [o]).toArray = true) (hB : lastB .any (l ++ [o]).toArray l.length = true) (hL : lexL .any (l ++ [o]).toArray l.length l.length 0 (Array.replicate (l.length + 1) false) = true) (hg : o.guard = none)
    (hC : C w.drew) (h : wpQuiet P (l ++ [o]).toArray C (fun a' => ∀ y, C y → o.wp P a' y (fun a'' y' => Q .normal a'' y') Q) l a) : (Code.region id (l ++ [o]).toArray true).wp P Q a w := by
  refine wp_region_any hm ?_
  have hsz : (l ++ [o]).toArray.size = l.length + 1 := by simp
  rw [hsz]
  refine wpAny_of_last (C := C) (T := fun a' => ∀ y, C y → o.wp P a' y (fun a'' y' => Q .normal a'' y') Q) (n := l.length) ?_ l.length _ a _ hC ?_
  · intro a' y hy hT
    unfold wpOp
    rw [show (l ++ [o]).toArray[l.length]? = some o by simp]
    simp only
    rw [if_pos (by simp [Region.wanted, hg])]
    exact .inl (hT y hy)
  · exact wpAnyL_lex hB hs l 0 _ a (by simp) (closed_zero _) (fun j hj => by rw [Nat.zero_add, List.getElem?_toArray, List.getElem?_append_left hj]) hL h
theorem region_lastL {id : Nat} {Q : Exit → Act → World → Prop} {a : Act} {w : World} {L : List Oper} {o : Oper} (hm : P.follows .mixedOrders = true) (hlast : L = L.dropLast ++ [o])
    (hs : Region.noSelect L.toArray = true) (hB : lastB .any L.toArray L.dropLast.length = true) (hL : lexL .any L.toArray L.dropLast.length L.dropLast.length 0 (Array.replicate (L.dropLast.length + 1) false) = true) (hg : o.guard = none)
    (hC : C w.drew) (h : wpQuiet P L.toArray C (fun a' => ∀ y, C y → o.wp P a' y (fun a'' y' => Q .normal a'' y') Q) L.dropLast a) : (Code.region id L.toArray true).wp P Q a w := by
  generalize L.dropLast = l at *
  subst hlast
  exact region_last hm hs hB hL hg hC h
/-- the worlds behind x: below its size as x is -/
def Cl (x : World) : World → Prop := fun y => Below x.heap.size x y
theorem region_cl {id : Nat} {Q : Exit → Act → World → Prop} {a : Act} {x : World} {l : List Oper} (hm : P.follows .mixedOrders = true) (hB : Region.lexB .any l.toArray = true)
    (h : wpQuiet P l.toArray (Cl x) (fun a' => ∀ y, Cl x y → Q .normal a' y) l a) : (Code.region id l.toArray true).wp P Q a x :=
  wp_region_quiet (C := Cl x) hm hB ((Below.refl _ _).drew : Below x.heap.size x x.drew) (by simpa using h)
theorem q_row {o : Oper} {a : Act} {x : World} {K : Act → Prop} (hw : Region.wanted o (yielded ops a.tmps) = true) (ty : TypeId) (xo : Operand) (ho : o.op = .load ty xo)
    (g : Nat) (hx : a.eval xo = .pointer (some ⟨g, 0, none⟩)) (t : TypeId) (cs : Array Value) (fr : Nat × Nat) (d : TypeDesc) (hg : x.heap[g]? = some (.cells cs t fr))
    (hu : P.underlying ty = some d) (hd : (match d with | .struct _ | .array _ _ => true | _ => false) = true) (hi : (P.info? ty).map (·.size) = some cs.size)
    (h : K (a.put o.dst (.agg cs))) : if Region.wanted o (yielded ops a.tmps) then o.quiet P a (Cl x) K else K (a.put o.dst undef) := by
  rw [if_pos hw]
  refine ⟨.agg cs, fun y hy => ?_, h⟩
  unfold Oper.quietAt execOp
  have hl := run_loadVar_row (P := P) y g t ty cs fr d (kept hy hg) hu hd hi
  simp only [ho, hx, Instr.loadAt, Instr.sureAddr, Sem.run_bind, Sem.run_pure, Result.andThen_ok, hl]
  exact ⟨rfl, rfl⟩
theorem q_cell {o : Oper} {a : Act} {x : World} {K : Act → Prop} (hw : Region.wanted o (yielded ops a.tmps) = true) (ty : TypeId) (xo : Operand) (ho : o.op = .load ty xo)
    (b k : Nat) (hx : a.eval xo = .pointer (some ⟨b, k, none⟩)) (v : Value) (hc : x.cell? ⟨b, k, none⟩ = some v) (hb : b < x.heap.size) (hag : ∀ y, (isAgg ty).run P y = .ok false y)
    (h : K (a.put o.dst v)) : if Region.wanted o (yielded ops a.tmps) then o.quiet P a (Cl x) K else K (a.put o.dst undef) := by
  rw [if_pos hw]
  refine ⟨v, fun y hy => ?_, h⟩
  unfold Oper.quietAt execOp
  have hy' : y.cell? ⟨b, k, none⟩ = some v := keepC hy hc hb
  simp [ho, hx, Instr.loadAt, Instr.sureAddr, loadVar, hag, hy', Oper.quietUpon]
theorem cl_of {f : FuncId} {args : Array Value} {x y : World} {v : Value} (hy : Cl x y) (h : Calls P f args y fun e y' => e = .returned v ∧ Below y.heap.size y y') :
    Calls P f args y fun e y' => e = .returned v ∧ Cl x y' := h.mono fun e y' hh => ⟨hh.1, keepB hy hh.2⟩
theorem cl_same {f : FuncId} {args : Array Value} {x y : World} {v : Value} (hy : Cl x y) (h : Calls P f args y fun e y' => e = .returned v ∧ y' = y) :
    Calls P f args y fun e y' => e = .returned v ∧ Cl x y' := h.mono fun e y' hh => ⟨hh.1, hh.2 ▸ hy⟩
end Go.Proofs.Ytciblmdpngnakaa.Ql
/- One block under one part of a key. -/
namespace Go.Proofs.Ytciblmdpngnakaa.En
set_option linter.unusedVariables false
open Go.RowKit Pla Cb Tk Sm Wd Tb Mx Rk Ab
/-- the cells of sixteen round keys -/
def kfl (ks : List (List Bool)) (i : Nat) : Nat := val (grp (ks.getD (i / 8) []) (i % 8))
theorem kfl_sched (key : List Bool) : byC 128 (kfl (sched key)) = byC 128 (kf key) := byC_ext fun i hi => by
  rw [kfl, kf, sched, List.getD_eq_getElem?_getD, List.getElem?_map, List.getElem?_range (by omega)]; rfl
theorem z46 : (Try.prog.info? 70).map (fun i => (i.zero, i.size)) = some (some (.agg (byC 8 fun _ => 0)), 8) := by kernel_rfl
theorem xor32 (a b : List Bool) (ha : a.length = 32) (hb : b.length = 32) : bits .xor .u32 (val a : Int) (val b : Int) = (val (xr a b) : Int) := by
  have v1 := val_lt a
  have v2 := val_lt b
  rw [ha] at v1
  rw [hb] at v2
  rw [u32_xor_nat _ _ v1 v2, val_xr a b (by rw [ha, hb])]
theorem by8 (v : Nat → Nat) : byC 8 v = #[.int .u8 ((v 0 : Nat) : Int), .int .u8 ((v 1 : Nat) : Int), .int .u8 ((v 2 : Nat) : Int), .int .u8 ((v 3 : Nat) : Int), .int .u8 ((v 4 : Nat) : Int), .int .u8 ((v 5 : Nat) : Int), .int .u8 ((v 6 : Nat) : Int), .int .u8 ((v 7 : Nat) : Int)] := rfl
theorem in_ok : ∀ n ∈ tIn, 1 ≤ n ∧ n ≤ 64 := by decide
theorem out_ok : ∀ n ∈ tOut, 1 ≤ n ∧ n ≤ 64 := by decide
/-- the halves behind n rounds -/
def st (ks : List (List Bool)) (x : List Bool) (n : Nat) : List Bool × List Bool := (ks.take n).foldl rnd ((tk tIn x).take 32, (tk tIn x).drop 32)
theorem st_len (ks : List (List Bool)) (x : List Bool) (n : Nat) : (st ks x n).1.length = 32 ∧ (st ks x n).2.length = 32 :=
  rnds_len _ _ ⟨by simp [tk_len, show tIn.length = 64 from rfl], by simp [tk_len, show tIn.length = 64 from rfl]⟩
theorem st_succ (ks : List (List Bool)) (x : List Bool) (n : Nat) (h : n < ks.length) : st ks x (n + 1) = rnd (st ks x n) (ks.getD n []) := by
  rw [st, List.take_succ_eq_append_getElem h, List.foldl_append, List.getD_eq_getElem?_getD, List.getElem?_eq_getElem h]; rfl
theorem st_lt (ks : List (List Bool)) (x : List Bool) (n : Nat) : val (st ks x n).1 < 4294967296 ∧ val (st ks x n).2 < 4294967296 := by
  have l := st_len ks x n
  have v1 := val_lt (st ks x n).1
  have v2 := val_lt (st ks x n).2
  rw [l.1] at v1
  rw [l.2] at v2
  exact ⟨v1, v2⟩
set_option maxRecDepth 100000 in
set_option maxHeartbeats 3200000 in
theorem enc_any (ks : List (List Bool)) (hks : Hid (ks.length = 16)) (hkl : Hid (∀ n, n < 16 → (ks.getD n []).length = 48)) (x : List Bool) (hx : Hid (x.length = 64)) (g o : Nat) (w : World) (hg : g < w.heap.size) (hr : w.rangeAt g o (byC 128 (kfl ks)).toList) :
    Calls Try.prog 74 #[.pointer (some ⟨g, o, none⟩), .int .u64 (val x : Int)] w fun e w' => e = .returned (.int .u64 (val (des ks x) : Int)) ∧ Below w.heap.size w w' := by
  have hz := (zero_of_info z80).1
  have ec : Hid (val (tk tIn x) = val (st ks x 0).1 * 4294967296 + val (st ks x 0).2) := by
    show _ = _
    have := val_append (st ks x 0).1 (st ks x 0).2
    rw [(st_len ks x 0).2] at this
    rw [← this]
    simp only [st, List.take_zero, List.foldl_nil, List.take_append_drop]
  go_enter Try.func74, Try.ntmps74
  go_wp2_with (first
    | (go_at_call 85; refine (boxes_any _).mono ?_; rintro e y ⟨rfl, hy⟩)
    | (go_at_call 86; refine (tabIn_any _).mono ?_; rintro e y2 ⟨rfl, rfl⟩)
    | (go_at_call 66; refine (take_any x tIn 64 64 (y.heap.size + 1) (0, 0) hx rfl _ (h2_1 y _ _) in_ok (by decide) (by decide)).mono ?_; rintro e y3 ⟨rfl, rfl⟩; rw [ec.out])
    | (go_at_call 65; refine (cut32 (val (st ks x 0).1) (val (st ks x 0).2) (st_lt ks x 0).1 (st_lt ks x 0).2 _).mono ?_; rintro e z ⟨rfl, hz0⟩)
    | (refine wpList_store_row rfl 115 _ _ rfl y.heap.size (tabC boxL) rfl rfl _ _ (h1_0 y _) h80 (by rw [byC_size, tabC_size]; exact box_len.symm) (tab_one _) ?_; rw [World.setRow_alloc_new]))
  have hzz : Below y.heap.size y z := keepB (below_two y _ _) hz0
  have b0 : Below w.heap.size w z := keepB hy hzz
  have sx : y.heap.size + 1 < z.heap.size := by have := hz0.size; simp at this; omega
  have sy := hy.size
  have gs : z.heap[y.heap.size]? = some (.cells (tabC boxL) 115) := kept hz0 (h2_0 y _ _)
  clear hz hz0 hzz hy ec hx
  go_loopw [8, 15] (fun i c wr => ∃ j : Nat, j ≤ 16 ∧ c = .int .i64 (j : Int) ∧ wr.heap[y.heap.size]? = some (.cells (tabC boxL) 115) ∧ wr.heap[z.heap.size]? = some (.cells #[.int .u32 (val (st ks x j).1 : Int), .int .u32 (val (st ks x j).2 : Int)] 88) ∧ Below w.heap.size w wr) (fun _ c _ => 17 - (intOf c).toNat)
  case atStart => exact ⟨0, by omega, rfl, (Below.heap_alloc _ _ _ (by omega)).trans gs, h1_0 _ _, b0.alloc (by omega) _⟩
  case round =>
    obtain ⟨j, hj, rfl, g1, g2, hb⟩ := hrel
    have hbs := hb.size
    by_cases hj2 : j < 16
    · have q : (j : Int) < 16 := by omega
      have q0 : (0 : Int) ≤ (j : Int) := by omega
      have hrw : wr.rangeAt g (o + j * 8) (byC 8 fun i => kfl ks (j * 8 + i)).toList := range_sub (range_keep hb hg hr) (j * 8) (by omega)
      have HKJ : Hid ((byC 8 fun i => kfl ks (j * 8 + i)) = byC 8 fun i => val (grp (ks.getD j []) i)) := byC_ext fun i hi => (by rw [kfl, show (j * 8 + i) / 8 = j by omega, show (j * 8 + i) % 8 = i by omega] : kfl ks (j * 8 + i) = val (grp (ks.getD j []) i))
      have HS : Hid (st ks x (j + 1) = rnd (st ks x j) (ks.getD j [])) := st_succ ks x j (by rw [hks.out]; exact hj2)
      have hkj : Hid ((ks.getD j []).length = 48) := hkl.out j hj2
      have hzk := (zero_of_info z46).1
      generalize ks.getD j [] = kj at *
      go_wp2_with (first
        | (refine wpList_load_mid rfl 70 _ rfl g (o + j * 8) rfl _ _ hrw Try.underlying70 rfl (by rw [Array.length_toList]; exact h46 _) ?_; rw [Array.toArray_toList, HKJ.out])
        | (refine wpList_store_row rfl 70 _ _ rfl wr.heap.size (byC 8 fun i => val (grp kj i)) rfl rfl _ _ (h1_0 wr _) (h46 _) (by rw [byC_size, byC_size]) (byC_one _ _) ?_; rw [World.setRow_alloc_new]))
      have s1 := (st_len ks x j).1
      have s2 := (st_len ks x j).2
      have u1 := xor32 (st ks x j).1 (mix (st ks x j).2 kj) s1 (mix_len _ _)
      have HS2 : Hid ((st ks x (j + 1)).1 = (st ks x j).2 ∧ (st ks x (j + 1)).2 = xr (st ks x j).1 (mix (st ks x j).2 kj)) := (by rw [HS.out]; exact ⟨rfl, rfl⟩ : (st ks x (j + 1)).1 = (st ks x j).2 ∧ (st ks x (j + 1)).2 = xr (st ks x j).1 (mix (st ks x j).2 kj))
      have gz : z.heap.size < wr.heap.size := (Array.getElem?_eq_some_iff.1 g2).1
      have k1 : (wr.alloc (Obj.cells (byC 8 fun i => val (grp kj i)) 70)).heap[y.heap.size]? = some (.cells (tabC boxL) 115) := (Below.heap_alloc _ _ _ (by omega)).trans g1
      have k2 : (wr.alloc (Obj.cells (byC 8 fun i => val (grp kj i)) 70)).heap[z.heap.size]? = some (.cells #[.int .u32 (val (st ks x j).1 : Int), .int .u32 (val (st ks x j).2 : Int)] 88) := (Below.heap_alloc _ _ _ gz).trans g2
      have k3 := h1_0 wr (Obj.cells (byC 8 fun i => val (grp kj i)) 70)
      have k4 := hb.alloc hbs (Obj.cells (byC 8 fun i => val (grp kj i)) 70)
      have k5 : wr.heap.size < (wr.alloc (Obj.cells (byC 8 fun i => val (grp kj i)) 70)).heap.size := by simp
      generalize wr.alloc (Obj.cells (byC 8 fun i => val (grp kj i)) 70) = W0 at *
      obtain ⟨c0, c1, f0, f1⟩ := held2 (Below.refl W0.heap.size W0) k2
      have MX := fun (y1 : World) (hy1 : Ql.Cl W0 y1) => mixed_any (st ks x j).2 kj s2 hkj y.heap.size (0, 0) y1 (kept hy1 k1)
      generalize xr (st ks x j).1 (mix (st ks x j).2 kj) = NX at *
      generalize mix (st ks x j).2 kj = M at *
      clear HS HKJ hrw hzk hkj s1 s2
      have zl : z.heap.size < W0.heap.size := (Array.getElem?_eq_some_iff.1 k2).1
      refine Ql.region_lastL (C := Ql.Cl W0) (by kernel_rfl) rfl (by kernel_rfl) (by kernel_rfl) (by kernel_rfl) rfl ((Below.refl _ _).drew) ?_
      repeat (refine wpQuiet_step (fun K hK => ?_); first
        | (refine Ql.q_cell (by rfl) 86 _ rfl z.heap.size 0 rfl _ c0 zl Try.isAgg86 (hK _ ?_); clear hK K)
        | (refine Ql.q_cell (by rfl) 86 _ rfl z.heap.size 1 rfl _ c1 zl Try.isAgg86 (hK _ ?_); clear hK K)
        | (refine Ql.q_row (by rfl) 70 _ rfl wr.heap.size rfl _ _ _ _ k3 Try.underlying70 rfl (h46 _) (hK _ ?_); clear hK K)
        | (go_simp; apply Exists.intro; refine ⟨fun y hy => ?_, hK _ ?_⟩; (first | (go_at_call 87; exact Ql.cl_of hy (MX y hy))); clear hK K)
        | (go_simp; refine hK _ ?_; clear hK K)
        | (go_simp; refine ⟨_, fun _ _ => rfl, hK _ ?_⟩; clear hK K)
        | (go_simp; refine ⟨_, fun _ _ => ⟨rfl, rfl⟩, hK _ ?_⟩; clear hK K))
      refine wpQuiet_nil ?_
      intro y1 hy1
      refine wp_store_row 88 _ _ rfl z.heap.size #[.int .u32 (val (st ks x j).2 : Int), .int .u32 (val NX : Int)] rfl rfl _ _ (kept hy1 k2) (by kernel_rfl) rfl (by simp [Value.oneCell']) ?_
      have m1 := setRow_at (kept hy1 k2) #[.int .u32 (val (st ks x j).2 : Int), .int .u32 (val NX : Int)]
      have m2 := (setRow_ne (w := y1) (show z.heap.size ≠ y.heap.size by omega) #[.int .u32 (val (st ks x j).2 : Int), .int .u32 (val NX : Int)]).trans (kept hy1 k1)
      have m3 := below_setRow (keepB k4 hy1) (show w.heap.size ≤ z.heap.size by omega) #[.int .u32 (val (st ks x j).2 : Int), .int .u32 (val NX : Int)]
      generalize y1.setRow z.heap.size #[.int .u32 (val (st ks x j).2 : Int), .int .u32 (val NX : Int)] = W5 at *
      rw [← HS2.out.1, ← HS2.out.2] at m1
      clear hy1 c0 c1 f0 f1 MX k1 k2 k3 k4 g1 g2 hb
      go_wp2
      exact ⟨⟨j + 1, by omega, by simp, m2, m1, m3⟩, by simp only [intOf]; omega⟩
    · obtain rfl : j = 16 := by omega
      obtain ⟨c0, c1, f0, f1⟩ := held2 (Below.refl wr.heap.size wr) g2
      have zl : z.heap.size < wr.heap.size := (Array.getElem?_eq_some_iff.1 g2).1
      have hO : Hid ((((st ks x 16).2 ++ (st ks x 16).1).length = 64)) := (by rw [List.length_append, (st_len ks x 16).1, (st_len ks x 16).2] : ((st ks x 16).2 ++ (st ks x 16).1).length = 64)
      have hJ : Hid (val ((st ks x 16).2 ++ (st ks x 16).1) = val (st ks x 16).2 * 4294967296 + val (st ks x 16).1) := (by rw [val_append, (st_len ks x 16).1] : val ((st ks x 16).2 ++ (st ks x 16).1) = val (st ks x 16).2 * 4294967296 + val (st ks x 16).1)
      have e16 : ks.take 16 = ks := List.take_of_length_le (by rw [hks.out]; exact Nat.le_refl _)
      have HD : Hid (des ks x = tk tOut ((st ks x 16).2 ++ (st ks x 16).1)) := (by simp only [des, st, e16] : des ks x = tk tOut ((st ks x 16).2 ++ (st ks x 16).1))
      clear e16
      have sl := st_lt ks x 16
      generalize (st ks x 16).1 = A1 at *
      generalize (st ks x 16).2 = A2 at *
      go_wp2_with (first
        | (go_at_call 71; refine (join32 (val A2) (val A1) sl.2 sl.1 _).mono ?_; rintro e y1 ⟨rfl, hy1⟩; rw [← hJ.out])
        | (go_at_call 88; refine (tabOut_any _).mono ?_; rintro e y2 ⟨rfl, rfl⟩)
        | (go_at_call 66; refine (take_any (A2 ++ A1) tOut 64 64 y1.heap.size (0, 0) hO rfl _ (h1_0 y1 _) out_ok (by decide) (by decide)).mono ?_; rintro e y3 ⟨rfl, rfl⟩))
      go_ret
      exact ⟨by rw [HD.out]; rfl, keepB (keepB (below_setCell (below_setCell hb (show w.heap.size ≤ z.heap.size by omega) _ _) (show w.heap.size ≤ z.heap.size by omega) _ _) hy1) (below_one y1 _)⟩
end Go.Proofs.Ytciblmdpngnakaa.En
