/- Nodes: lentNodes. -/
import Derived.Test.YtbekjlinnbmpgaaNr
namespace Go.Proofs.Ytbekjlinnbmpgaa.Nl
set_option linter.unusedVariables false
set_option linter.unusedSimpArgs false
open Go.RowKit Lib0 Kp Kb Kd Kt Ks Kw Ku Kx Fs Nd Nq Nr
theorem wpList_make_three {P : Program} (w : World) {ops : Array Oper} {rest : List Oper} {o : Oper} {a : Act} {Q : Exit → Act → World → Prop}
    (hg : o.guard = none) (l c : Operand) (t : TypeId) (hop : o.op = Op.makeSlice t l c)
    (e : TypeId) (i : TypeInfo) (z : Value) (zc : Array Value) (ht : P.underlying t = some (.slice e)) (hi : P.info? e = some i) (hz : i.zero = some z) (hsize : i.size = 3) (hzc : z.cells = zc)
    (kl kc : IntKind) (n : Nat) (hl : a.eval l = .int kl (n : Int)) (hc : a.eval c = .int kc (n : Int)) (hbytes : i.bytes * n ≤ 281474976710656) (h63 : n ≤ 9223372036854775807)
    (hK : wpList P ops Q rest (a.put o.dst (.slice (some ⟨w.heap.size, 0, none⟩) n n)) (w.alloc (.cells (madeCells zc (n * 3)) e))) :
    wpList P ops Q (o :: rest) a w := by
  refine wpList_plain hg fun K hK' => ?_
  have hb' : (i.bytes : Int) * (n : Int) ≤ 281474976710656 := by
    have h : ((i.bytes * n : Nat) : Int) ≤ 281474976710656 := by omega
    rwa [Int.natCast_mul] at h
  have hrun := run_make (P := P) w t e i z ht hi hz kl kc n n (by omega) (Int.le_refl _) hb' (by omega)
  simp only [Int.toNat_natCast, hsize, hzc] at hrun
  unfold Oper.wp
  simp [execOp, hop, hl, hc, hrun, Result.andThen]
  exact hK' _ _ hK
theorem made_row (a : Int) (b : ByteArray) (c : Value) (n : Nat) : RowIs (madeCells #[.int .i64 a, .string b, c] (n * 3)) n (fun _ => (a, b, c)) := by
  refine ⟨by rw [size_madeCells]; omega, fun i hi => ?_⟩
  have h0 : 3 * i < n * 3 := by omega
  have h1 : 3 * i + 1 < n * 3 := by omega
  have h2 : 3 * i + 2 < n * 3 := by omega
  refine ⟨?_, ?_, ?_⟩
  · simp [madeCells, h0, show 3 * i % 3 = 0 by omega]
  · simp [madeCells, h1, show (3 * i + 1) % 3 = 1 by omega]
  · simp [madeCells, h2, show (3 * i + 2) % 3 = 2 by omega]
theorem infoN : (Try.prog.info? 59).map (fun i => (i.zero, i.size, i.bytes)) = some (some (.agg #[.int .i64 0, .string ⟨#[]⟩, .slice none 0 0]), 3, 48) := by kernel_rfl
theorem szN (a : Int) (b : ByteArray) (c : Value) : (Try.prog.info? 59).map (·.size) = some (#[Value.int .i64 a, Value.string b, c] : Array Value).size := by
  show _ = some 3
  kernel_rfl
def zN : Int × ByteArray × Value := (0, ⟨#[]⟩, .slice none 0 0)
def mN : Int × ByteArray × Value := (-77, mk4, .slice none 0 0)
/-- what stands in the row when k places are filled -/
def Filled (w : World) (base : Nat) (ts : List Tr) (k : Nat) (f : Nat → Int × ByteArray × Value) : Prop :=
  ∀ i, i < k → (∀ (h : i < ts.length), ∃ (tag : Int) (val : ByteArray) (kids : List Tr) (kg : Nat), ts[i] = .mk tag val kids ∧ f i = (tag, val, .slice (some ⟨kg, 0, none⟩) kids.length (kids.length + 5)) ∧ Lent w base kg kids) ∧ (ts.length ≤ i → f i = mN)
theorem filled_keep {w w' : World} {base k : Nat} {ts : List Tr} {f : Nat → Int × ByteArray × Value} (h : ∀ b, base ≤ b → b < w.heap.size → w'.heap[b]? = w.heap[b]?) (hs : w.heap.size ≤ w'.heap.size) (hf : Filled w base ts k f) : Filled w' base ts k f := fun i hi => by
  refine ⟨fun hl => ?_, (hf i hi).2⟩
  obtain ⟨tag, val, kids, kg, e1, e2, e3⟩ := (hf i hi).1 hl
  exact ⟨tag, val, kids, kg, e1, e2, lent_world h hs e3⟩
theorem filled_upd {w : World} {base k : Nat} {ts : List Tr} {f : Nat → Int × ByteArray × Value} {x : Int × ByteArray × Value} (hf : Filled w base ts k f)
    (h1 : ∀ (h : k < ts.length), ∃ (tag : Int) (val : ByteArray) (kids : List Tr) (kg : Nat), ts[k] = .mk tag val kids ∧ x = (tag, val, .slice (some ⟨kg, 0, none⟩) kids.length (kids.length + 5)) ∧ Lent w base kg kids) (h2 : ts.length ≤ k → x = mN) : Filled w base ts (k + 1) (updF f k x) := fun i hi => by
  by_cases e : i = k
  · subst e
    have u : updF f i x i = x := by unfold updF; rw [if_pos rfl]
    rw [u]
    exact ⟨h1, h2⟩
  · have u : updF f k x i = f i := by unfold updF; rw [if_neg e]
    rw [u]
    exact hf i (by omega)
theorem filled_lent {w : World} {base g k : Nat} {ts : List Tr} {f : Nat → Int × ByteArray × Value} {C : Array Value} {t : TypeId} (hk : k = ts.length + 5) (hg : base ≤ g) (hb : w.heap[g]? = some (.cells C t)) (hr : RowIs C k f) (hf : Filled w (g + 1) ts k f) : Lent w base g ts := by
  refine ⟨hg, (Array.getElem?_eq_some_iff.1 hb).1, fun j h1 h2 => ?_, lent_of ts 0 fun i hi => ?_⟩
  · have := row_cells hb hr j (by omega)
    rw [(hf j (by omega)).2 h1] at this
    exact this
  · obtain ⟨tag, val, kids, kg, e1, e2, e3⟩ := (hf i (by omega)).1 hi
    have := row_cells hb hr i (by omega)
    rw [e2] at this
    rw [Nat.zero_add]
    exact ⟨tag, val, kids, kg, e1, this.1, this.2.1, this.2.2, by have := e3.1; omega, e3.2.2.1, lent_base (by omega) kg 0 kids e3.2.2.2⟩
theorem filled_low {w : World} {base k : Nat} {ts : List Tr} {f : Nat → Int × ByteArray × Value} {x : Int × ByteArray × Value} (hf : Filled w base ts k f) : Filled w base ts k (updF f k x) := fun i hi => by
  have u : updF f k x i = f i := by unfold updF; rw [if_neg (by omega)]
  rw [u]
  exact hf i hi
theorem lent_low {w : World} {b b' g : Nat} {ts : List Tr} (h : Lent w b' g ts) (hb : b ≤ b') : Lent w b g ts := ⟨Nat.le_trans hb h.1, h.2.1, h.2.2.1, lent_base hb g 0 ts h.2.2.2⟩
/-- the next one is stored -/
theorem store_next {W1 y : World} {G M N k kl g2 : Nat} {C1 : Array Value} {t : TypeId} {f : Nat → Int × ByteArray × Value} {ts kids : List Tr} {tag : Int} {val : ByteArray} (hk : k < M) (hkt : k < ts.length) (et : ts[k] = .mk tag val kids) (hkl : kids.length = kl)
    (hb1 : W1.heap[G]? = some (.cells C1 t)) (hr1 : RowIs C1 M (updF f k mN)) (hf1 : Filled W1 (G + 1) ts k f) (BY : Below W1.heap.size W1 y) (L2 : Lent y W1.heap.size g2 kids) {w : World} (bw : Below G w W1) (hGw : G ≤ W1.heap.size) :
    ∃ (C : Array Value) (F : Nat → Int × ByteArray × Value), (y.setCells G (k * 3) [.int .i64 tag, .string val, .slice (some ⟨g2, 0, none⟩) kl (kl + 5)]).heap[G]? = some (.cells C t) ∧ RowIs C M F ∧ Filled (y.setCells G (k * 3) [.int .i64 tag, .string val, .slice (some ⟨g2, 0, none⟩) kl (kl + 5)]) (G + 1) ts (k + 1) F ∧
      Below G w (y.setCells G (k * 3) [.int .i64 tag, .string val, .slice (some ⟨g2, 0, none⟩) kl (kl + 5)]) := by
  have hG := (Array.getElem?_eq_some_iff.1 hb1).1
  have hb2 := kept BY hb1
  have F2 : Filled y (G + 1) ts k (updF f k mN) := filled_keep (fun b _ h => BY.block b h) BY.size (filled_low hf1)
  have L3 : Lent y (G + 1) g2 kids := lent_low L2 (by omega)
  have kp : ∀ b, G + 1 ≤ b → b < y.heap.size → (y.setCells G (k * 3) [.int .i64 tag, .string val, .slice (some ⟨g2, 0, none⟩) kl (kl + 5)]).heap[b]? = y.heap[b]? := fun b h1 _ => setCells_ne (by omega) _ _ _
  have sz : y.heap.size ≤ (y.setCells G (k * 3) [.int .i64 tag, .string val, .slice (some ⟨g2, 0, none⟩) kl (kl + 5)]).heap.size := by rw [setCells_size]; exact Nat.le_refl _
  have R := row_put hr1 hk (tag, val, Value.slice (some ⟨g2, 0, none⟩) kl (kl + 5))
  rw [Nat.mul_comm 3 k] at R
  refine ⟨_, _, setCells_heap _ _ hb2, R, filled_upd (filled_keep kp sz F2) (fun h => ?_) (fun h => by omega), below_setCells (Nat.le_refl G) _ _ (bw.trans (BY.mono hGw))⟩
  refine ⟨tag, val, kids, g2, et, by rw [hkl], lent_world kp sz L3⟩
def LentP (w : World) (ts : List Tr) : Ending → World → Prop := fun e w' => ∃ g, e = .returned (.slice (some ⟨g, 0, none⟩) ts.length (ts.length + 5)) ∧ Lent w' w.heap.size g ts ∧ Below w.heap.size w w'
set_option maxRecDepth 100000 in
set_option maxHeartbeats 1600000 in
theorem lent_any : ∀ (m : Nat) (ts : List Tr), SizeOf.sizeOf ts ≤ m → ∀ (v : Value) (w : World), Lien w v ts → Calls Try.prog 20 #[v] w (LentP w ts) := by
  intro m
  induction m with
  | zero =>
    intro ts hm
    cases ts <;> simp at hm
  | succ m ih =>
    intro ts hm v w hz
    obtain ⟨i0, hi, hz0, hz1, hz2⟩ := info_parts infoN
    obtain ⟨o, cap, rfl, hl, hc⟩ := hz
    obtain ⟨N, HN, hN⟩ : ∃ N : Nat, Hid (ts.length = N) ∧ N ≤ 1048576 := ⟨_, rfl, hl⟩
    obtain ⟨M, HM5⟩ : ∃ M : Nat, Hid (N + 5 = M) := ⟨_, rfl⟩
    have eM := HM5.out
    have HC : Hid (ts ≠ [] → ∃ a, o = some a ∧ laid w a 0 ts) := hc
    have IH : Hid (∀ ts : List Tr, SizeOf.sizeOf ts ≤ m → ∀ (v : Value) (w : World), Lien w v ts → Calls Try.prog 20 #[v] w (LentP w ts)) := ih
    have HM : Hid (SizeOf.sizeOf ts ≤ m + 1) := hm
    have y1 : IntKind.i64.wrap ((N : Int) + 5) = (M : Int) := by rw [IntKind.wrap_i64]; omega
    have y2 : (N : Int) + 5 = (M : Int) := by omega
    have y3 : IntKind.i64.wrap (M : Int) = (M : Int) := by rw [IntKind.wrap_i64]; omega
    clear hc hl ih hm
    unfold LentP
    rw [HN.out]
    go_enter Try.func20, Try.ntmps20
    go_wp2_with (at_make; refine wpList_make_three _ rfl _ _ 30 rfl 59 i0 _ #[.int .i64 0, .string ⟨#[]⟩, .slice none 0 0] Try.underlying30 hi hz0 hz1 rfl _ _ M rfl rfl (by rw [hz2]; omega) (by omega) ?_)
    have R0 := made_row 0 ⟨#[]⟩ (.slice none 0 0) M
    have M0 := h1_0 w (.cells (madeCells #[.int .i64 0, .string ⟨#[]⟩, .slice none 0 0] (M * 3)) 59)
    have B0 := below_one w (.cells (madeCells #[.int .i64 0, .string ⟨#[]⟩, .slice none 0 0] (M * 3)) 59)
    generalize madeCells #[.int .i64 0, .string ⟨#[]⟩, .slice none 0 0] (M * 3) = C0 at *
    generalize w.alloc (.cells C0 59) = w0 at *
    obtain ⟨G, HG⟩ : ∃ G, Hid (w.heap.size = G) := ⟨_, rfl⟩
    have eG := HG.out
    rw [eG] at B0 M0 ⊢
    go_loopw [4] (fun i wr => ∃ (k : Nat) (C : Array Value) (f : Nat → Int × ByteArray × Value), k ≤ M ∧ i = .int .i64 (k : Int) ∧ wr.heap[G]? = some (.cells C 59) ∧ RowIs C M f ∧ Filled wr (G + 1) ts k f ∧ Below G w wr) (fun i _ => M + 1 - (intOf i).toNat)
    case atStart => exact ⟨0, C0, _, Nat.zero_le _, rfl, M0, R0, fun i h => by omega, B0⟩
    case round =>
      obtain ⟨k, C, f, hk, rfl, hb, hr, hf, bw⟩ := hrel
      by_cases hlt : k < M
      · have q0 : (0 : Int) ≤ (k : Int) := by omega
        have q1 : (k : Int) < (M : Int) := by omega
        obtain ⟨⟨c0, c1, c2⟩, ⟨f0, f1, f2⟩⟩ := row_all hb hr k hlt
        have hb1 := setCells_heap [.int .i64 (-77), .string mk4, .slice none 0 0] (3 * k) hb
        have hr1 := row_put hr hlt mN
        rw [Nat.mul_comm 3 k] at hb1
        have hr1' : RowIs (putL C (k * 3) [.int .i64 (-77), .string mk4, .slice none 0 0]) M (updF f k mN) := by rw [Nat.mul_comm]; exact hr1
        have bw1 := below_setCells (Nat.le_refl G) [.int .i64 (-77), .string mk4, .slice none 0 0] (k * 3) bw
        have kp1 : ∀ b, G + 1 ≤ b → b < wr.heap.size → (wr.setCells G (k * 3) [.int .i64 (-77), .string mk4, .slice none 0 0]).heap[b]? = wr.heap[b]? := fun b h1 _ => setCells_ne (by omega) _ _ _
        have hf1 := filled_keep kp1 (by rw [setCells_size]; exact Nat.le_refl _) hf
        by_cases hkN : k < N
        · have q2 : (k : Int) < (N : Int) := by omega
          have hkt : k < ts.length := by rw [HN.out]; exact hkN
          obtain ⟨a, rfl, hla⟩ := HC.out (by intro hh; rw [hh] at hkt; simp at hkt)
          have bwW : Below w.heap.size w (wr.setCells G (k * 3) [.int .i64 (-77), .string mk4, .slice none 0 0]) := by rw [eG]; exact bw1
          obtain ⟨tag, val, kids, ko, kc, et, d0, d1, d2, hv, hkd⟩ := laid_at ts 0 k hkt (laid_below bwW a 0 ts hla)
          clear bwW
          rw [Nat.zero_add] at d0 d1 d2
          have hG : G ≠ (a.add (k * 3)).block := by
            obtain ⟨_, _, _, _, _, _, x0, _⟩ := laid_at ts 0 k hkt hla
            rw [Nat.zero_add] at x0
            have := World.block_lt_of_cell? w _ x0
            omega
          have hmem : Tr.mk tag val kids ∈ ts := by rw [← et]; exact List.getElem_mem hkt
          go_wp2_with fail
          refine (?_ : Code.wp Try.prog _ _ _ (wr.setCells G (k * 3) [.int .i64 (-77), .string mk4, .slice none 0 0]))
          generalize wr.setCells G (k * 3) [.int .i64 (-77), .string mk4, .slice none 0 0] = W1 at *
          generalize putL C (k * 3) [.int .i64 (-77), .string mk4, .slice none 0 0] = C1 at *
          have pk := IH.out kids (by have := mem_lt hmem; have := HM.out; omega) (.slice ko kids.length kc) W1.drew (lien_below hkd ((Below.refl _ _).drew))
          have PK : Hid (Calls Try.prog 20 #[.slice ko kids.length kc] W1.drew (LentP W1.drew kids)) := pk
          clear pk hla hkd hmem c0 c1 c2 f0 f1 f2 hb hr hr1 hf bw kp1
          have hE : (a.add (k * 3)).block < W1.heap.size := World.block_lt_of_cell? W1 _ d0
          have KD : Hid (∀ y, Below W1.heap.size W1 y → y.cell? (a.add (k * 3)) = some (.int .i64 tag) ∧ y.cell? ⟨(a.add (k * 3)).block, (a.add (k * 3)).off + 1, none⟩ = some (.string val) ∧ y.cell? ⟨(a.add (k * 3)).block, (a.add (k * 3)).off + 2, none⟩ = some (.slice ko kids.length kc)) :=
            (fun y hy => ⟨(hy.cell hE).trans d0, (hy.cell (p := ⟨(a.add (k * 3)).block, (a.add (k * 3)).off + 1, none⟩) hE).trans d1, (hy.cell (p := ⟨(a.add (k * 3)).block, (a.add (k * 3)).off + 2, none⟩) hE).trans d2⟩ : ∀ y, Below W1.heap.size W1 y → y.cell? (a.add (k * 3)) = some (.int .i64 tag) ∧ y.cell? ⟨(a.add (k * 3)).block, (a.add (k * 3)).off + 1, none⟩ = some (.string val) ∧ y.cell? ⟨(a.add (k * 3)).block, (a.add (k * 3)).off + 2, none⟩ = some (.slice ko kids.length kc))
          generalize hkl : kids.length = kl at *
          go_region_held3 (fun w' => w'.cell? (a.add (k * 3)) = some (.int .i64 tag) ∧ w'.cell? ⟨(a.add (k * 3)).block, (a.add (k * 3)).off + 1, none⟩ = some (.string val) ∧ w'.cell? ⟨(a.add (k * 3)).block, (a.add (k * 3)).off + 2, none⟩ = some (.slice ko kl kc)) (first | (refine ⟨?_, ?_, ?_⟩ <;> assumption) | go_keep | (refine ⟨?_, ?_, ?_⟩ <;> (refine (cell_set_ne (by exact hG)).trans ((cell_set_ne (by exact hG)).trans ((cell_set_ne (by exact hG)).trans ?_)); assumption)))
            ((go_at_call 20; refine PK.out.mono ?_; rintro e y ⟨g2, rfl, L2, hy⟩; have BY : Below W1.heap.size W1 y := ((Below.refl _ W1).drew).trans hy; obtain ⟨j0, j1, j2⟩ := KD.out y BY; obtain ⟨⟨e0, e1, e2⟩, ⟨h0, h1, h2⟩⟩ := row_all (kept BY hb1) hr1' k hlt))
          all_goals
            obtain ⟨C2, F2, s1, s2, s3, s4⟩ := store_next (N := N) hlt hkt et hkl hb1 hr1' hf1 BY L2 bw1 (Nat.le_of_lt (Array.getElem?_eq_some_iff.1 hb1).1)
            go_wp2
            go_roundw
            case rel => exact ⟨k + 1, C2, F2, by omega, by go_num, s1, s2, s3, s4⟩
            case measure => simp [intOf]; omega
        · have q2 : ¬ (k : Int) < (N : Int) := by omega
          go_wp2_with fail
          go_roundw
          case rel => exact ⟨k + 1, _, _, by omega, by go_num, hb1, hr1', filled_upd hf1 (fun h => by rw [HN.out] at h; omega) (fun _ => rfl), bw1⟩
          case measure => simp [intOf]; omega
      · obtain rfl : k = M := by omega
        have q2 : (N : Int) ≤ (k : Int) := by omega
        have q3 : (0 : Int) ≤ (N : Int) := by omega
        have LE := filled_lent (by rw [HN.out]; omega) (Nat.le_refl G) hb hr hf
        go_wp2
        go_ret
        refine ⟨G, ?_, by rw [eG]; exact LE, by rw [eG]; exact bw⟩
        simp [eM]
end Go.Proofs.Ytbekjlinnbmpgaa.Nl
