import Derived.Test.YtgchdjjafgkcbaaQf08
import Derived.BigQuiet
import Derived.Deep.OwnRows
/- slices.DeleteFunc over *turnstile/pending.held: its walk. -/
namespace Go.Proofs.Ytgchdjjafgkcbaa.Eh
set_option linter.unusedVariables false
set_option linter.unusedSimpArgs false
open Go.RowKit Lib0 Kb Xp Ih Dh
attribute [local go_sem] Oper.semAt_some
theorem zeroL (w : World) : (zeroValue tL).run Try.prog w = .ok (.agg #[.int .i64 0, .int .i64 0, Value.pointer none]) w := by kernel_rfl
theorem clear3 (w : World) (ty : TypeId) (g i n c : Nat) (Y : LT) (S : List Value) (h : Blk w g Y S) (hn : 0 < n) (hi : i + n = Y.length) :
    (Builtin.clear_ #[108] ty #[.slice (some ⟨g, i * 3, none⟩) n c]).run Try.prog w = .ok (.tuple #[]) (w.setCells g (i * 3) (Builtin.zeroCells #[.int .i64 0, .int .i64 0, Value.pointer none] n).toList) := by
  have hl := gc_len Y
  have hz : (Builtin.zeroCells #[.int .i64 0, .int .i64 0, Value.pointer none] n).toList.length = n * 3 := by
    rw [Array.length_toList, size_zeroCells]; rfl
  have hst := run_storeCells_cells (P := Try.prog) g (i * 3) (Builtin.zeroCells #[.int .i64 0, .int .i64 0, Value.pointer none] n).toList 0 w (by
      intro j hj
      rw [hz] at hj
      rw [cell_of_row w g _ _ _ _ h, List.getElem?_toArray, List.getElem?_append_left (by omega), List.getElem?_eq_getElem (by omega)]
      rfl) (by intro j hj; exact h.frozen _) (by
      intro u hu
      simp [Builtin.zeroCells] at hu
      obtain ⟨j, hj, rfl⟩ := hu
      have : j % 3 = 0 ∨ j % 3 = 1 ∨ j % 3 = 2 := by omega
      rcases this with e | e | e <;> simp [e, Value.oneCell'])
  simp only [Nat.add_zero] at hst
  obtain ⟨m, rfl⟩ : ∃ m, n = m + 1 := ⟨n - 1, by omega⟩
  have hv := zeroL w
  simp [Builtin.clear_, run_underlying Try.underlying108, hv, show (Value.agg #[.int .i64 0, .int .i64 0, Value.pointer none]).cells = #[.int .i64 0, .int .i64 0, Value.pointer none] from rfl, hst]
theorem setCells_heap (g : Nat) (t : TypeId) : ∀ (vs : List Value) (o : Nat) (w : World) (c : Array Value), w.heap[g]? = some (.cells c t (0, 0)) → ∃ c' : Array Value, (w.setCells g o vs).heap[g]? = some (.cells c' t (0, 0)) ∧ c'.size = c.size ∧ c'.toList.take o = c.toList.take o
  | [], o, w, c, h => ⟨c, h, rfl, rfl⟩
  | v :: r, o, w, c, h => by
    obtain ⟨c', h1, h2, h3⟩ := setCells_heap g t r (o + 1) _ _ (setCell_heap h o v)
    refine ⟨c', h1, by rw [h2, Array.size_setIfInBounds], ?_⟩
    have e := congrArg (List.take o) h3
    rw [List.take_take, List.take_take, Nat.min_eq_left (Nat.le_succ o), Array.toList_setIfInBounds, List.take_set_of_le (Nat.le_refl _)] at e
    exact e
theorem setCells_fr (g : Nat) : ∀ (vs : List Value) (o : Nat) (w : World), FrP (fun k => k = g) w (w.setCells g o vs)
  | [], o, w => FrP.refl _ _
  | v :: r, o, w => ((FrP.refl (fun k => k = g) w).set (p := ⟨g, o, none⟩) (.inl rfl) v).trans (setCells_fr g r (o + 1) _) (fun b hb => .inl hb)
set_option maxRecDepth 100000 in
set_option maxHeartbeats 1600000 in
theorem delete_any (g cb : Nat) (t : Int) (p : XT → Bool) (eg : ∀ args w, (callFunc g args).run Try.prog w = .ok (.enter g args) w) (hp : Pred g cb t p) (w : World) (base : Nat) (v : Value) (Z : LT) (h : w.ownsRow base tL 3 v Z.length (gc Z)) (ho : One Z) (hl : Z.length ≤ 4611686018427387904) (hcb : w.heap[cb]? = some (.cells #[.int .i64 t] tI)) :
    Calls Try.prog 56 #[v, .func (.func g) #[] #[.pointer (some ⟨cb, 0, none⟩)]] w fun e w' => ∃ v', e = .returned v' ∧ w'.ownsRow base tL 3 v' (Z.filter fun x => !p x).length (gc (Z.filter fun x => !p x)) ∧ v'.ownBlock = v.ownBlock ∧ FrP (fun k => v.ownBlock = some k) w w' := by
  have hix := index_any g cb t p eg hp w v Z (rowg_own h) ho hl hcb
  have HH : Hid (w.ownsRow base tL 3 v Z.length (gc Z)) := h
  rcases h.2 with ⟨rfl, h0⟩ | ⟨gb, cap, cur, rfl, hbase, hg, hcap, hml, hcs, htk⟩
  · have e : Z = [] := List.eq_nil_of_length_eq_zero h0
    subst e
    clear h hcb hl h0
    go_enter Try.func56, Try.ntmps56
    go_wp2_with (go_at_call 63; refine hix.mono ?_; rintro e w' ⟨⟨r, rfl, hr⟩, hw'⟩; obtain rfl : r = -1 := by (rcases hr with ⟨hr, _⟩ | ⟨k, hk, _⟩; exact hr; simp at hk))
    go_ret
    exact ⟨_, rfl, World.ownsRow_nil _ _ _ _, rfl, FrP.of hw'⟩
  · have hne : gb ≠ cb := fun e => by
      rw [e, hcb] at hg
      have : tI = tL := by simpa using congrArg (fun o : Option Obj => match o with | some (.cells _ t _) => t | _ => 0) hg
      exact absurd this (by decide)
    obtain ⟨S, hS⟩ : ∃ S, cur = (gc Z ++ S).toArray := ⟨cur.toList.drop (Z.length * 3), by rw [← htk, List.take_append_drop]⟩
    subst hS
    have HB0 : Hid (Blk w gb Z S) := hg
    have HCB : Hid (w.heap[cb]? = some (.cells #[.int .i64 t] tI)) := hcb
    have HCS : Hid ((gc Z ++ S).toArray.size = cap * 3) := hcs
    have HP : Hid (Pred g cb t p) := hp
    have HO : Hid (One Z) := ho
    have HNE : Hid (gb ≠ cb) := hne
    have HBS : Hid (base ≤ gb ∧ cap ≤ maxLen) := ⟨hbase, hml⟩
    obtain ⟨N, HN⟩ : ∃ N, Hid (Z.length = N) := ⟨_, rfl⟩
    rw [HN.out] at hix hl hcap
    rw [HN.out]
    clear h hcb hcs htk hp ho hne hbase hml hg
    go_enter Try.func56, Try.ntmps56
    go_wp2_with fail
    refine hix.mono ?_
    rintro e w' ⟨⟨r, rfl, hr⟩, hw'⟩
    have HW : Hid (Below w.heap.size w w') := hw'
    rcases hr with ⟨rfl, ha⟩ | ⟨k, hk, rfl, hk1, hk2⟩
    · have HF : Hid (Z.filter (fun x => !p x) = Z) := List.filter_eq_self.2 fun x hx => by rw [ha x hx]; rfl
      clear ha hw' hix
      go_wp2_with fail
      go_ret
      refine ⟨_, rfl, ?_, rfl, FrP.of HW.out⟩
      rw [HF.out]
      have := HH.out
      rw [HN.out] at this
      rw [HN.out]
      exact own_keep this (fun k hk => HW.out.block k (this.lt k hk).2)
    · have HS : Hid (Far Z p k (k + 1) Z) := Far.start hk hk1 hk2
      have hkN : k < N := by rw [← HN.out]; exact hk
      have q0 : (k : Int) + 1 ≤ 9223372036854775807 := by omega
      have q1 : ((k : Int) == -1) = false := beq_eq_false_iff_ne.2 (by omega)
      clear hk hk1 hk2 hw' hix HH
      go_wp2_with fail
      go_loopw [5, 6, 7] (fun iv jv _ wr => ∃ (i j : Nat) (Y : LT), iv = .int .i64 (i : Int) ∧ jv = .int .i64 (j : Int) ∧ i < j ∧ j ≤ N ∧ Hid (Far Z p i j Y) ∧ Hid (Blk wr gb Y S) ∧ Hid (FrP (fun k => k = gb) w wr)) (fun _ jv _ _ => N + 1 - (intOf jv).toNat)
      case atStart => exact ⟨k, k + 1, Z, rfl, by simp, by omega, by omega, HS, HB0.out.below HW.out, FrP.of HW.out⟩
      case round =>
        obtain ⟨i, j, Y, rfl, rfl, hij, hj, HFa, HY, HFr⟩ := hrel
        by_cases hlt : j < N
        · have hjz : j < Z.length := by rw [HN.out]; exact hlt
          obtain ⟨hjy, ey⟩ := HFa.out.at_ hjz
          have hiy : i < Y.length := by omega
          obtain ⟨c0, c1, c2⟩ := HY.out.cell j hjy
          have hone := HO.out _ (List.getElem_mem hjz)
          have hcbr : wr.heap[cb]? = some (.cells #[.int .i64 t] tI) := (HFr.out.block cb (Array.getElem?_eq_some_iff.1 HCB.out).1 (fun e => HNE.out e.symm)).trans HCB.out
          obtain ⟨x, HX⟩ : ∃ x : XT, Hid (∀ h : j < Z.length, Z[j]'h = x) := ⟨Z[j]'hjz, fun _ => rfl⟩
          rw [ey, HX.out hjz] at c0 c1 c2
          rw [HX.out hjz] at hone
          obtain ⟨x0, x1, x2⟩ := x
          dsimp only at c0 c1 c2 hone
          obtain ⟨W1, HW1⟩ : ∃ W1, Hid (wr.alloc (.cells #[.int .i64 x0, .int .i64 x1, x2] tL) = W1) := ⟨_, rfl⟩
          have HB1 : Hid (Below wr.heap.size wr W1) := HW1.out ▸ below_one _ _
          have hcall := HP.out W1 (x0, x1, x2) hone (kept HB1.out hcbr)
          unfold agv at hcall
          dsimp only at hcall
          obtain ⟨pv, HPV⟩ : ∃ pv, Hid (p (x0, x1, x2) = pv) := ⟨_, rfl⟩
          rw [HPV.out] at hcall
          have HI : Hid (i < Y.length ∧ j < Z.length) := ⟨hiy, hjz⟩
          have q2 : (j : Int) < (N : Int) := by omega
          have q3 : (0 : Int) ≤ (j : Int) := by omega
          have q4 : (j : Int) + 1 ≤ 9223372036854775807 := by omega
          have q5 : (0 : Int) ≤ (i : Int) := by omega
          have q6 : (i : Int) < (N : Int) := by omega
          have q7 : (i : Int) + 1 ≤ 9223372036854775807 := by omega
          have hst : ∀ (a : Addr) (m : Mode) (w : World), Sem.run Try.prog (store a x2 m) w = stored Try.prog w a x2 m := fun a m w => run_store Try.prog w a _ m hone
          clear hjz hjy hiy ey hcbr
          have HST : Hid (W1.heap[wr.heap.size]? = some (.cells #[.int .i64 x0, .int .i64 x1, x2] tL)) := HW1.out ▸ h1_0 _ _
          cases pv
          · go_wp2_with fail
            rw [HW1.out]
            refine hcall.mono ?_
            rintro e w2 ⟨rfl, hw2⟩
            have HB2 : Hid (Below wr.heap.size wr w2) := keepB HB1.out hw2
            have hbx := kept hw2 HST.out
            have d0 : w2.cell? ⟨wr.heap.size, 0, none⟩ = some (.int .i64 x0) := by simp [World.cell?, hbx]
            have d1 : w2.cell? ⟨wr.heap.size, 1, none⟩ = some (.int .i64 x1) := by simp [World.cell?, hbx]
            have d2 : w2.cell? ⟨wr.heap.size, 2, none⟩ = some x2 := by simp [World.cell?, hbx]
            have HY2 : Hid (Blk w2 gb Y S) := HY.out.below HB2.out
            obtain ⟨e0, e1, e2⟩ := HY2.out.cell i HI.out.1
            have f0 := HY2.out.frozen (i * 3)
            have f1 := HY2.out.frozen (i * 3 + 1)
            have f2 := HY2.out.frozen (i * 3 + 2)
            generalize (Value.int .i64 (Y[i]'HI.out.1).1) = o0 at e0
            generalize (Value.int .i64 (Y[i]'HI.out.1).2.1) = o1 at e1
            generalize (Y[i]'HI.out.1).2.2 = o2 at e2
            clear hbx hw2 hcall c0 c1 c2
            go_wp2_with fail
            refine ⟨⟨i + 1, j + 1, Y.set i (x0, x1, x2), by simp, by simp, by omega, by omega, ?_, ?_, ?_⟩, ?_⟩
            · have := HFa.out.keep HI.out.2 (by rw [HX.out HI.out.2]; exact HPV.out)
              rw [HX.out HI.out.2] at this
              exact this
            · exact HY2.out.store i HI.out.1 (x0, x1, x2)
            · exact (((HFr.out.behind HB2.out).set (p := ⟨gb, i * 3, none⟩) (.inl rfl) _).set (p := ⟨gb, i * 3 + 1, none⟩) (.inl rfl) _).set (p := ⟨gb, i * 3 + 2, none⟩) (.inl rfl) _
            · simp only [intOf]; omega
          · go_wp2_with fail
            rw [HW1.out]
            refine hcall.mono ?_
            rintro e w2 ⟨rfl, hw2⟩
            have HB2 : Hid (Below wr.heap.size wr w2) := keepB HB1.out hw2
            clear hw2 hcall c0 c1 c2
            go_wp2_with fail
            refine ⟨⟨i, j + 1, Y, rfl, by simp, by omega, by omega, ?_, HY.out.below HB2.out, HFr.out.behind HB2.out⟩, ?_⟩
            · exact HFa.out.skip HI.out.2 (by rw [HX.out HI.out.2]; exact HPV.out)
            · simp only [intOf]; omega
        · obtain rfl : j = N := by omega
          have hd := HFa.out
          rw [← HN.out] at hd
          obtain ⟨hd1, hd2⟩ := hd.done
          have HD : Hid (Y.take i = Z.filter (fun x => !p x) ∧ i = (Z.filter fun x => !p x).length) := ⟨hd1, hd2⟩
          have hcl := fun ty => clear3 wr ty gb i (j - i) (cap - i) Y S HY.out (by omega) (by rw [HFa.out.len, HN.out]; omega)
          obtain ⟨vs, HV⟩ : ∃ vs, Hid ((Builtin.zeroCells #[.int .i64 0, .int .i64 0, Value.pointer none] (j - i)).toList = vs) := ⟨_, rfl⟩
          rw [HV.out] at hcl
          have q2 : ¬ (j : Int) < (j : Int) := by omega
          have q3 : (i : Int) ≤ (j : Int) := by omega
          have q4 : (j : Int) ≤ (cap : Int) := by omega
          have q5 : (0 : Int) ≤ (i : Int) := by omega
          have q6 : i ≠ cap := by omega
          clear hd hd1 hd2
          go_wp2_with fail
          go_ret
          obtain ⟨c', h1, h2, h3⟩ := setCells_heap gb tL vs (i * 3) wr _ HY.out
          refine ⟨_, rfl, ⟨gc_len _, .inr ⟨gb, cap, c', ?_, HBS.out.1, h1, ?_, HBS.out.2, ?_, ?_⟩⟩, rfl, ?_⟩
          · rw [← HD.out.2]; rfl
          · have := HD.out.2; omega
          · rw [h2, ← HCS.out]
            simp [gc_len, HFa.out.len]
          · rw [← HD.out.2, h3]
            simp only []
            rw [List.take_append_of_le_length (by rw [gc_len, HFa.out.len, HN.out]; omega), gc_take, HD.out.1]
          · exact (HFr.out.trans (setCells_fr gb vs (i * 3) wr) (fun b hb => .inl hb)).mono (fun b hb => by simp [Value.ownBlock, hb])
end Go.Proofs.Ytgchdjjafgkcbaa.Eh
/- A wheel of *turnstile/pending.held in memory; New, slot, Left, Len, Now. -/
namespace Go.Proofs.Ytgchdjjafgkcbaa.Fh
set_option linter.unusedVariables false
set_option linter.unusedSimpArgs false
open Go.RowKit Go.Maps Lib0 Kb Xp Ih Dh Eh
attribute [local go_sem] Oper.semAt_some
abbrev tW : TypeId := 98
abbrev tS : TypeId := 108
structure Wm (w : World) (b sb mb n : Nat) (S : Nat → Value) (c : Nat) (D : DataW Unit) (L : LT) (now last : Int) : Prop where
  blk : w.heap[b]? = some (.cells #[.slice (some ⟨sb, 0, none⟩) n n, .map (some mb), .int .i64 now, .int .i64 last] tW)
  slots : w.heap[sb]? = some (.cells ((List.range n).map S).toArray tS)
  row : ∀ j, j < n → w.ownsRow 0 tL 3 (S j) (slotL L n j).length (gc (slotL L n j))
  apart : ∀ i j, i < n → j < n → i ≠ j → ∀ g, (S i).ownBlock = some g → (S j).ownBlock ≠ some g
  map : w.ownsMap Try.prog tI (plainElem Try.prog tI) mb c D
  mp : Mp D L
  cnt : c ≤ last.toNat
/-- its blocks -/
def Bk (b sb mb n : Nat) (S : Nat → Value) (g : Nat) : Prop := g = b ∨ g = sb ∨ g = mb ∨ ∃ j, j < n ∧ (S j).ownBlock = some g
def Wl (w : World) (b : Nat) (B : Nat → Prop) (n : Nat) (L : LT) (now last : Int) : Prop := ∃ sb mb S c D, Wm w b sb mb n S c D L now last ∧ ∀ g, B g ↔ Bk b sb mb n S g
/-- what holds of it besides -/
structure Ok (n : Nat) (L : LT) (now last : Int) : Prop where
  pos : 1 ≤ n
  top : n ≤ 4096
  one : One L
  inc : Inc L
  num : ∀ x ∈ L, 1 ≤ x.1 ∧ x.1 ≤ last
  tik : ∀ x ∈ L, now < x.2.1 ∧ x.2.1 ≤ now + 100000
  now0 : 0 ≤ now
  now1 : now ≤ 1000000000000
  last0 : 0 ≤ last
  last1 : last ≤ 5864062014805
def tyOf (o : Option Obj) : Nat := match o with | some (.cells _ t _) => t | _ => 0
theorem ty_ne {w : World} {g k : Nat} {c d : Array Value} {s t : TypeId} {x y : Nat × Nat} (h : w.heap[g]? = some (.cells c s x)) (h2 : w.heap[k]? = some (.cells d t y)) (hne : s ≠ t) : g ≠ k := fun e => by
  rw [e, h2] at h
  exact hne (congrArg tyOf h).symm
theorem map_ne {w : World} {g k : Nat} {c : Array Value} {t : TypeId} {x : Nat × Nat} {n : Nat} {D : DataW Unit} (h : w.heap[g]? = some (.cells c t x)) (hm : w.ownsMap Try.prog tI (plainElem Try.prog tI) k n D) : g ≠ k := fun e => by
  obtain ⟨es, cl, hk, _⟩ := hm
  rw [e, hk] at h
  cases h
theorem Wm.row_lt {w : World} {b sb mb n : Nat} {S : Nat → Value} {c : Nat} {D : DataW Unit} {L : LT} {now last : Int} (h : Wm w b sb mb n S c D L now last) {j g : Nat} (hj : j < n) (hg : (S j).ownBlock = some g) : g < w.heap.size ∧ g ≠ b ∧ g ≠ sb ∧ g ≠ mb := by
  obtain ⟨cc, hc⟩ := own_ty (h.row j hj) hg
  exact ⟨(Array.getElem?_eq_some_iff.1 hc).1, ty_ne hc h.blk (by decide), ty_ne hc h.slots (by decide), map_ne hc h.map⟩
theorem Wm.lt {w : World} {b sb mb n : Nat} {S : Nat → Value} {c : Nat} {D : DataW Unit} {L : LT} {now last : Int} (h : Wm w b sb mb n S c D L now last) : ∀ g, Bk b sb mb n S g → g < w.heap.size := by
  rintro g (rfl | rfl | rfl | ⟨j, hj, hg⟩)
  · exact (Array.getElem?_eq_some_iff.1 h.blk).1
  · exact (Array.getElem?_eq_some_iff.1 h.slots).1
  · exact h.map.lt
  · exact (h.row_lt hj hg).1
/-- it stays where its blocks stay -/
theorem Wm.keep {w x : World} {b sb mb n : Nat} {S : Nat → Value} {c : Nat} {D : DataW Unit} {L : LT} {now last : Int} (h : Wm w b sb mb n S c D L now last) (k : ∀ g, Bk b sb mb n S g → x.heap[g]? = w.heap[g]?) : Wm x b sb mb n S c D L now last := by
  refine ⟨(k b (.inl rfl)).trans h.blk, (k sb (.inr (.inl rfl))).trans h.slots, fun j hj => own_keep (h.row j hj) fun g hg => k g (.inr (.inr (.inr ⟨j, hj, hg⟩))), h.apart, ?_, h.mp, h.cnt⟩
  obtain ⟨es, cl, hk, r⟩ := h.map
  exact ⟨es, cl, (k mb (.inr (.inr (.inl rfl)))).trans hk, r⟩
theorem Wl.keep {w x : World} {b : Nat} {B : Nat → Prop} {n : Nat} {L : LT} {now last : Int} (h : Wl w b B n L now last) (k : ∀ g, B g → x.heap[g]? = w.heap[g]?) : Wl x b B n L now last := by
  obtain ⟨sb, mb, S, c, D, hm, hB⟩ := h
  exact ⟨sb, mb, S, c, D, hm.keep (fun g hg => k g ((hB g).2 hg)), hB⟩
theorem Wl.lt {w : World} {b : Nat} {B : Nat → Prop} {n : Nat} {L : LT} {now last : Int} (h : Wl w b B n L now last) : ∀ g, B g → g < w.heap.size := by
  obtain ⟨sb, mb, S, c, D, hm, hB⟩ := h
  exact fun g hg => hm.lt g ((hB g).1 hg)
theorem Wl.below {w x : World} {b : Nat} {B : Nat → Prop} {n : Nat} {L : LT} {now last : Int} (h : Wl w b B n L now last) (k : Below w.heap.size w x) : Wl x b B n L now last := h.keep fun g hg => k.block g (h.lt g hg)
theorem slots_at (n : Nat) (S : Nat → Value) (j : Nat) (h : j < n) : (((List.range n).map S).toArray)[j]? = some (S j) := by simp [h]
theorem tmod_at {tick : Int} {n : Nat} (h : 0 ≤ tick) : tick.tmod (n : Int) = ((tick.toNat % n : Nat) : Int) := by
  obtain ⟨m, rfl⟩ := Int.eq_ofNat_of_zero_le h
  rw [Int.tmod_eq_emod_of_nonneg h, Int.toNat_natCast]
  exact (Int.natCast_emod m n).symm
set_option maxRecDepth 100000 in
theorem slot_any (w : World) (b sb mb n : Nat) (v2 v3 : Value) (tick : Int) (hb : w.heap[b]? = some (.cells #[.slice (some ⟨sb, 0, none⟩) n n, .map (some mb), v2, v3] tW)) (ht : 0 ≤ tick) (hn : 1 ≤ n) (hn2 : n ≤ 4096) :
    Calls Try.prog 54 #[.pointer (some ⟨b, 0, none⟩), .int .i64 tick] w fun e w' => e = .returned (.pointer (some ⟨sb, tick.toNat % n, none⟩)) ∧ ∃ m, w' = w.drewN m := by
  have c0 : w.cell? ⟨b, 0, none⟩ = some (.slice (some ⟨sb, 0, none⟩) n n) := by simp [World.cell?, hb]
  obtain ⟨j, HJ⟩ : ∃ j, Hid (tick.toNat % n = j) := ⟨_, rfl⟩
  have e1 : tick.tmod (n : Int) = (j : Int) := by rw [tmod_at ht, HJ.out]
  have q1 : j < n := by rw [← HJ.out]; exact Nat.mod_lt _ (by omega)
  have q2 : (0 : Int) ≤ (j : Int) := by omega
  have q3 : (j : Int) < (n : Int) := by omega
  have q4 : ((n : Int) == 0) = false := beq_eq_false_iff_ne.2 (by omega)
  have q5 : (n : Int) ≠ 0 := by omega
  have q6 : (j : Int) ≤ 9223372036854775807 := by omega
  have q7 : -9223372036854775808 ≤ (j : Int) := by omega
  have q8 : IntKind.i64.wrap (j : Int) = (j : Int) := Lib0.wrap_i64 _ (by omega) (by omega)
  rw [HJ.out]
  clear hb HJ
  go_enter Try.func54, Try.ntmps54
  go_wp2_with fail
  go_quiet (fail)
  go_wp2_with fail
  go_ret
  exact ⟨rfl, _, rfl⟩
theorem law : Keyed Try.prog tI := int_keyed Try.underlying3
theorem zeroI (w : World) : (zeroValue tI).run Try.prog w = .ok (.int .i64 0) w := by kernel_rfl
/-- what Left says -/
def lfN (L : LT) (now t : Int) : Int := match lkG L t with | some x => x.2.1 - now | none => 0
def lfE (L : LT) (t : Int) : Int := match lkG L t with | some x => 0 | none => 170
theorem len_m (w : World) (b sb mb n : Nat) (S : Nat → Value) (c : Nat) (D : DataW Unit) (L : LT) (now last : Int) (h : Wm w b sb mb n S c D L now last) :
    Calls Try.prog 22 #[.pointer (some ⟨b, 0, none⟩)] w fun e w' => e = .returned (.int .i64 (L.length : Nat)) ∧ w' = w := by
  have hb := h.blk
  have c1 : w.cell? ⟨b, 1, none⟩ = some (.map (some mb)) := by simp [World.cell?, hb]
  have hown := h.map
  have HS : Hid (Maps.size D = L.length) := h.mp.size
  clear h hb
  go_enter Try.func22, Try.ntmps22
  go_wp2_with (first | (at_len; refine wpList_len_own _ rfl _ 96 rfl tI tI Try.underlying96 _ mb c D rfl hown ?_) | fail)
  go_ret
  exact ⟨by rw [← HS.out]; rfl, rfl⟩
theorem new_no (n : Int) (w : World) (h : n < 1 ∨ 4096 < n) : Calls Try.prog 34 #[.int .i64 n] w fun e w' => e = .returned (.tuple #[.pointer none, .int .i64 1]) ∧ w' = w := by
  by_cases h1 : n < 1
  · clear h
    go_enter Try.func34, Try.ntmps34
    go_wp2
    go_ret2
    exact ⟨rfl, rfl⟩
  · have h2 : 4096 < n := by omega
    clear h
    go_enter Try.func34, Try.ntmps34
    go_wp2
    go_ret2
    exact ⟨rfl, rfl⟩
theorem infoS : (Try.prog.info? tS).map (fun i => (i.zero, i.size, i.bytes)) = some (some (.slice none 0 0), 1, 24) := by kernel_rfl
set_option maxRecDepth 100000 in
theorem new_yes (n : Nat) (w : World) (h1 : 1 ≤ n) (h2 : n ≤ 4096) : Calls Try.prog 34 #[.int .i64 (n : Nat)] w fun e w' => ∃ b, e = .returned (.tuple #[.pointer (some ⟨b, 0, none⟩), .int .i64 0]) ∧ ∃ B, Wl w' b B n [] 0 0 ∧ Below w.heap.size w w' ∧ ∀ g, B g → w.heap.size ≤ g := by
  have hmk := run_make_row' (P := Try.prog) 95 tS (.slice none 0 0) 24 Try.underlying95 infoS rfl .i64 .i64 n (by omega) (by omega)
  have hmm := @run_makeMap Try.prog
  have q1 : ¬ (n : Int) < 1 := by omega
  have q2 : ¬ 4096 < (n : Int) := by omega
  go_enter Try.func34, Try.ntmps34
  go_wp2_with fail
  go_ret2
  refine ⟨w.heap.size + 1 + 1, rfl, Bk (w.heap.size + 1 + 1) w.heap.size (w.heap.size + 1) n (fun _ => .slice none 0 0), ⟨w.heap.size, w.heap.size + 1, fun _ => .slice none 0 0, 0, .map [], ⟨h3_2 _ _ _ _, ?_, fun j hj => World.ownsRow_nil _ _ _ _, fun i j _ _ _ g hg => by simp [Value.ownBlock] at hg, ?_, mp_nil, Nat.zero_le _⟩, fun g => Iff.rfl⟩, below_three _ _ _ _, ?_⟩
  · rw [h3_0]
    congr 2
    apply Array.ext
    · simp [madeCells]
    · intro i a1 a2
      simp [madeCells, Nat.mod_one]
  · have := World.ownsMap_made (H := Unit) (w.alloc (Obj.cells (madeCells #[Value.slice none 0 0] n) tS)) Try.prog tI (plainElem Try.prog tI)
    rw [World.size_alloc] at this
    exact this.alloc _
  · rintro g (rfl | rfl | rfl | ⟨j, hj, hg⟩)
    · omega
    · omega
    · omega
    · simp [Value.ownBlock] at hg
end Go.Proofs.Ytgchdjjafgkcbaa.Fh
