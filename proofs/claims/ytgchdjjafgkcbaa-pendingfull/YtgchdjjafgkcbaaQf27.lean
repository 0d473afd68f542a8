import Derived.Test.YtgchdjjafgkcbaaQf13
import Derived.Shelf.SlSortCmp.NoneTotal
import Derived.Shelf.SlicesG.Cmp
import Derived.Test.YtgchdjjafgkcbaaProg
/- slices.Grow, slices.Concat over what is laid down (int). -/
namespace Go.Proofs.Ytgchdjjafgkcbaa.Va
set_option linter.unusedVariables false
set_option linter.unusedSimpArgs false
open Go.RowKit Go.Maps Lib0 Kb Xp Ih Dh Eh Fh Gh Hh Kh Jh Mh Th Ch
attribute [local go_sem] Oper.semAt_some
/-- append(nil, make(n)...) -/
theorem grow_app (w : World) (ty : TypeId) (n : Nat) (hn : 0 < n) (hb : n ≤ 5864062014805) : ∃ cap cur, (Builtin.append_ #[108, 3] ty #[.slice none 0 0, .int .i64 (n : Int)]).run Try.prog w = .ok (.slice (some ⟨w.heap.size, 0, none⟩) n cap) (w.drew.alloc (.cells cur tL)) ∧ n ≤ cap ∧ cap ≤ maxLen ∧ cur.size = cap * 3 := by
  obtain ⟨i0, hi, hz0, hz1, hz2⟩ := info_parts infoL
  have e0 : IntKind.i64.wrap (n : Int) = (n : Int) := Lib0.wrap_i64 _ (by omega) (by omega)
  have e1 : ¬ (281474976710656 < (n : Int) * 24) := by omega
  have e2 : ¬ ((n : Int) < 0) := by omega
  have e3 : ¬ (9223372036854775807 < (n : Int)) := by omega
  have e4 : ¬ (281474976710656 < Builtin.nextslicecap n 0 * 24) := by
    rw [Builtin.nextslicecap, if_pos (by omega)]; omega
  refine ⟨grownCap w n 0 tL, Builtin.zeroCells #[.int .i64 0, .int .i64 0, .pointer none] n ++ Builtin.zeroCells #[.int .i64 0, .int .i64 0, .pointer none] (grownCap w n 0 tL - n), ?_, grownCap_ge _ _ _ _, grownCap_le_maxLen _ _ _ _ (by unfold maxLen; omega), ?_⟩
  · simp [Builtin.append_, run_underlying Try.underlying108, run_underlying Try.underlying3, sizeOf, typeInfo, zeroValue, hi, hz0, hz1, hz2, e0, e1, e2, e3, e4, Question.forced, newRow, grownCap, Builtin.firstCells, asInt, asIntOf, show n ≠ 0 by omega, show (Value.agg #[.int .i64 0, .int .i64 0, .pointer none]).cells = #[.int .i64 0, .int .i64 0, .pointer none] from rfl]
    intro h0; omega
  · have := grownCap_ge w n 0 tL
    rw [Array.size_append, size_zeroCells, size_zeroCells]
    simp only [List.size_toArray, List.length_cons, List.length_nil]
    omega
theorem run_none (w : World) (t ty e : TypeId) (i : TypeInfo) (ht : Try.prog.underlying t = some (.slice e)) (hi : Try.prog.info? e = some i) (base : Option Addr) (n c : Nat) (hle : n ≤ c) :
    (Builtin.append_ #[t, t] ty #[.slice base n c, .slice none 0 0]).run Try.prog w = .ok (.slice base n c) w := by
  cases base <;> simp [Builtin.append_, run_underlying ht, sizeOf, typeInfo, hi, storeCells, Builtin.lenOf, Builtin.firstCells, hle]
theorem wpList_append_none (w : World) {ops : Array Oper} {rest : List Oper} {o : Oper} {a : Act} {Q : Exit → Act → World → Prop} (hgd : o.guard = none) (s x : Operand) (t : TypeId)
    (ho : o.op = .call { callee := .builtin .append, args := #[s, x], argTypes := #[t, t] }) (e : TypeId) (i : TypeInfo) (ht : Try.prog.underlying t = some (.slice e)) (hi : Try.prog.info? e = some i) (base : Option Addr) (n c : Nat) (hle : n ≤ c) (hs : a.eval s = .slice base n c) (hx : a.eval x = .slice none 0 0)
    (h : wpList Try.prog ops Q rest (a.put o.dst (.slice base n c)) w) : wpList Try.prog ops Q (o :: rest) a w := by
  refine wpList_plain hgd fun K hK => ?_
  unfold Oper.wp execOp
  have hr := run_none w t o.type e i ht hi base n c hle
  simp only [ho, resolve, invoke, builtin, Sem.run_bind, Sem.run_pure, Result.andThen_ok, List.map_toArray, List.map_cons, List.map_nil, hs, hx, hr]
  exact hK _ _ h
theorem wpList_append_make (w : World) {ops : Array Oper} {rest : List Oper} {o : Oper} {a : Act} {Q : Exit → Act → World → Prop} (hgd : o.guard = none) (s x : Operand)
    (ho : o.op = .call { callee := .builtin .append, args := #[s, x], argTypes := #[108, 3] }) (n : Nat) (hn : 0 < n) (hb : n ≤ 5864062014805) (hs : a.eval s = .slice none 0 0) (hx : a.eval x = .int .i64 (n : Int))
    (h : ∀ cap cur, n ≤ cap ∧ cap ≤ maxLen ∧ cur.size = cap * 3 → wpList Try.prog ops Q rest (a.put o.dst (.slice (some ⟨w.heap.size, 0, none⟩) n cap)) (w.drew.alloc (.cells cur tL))) : wpList Try.prog ops Q (o :: rest) a w := by
  refine wpList_plain hgd fun K hK => ?_
  unfold Oper.wp execOp
  obtain ⟨cap, cur, hr, h1, h2, h3⟩ := grow_app w o.type n hn hb
  simp only [ho, resolve, invoke, builtin, Sem.run_bind, Sem.run_pure, Result.andThen_ok, List.map_toArray, List.map_cons, List.map_nil, hs, hx, hr]
  exact hK _ _ (h cap cur ⟨h1, h2, h3⟩)
set_option maxRecDepth 100000 in
set_option maxHeartbeats 1600000 in
theorem grow_any (w : World) (n : Nat) (hb : n ≤ 5864062014805) : Calls Try.prog 59 #[.slice none 0 0, .int .i64 (n : Int)] w fun e w' => ∃ v, e = .returned v ∧ w'.ownsRow w.heap.size tL 3 v 0 [] ∧ Below w.heap.size w w' := by
  by_cases h0 : n = 0
  · subst h0
    go_enter Try.func59, Try.ntmps59
    go_wp2_with fail
    go_ret
    exact ⟨_, rfl, World.ownsRow_nil _ _ _ _, Below.refl _ _⟩
  · have q0 : ¬ (n : Int) < 0 := by omega
    have q1 : (0 : Int) < (n : Int) := by omega
    have q2 : (n : Int) ≤ 9223372036854775807 := by omega
    have HN : Hid (0 < n) := by show 0 < n; omega
    clear h0
    go_enter Try.func59, Try.ntmps59
    go_wp2_with (first | (at_builtin; refine wpList_append_make _ rfl _ _ rfl n HN.out hb rfl rfl ?_; intro cap cur hh; have h1 := hh.1; have HH := hidW hh; clear hh) | fail)
    go_ret
    refine ⟨_, rfl, ⟨rfl, .inr ⟨w.heap.size, cap, cur, rfl, Nat.le_refl _, ?_, Nat.zero_le _, HH.out.2.1, HH.out.2.2, by simp⟩⟩, ?_⟩
    · exact h1_0 w.drew _
    · exact (below_one w _).drew
def cc (Zs : Nat → LT) (i : Nat) : LT := (List.range i).flatMap Zs
theorem cc_succ (Zs : Nat → LT) (i : Nat) : cc Zs (i + 1) = cc Zs i ++ Zs i := by rw [cc, List.range_succ, List.flatMap_append]; simp [cc]
theorem cc_len (Zs : Nat → LT) (i : Nat) : (cc Zs (i + 1)).length = (cc Zs i).length + (Zs i).length := by rw [cc_succ, List.length_append]
theorem cc_mono (Zs : Nat → LT) {i n : Nat} (h : i ≤ n) : (cc Zs i).length ≤ (cc Zs n).length := by
  induction h with
  | refl => exact Nat.le_refl _
  | step _ ih => rw [cc_len]; omega
set_option maxRecDepth 100000 in
set_option maxHeartbeats 1600000 in
theorem concat_any (w : World) (sb n : Nat) (S : Nat → Value) (Zs : Nat → LT) (hs : w.heap[sb]? = some (.cells ((List.range n).map S).toArray tS)) (hrow : ∀ j, j < n → w.ownsRow 0 tL 3 (S j) (Zs j).length (gc (Zs j))) (hone : ∀ j, j < n → One (Zs j)) (hn : n ≤ 4096) (hT : (cc Zs n).length ≤ 5864062014805) :
    Calls Try.prog 49 #[.slice (some ⟨sb, 0, none⟩) n n] w fun e w' => ∃ v, e = .returned v ∧ w'.ownsRow w.heap.size tL 3 v (cc Zs n).length (gc (cc Zs n)) ∧ Below w.heap.size w w' := by
  obtain ⟨i0, hti, hz0, hz1, hz2⟩ := info_parts infoL
  have HS : Hid (w.heap[sb]? = some (.cells ((List.range n).map S).toArray tS)) := hs
  have HR : Hid (∀ j, j < n → w.ownsRow 0 tL 3 (S j) (Zs j).length (gc (Zs j))) := hrow
  have HO : Hid (∀ j, j < n → One (Zs j)) := hone
  have HT : Hid ((cc Zs n).length ≤ 5864062014805) := hT
  clear hs hrow hone hT
  go_enter Try.func49, Try.ntmps49
  go_wp2_with fail
  go_loopw [3, 5, 11] (fun zv _ iv wr => ∃ i : Nat, iv = .int .i64 (i : Int) ∧ zv = .int .i64 (((cc Zs i).length : Nat) : Int) ∧ i ≤ n ∧ wr = w) (fun _ _ iv _ => n + 1 - (intOf iv).toNat)
  case atStart => exact ⟨0, rfl, rfl, Nat.zero_le _, rfl⟩
  case round =>
    obtain ⟨i, rfl, rfl, hi, rfl⟩ := hrel
    by_cases hlt : i < n
    · have h1 := cc_len Zs i
      have h2 := cc_mono Zs (show i + 1 ≤ n from hlt)
      have h3 := HT.out
      obtain ⟨o, c, hv, -, -, -⟩ := own_form (HR.out i hlt)
      have c0 : wr.cell? ⟨sb, i, none⟩ = some (S i) := by rw [cell_of_row _ _ _ _ _ _ HS.out, slots_at _ _ _ hlt]
      rw [hv] at c0
      obtain ⟨A, HA⟩ : ∃ A, Hid ((cc Zs i).length = A) := ⟨_, rfl⟩
      obtain ⟨B, HB⟩ : ∃ B, Hid ((Zs i).length = B) := ⟨_, rfl⟩
      rw [HB.out] at c0 h1
      rw [HA.out] at h1 ⊢
      have HAB : Hid ((cc Zs (i + 1)).length = A + B) := h1
      have q0 : (i : Int) < (n : Int) := by omega
      have q1 : (0 : Int) ≤ (i : Int) := by omega
      have q2 : (i : Int) + 1 ≤ 9223372036854775807 := by omega
      have q3 : (A : Int) + (B : Int) ≤ 9223372036854775807 := by omega
      have q4 : ¬ (A : Int) + (B : Int) < 0 := by omega
      clear h1 h2 h3 hv
      go_wp2_with fail
      refine ⟨⟨i + 1, by simp, ?_, by omega, trivial⟩, ?_⟩
      · rw [HAB.out]; simp
      · simp only [intOf]; omega
    · obtain rfl : i = n := by omega
      have hgr := grow_any wr (cc Zs i).length HT.out
      have q0 : ¬ (i : Int) < (i : Int) := by omega
      obtain ⟨A, HA⟩ : ∃ A, Hid ((cc Zs i).length = A) := ⟨_, rfl⟩
      rw [HA.out] at hgr ⊢
      clear hi
      go_wp2_with fail
      refine hgr.mono ?_
      rintro e y ⟨v, rfl, ho, hb⟩
      have HY : Hid (y.ownsRow wr.heap.size tL 3 v 0 []) := ho
      have HB : Hid (Below wr.heap.size wr y) := hb
      clear hgr ho hb
      obtain ⟨w9, hw9⟩ : ∃ w9, w9 = wr := ⟨_, rfl⟩
      subst hw9
      go_wp2_with fail
      go_loopw [6, 8, 27] (fun nv _ jv wr => ∃ j : Nat, jv = .int .i64 (j : Int) ∧ j ≤ i ∧ Hid (wr.ownsRow w9.heap.size tL 3 nv (cc Zs j).length (gc (cc Zs j))) ∧ Hid (Below w9.heap.size w9 wr)) (fun _ _ jv _ => i + 1 - (intOf jv).toNat)
      case atStart => exact ⟨0, rfl, Nat.zero_le _, HY.out, HB.out⟩
      case round =>
        obtain ⟨j, rfl, hj, HV, HBr⟩ := hrel
        by_cases hlt2 : j < i
        · have hrj := HR.out j hlt2
          have hrr : wr.ownsRow 0 tL 3 (S j) (Zs j).length (gc (Zs j)) := own_keep hrj fun g hg => HBr.out.block g (hrj.lt g hg).2
          have c0 : wr.cell? ⟨sb, j, none⟩ = some (S j) := by rw [cell_of_row _ _ _ _ _ _ (kept HBr.out HS.out), slots_at _ _ _ hlt2]
          have HBB : Hid ((cc Zs j).length + (Zs j).length ≤ 5864062014805) := by
            have h1 := cc_len Zs j
            have h2 := cc_mono Zs (show j + 1 ≤ i from hlt2)
            have h3 := HT.out
            show (cc Zs j).length + (Zs j).length ≤ 5864062014805
            omega
          have HSZ : Hid (w9.heap.size ≤ wr.heap.size) := HBr.out.size
          have q1 : (j : Int) < (i : Int) := by omega
          have q2 : (0 : Int) ≤ (j : Int) := by omega
          have q3 : (j : Int) + 1 ≤ 9223372036854775807 := by omega
          have HON := hidW (gc_one (HO.out j hlt2))
          rcases hrr.2 with ⟨e1, e2⟩ | ⟨gb, cap, cur, e1, -⟩
          · rw [e1] at c0
            have e3 : Zs j = [] := List.eq_nil_of_length_eq_zero e2
            obtain ⟨on, cn, hvn, hcn, -, -⟩ := own_form HV.out
            have HVN : Hid (u6 = .slice on (cc Zs j).length cn) := hvn
            have HCN : Hid ((cc Zs j).length ≤ cn) := hcn
            clear hrj hrr e1 e2 hvn hcn
            go_wp2_with (first | (at_builtin; refine wpList_append_none _ rfl _ _ 108 rfl tL i0 Try.underlying108 hti on (cc Zs j).length cn HCN.out HVN.out rfl ?_; rw [← HVN.out]) | fail)
            refine ⟨⟨j + 1, by simp, by omega, ?_, HBr⟩, ?_⟩
            · rw [cc_succ, e3, List.append_nil]; exact HV
            · simp only [intOf]; omega
          · rw [e1] at c0
            have HNEW : Hid (∀ k u, (gc (Zs j))[k]? = some u → wr.cell? ((⟨gb, 0, none⟩ : Addr).add k) = some u) := hrr.cells (g := gb) (by rw [e1]; rfl)
            clear hrj hrr e1
            go_wp2_with (first | (at_builtin; refine wpList_append_own_at _ rfl _ _ 108 rfl w9.heap.size tL i0 _ 3 24 Try.underlying108 hti hz0 hz1 hz2 rfl (by decide) _ _ _ rfl HV.out ⟨gb, 0, none⟩ (Zs j).length cap (gc (Zs j)) rfl (gc_len _) HNEW.out HON.out (by have := HBB.out; unfold maxLen; omega) (by have := HBB.out; omega) HSZ.out ?_; intro v' w1 hown' hgrow hnil hloc; have HG := hidW (And.intro hown' hgrow); clear hown' hgrow hnil hloc) | fail)
            refine ⟨⟨j + 1, by simp, by omega, ?_, ?_⟩, ?_⟩
            · rw [cc_succ, List.length_append, gc_append]; exact HG.out.1
            · exact HBr.out.grown HG.out.2 HBr.out.size (fun g hg => (HV.out.lt g hg).1)
            · simp only [intOf]; omega
        · obtain rfl : j = i := by omega
          have q1 : ¬ (j : Int) < (j : Int) := by omega
          clear hj
          go_wp2_with fail
          go_ret
          exact ⟨_, rfl, HV.out, HBr.out⟩
end Go.Proofs.Ytgchdjjafgkcbaa.Va
/- Contracts of the library, laid at this dump (by the kit's own tool), in plain words. -/
namespace Go.Proofs
open Go.Shelf
def Try.sortL_ren : Go.Shelf.Ren := ⟨fun | 6 => 50 | 15 => 61 | 14 => 60 | 28 => 75 | 29 => 76 | 20 => 67 | 21 => 68 | 22 => 69 | 23 => 70 | 24 => 71 | 25 => 72 | 26 => 73 | 27 => 74 | 46 => 78 | 47 => 79 | 48 => 80 | 49 => 81 | 50 => 82 | 57 => 83 | n => n, fun | 22 => 108 | 24 => 111 | 25 => 121 | 3 => 3 | 39 => 132 | 0 => 0 | 53 => 148 | 55 => 150 | 4 => 4 | 46 => 142 | 45 => 141 | 50 => 116 | 5 => 5 | 9 => 9 | 66 => 152 | 70 => 156 | 76 => 158 | 77 => 159 | n => n, fun | n => n⟩
theorem Try.sortL : Go.Proofs.SlLaysF0.n6 Try.prog Try.sortL_ren := {
  mixed := by kernel_rfl
  f6 := ⟨Try.f50.name, by decide, Try.func50.trans (congrArg some (by kernel_rfl))⟩
  f14 := ⟨Try.f60.name, by decide, Try.func60.trans (congrArg some (by kernel_rfl))⟩
  f15 := Try.func61.trans (congrArg some (by kernel_rfl))
  f20 := ⟨Try.f67.name, by decide, Try.func67.trans (congrArg some (by kernel_rfl))⟩
  f21 := ⟨Try.f68.name, by decide, Try.func68.trans (congrArg some (by kernel_rfl))⟩
  f22 := ⟨Try.f69.name, by decide, Try.func69.trans (congrArg some (by kernel_rfl))⟩
  f23 := ⟨Try.f70.name, by decide, Try.func70.trans (congrArg some (by kernel_rfl))⟩
  f24 := ⟨Try.f71.name, by decide, Try.func71.trans (congrArg some (by kernel_rfl))⟩
  f25 := ⟨Try.f72.name, by decide, Try.func72.trans (congrArg some (by kernel_rfl))⟩
  f26 := ⟨Try.f73.name, by decide, Try.func73.trans (congrArg some (by kernel_rfl))⟩
  f27 := ⟨Try.f74.name, by decide, Try.func74.trans (congrArg some (by kernel_rfl))⟩
  f28 := Try.func75.trans (congrArg some (by kernel_rfl))
  f29 := Try.func76.trans (congrArg some (by kernel_rfl))
  f46 := ⟨Try.f78.name, by decide, Try.func78.trans (congrArg some (by kernel_rfl))⟩
  f47 := Try.func79.trans (congrArg some (by kernel_rfl))
  f48 := Try.func80.trans (congrArg some (by kernel_rfl))
  f49 := ⟨Try.f81.name, by decide, Try.func81.trans (congrArg some (by kernel_rfl))⟩
  f50 := ⟨Try.f82.name, by decide, Try.func82.trans (congrArg some (by kernel_rfl))⟩
  f57 := ⟨Try.f83.name, by decide, Try.func83.trans (congrArg some (by kernel_rfl))⟩
  t0 := Try.underlying0
  a0 := Try.isAgg0
  z0 := Try.sizeOf0
  v0 := Try.zeroValue0
  t3 := Try.underlying3
  a3 := Try.isAgg3
  z3 := Try.sizeOf3
  v3 := Try.zeroValue3
  t4 := Try.underlying4
  a4 := Try.isAgg4
  z4 := Try.sizeOf4
  v4 := Try.zeroValue4
  t5 := Try.underlying5
  a5 := Try.isAgg5
  z5 := Try.sizeOf5
  v5 := Try.zeroValue5
  t9 := Try.underlying9
  a9 := Try.isAgg9
  z9 := Try.sizeOf9
  v9 := Try.zeroValue9
  t22 := Try.underlying108
  a22 := Try.isAgg108
  z22 := Try.sizeOf108
  v22 := Try.zeroValue108
  t25 := Try.underlying121
  a25 := Try.isAgg121
  z25 := Try.sizeOf121
  v25 := Try.zeroValue121
  t39 := Try.underlying132
  a39 := Try.isAgg132
  z39 := Try.sizeOf132
  v39 := Try.zeroValue132
  t45 := Try.underlying141
  a45 := Try.isAgg141
  z45 := Try.sizeOf141
  v45 := Try.zeroValue141
  t46 := Try.underlying142
  a46 := Try.isAgg142
  z46 := Try.sizeOf142
  v46 := Try.zeroValue142
  t50 := Try.underlying116
  a50 := Try.isAgg116
  z50 := Try.sizeOf116
  v50 := Try.zeroValue116
  t53 := Try.underlying148
  a53 := Try.isAgg148
  z53 := Try.sizeOf148
  v53 := Try.zeroValue148
  t55 := Try.underlying150
  a55 := Try.isAgg150
  z55 := Try.sizeOf150
  v55 := Try.zeroValue150
  t66 := Try.underlying152
  a66 := Try.isAgg152
  z66 := Try.sizeOf152
  v66 := Try.zeroValue152
  t70 := Try.underlying156
  a70 := Try.isAgg156
  z70 := Try.sizeOf156
  v70 := Try.zeroValue156
  t76 := Try.underlying158
  a76 := Try.isAgg158
  z76 := Try.sizeOf158
  v76 := Try.zeroValue158
  t77 := Try.underlying159
  a77 := Try.isAgg159
  z77 := Try.sizeOf159
  v77 := Try.zeroValue159 }
def Try.cmpInt_ren : Go.Shelf.Ren := ⟨fun | 5 => 53 | 7 => 62 | n => n, fun | 22 => 3 | 3 => 3 | 4 => 4 | n => n, fun | n => n⟩
theorem Try.cmpInt : Go.Proofs.SlLaysC2.n5 Try.prog Try.cmpInt_ren := {
  mixed := by kernel_rfl
  f5 := ⟨Try.f53.name, by decide, Try.func53.trans (congrArg some (by kernel_rfl))⟩
  f7 := ⟨Try.f62.name, by decide, Try.func62.trans (congrArg some (by kernel_rfl))⟩
  t3 := Try.underlying3
  a3 := Try.isAgg3
  z3 := Try.sizeOf3
  v3 := Try.zeroValue3
  t4 := Try.underlying4
  a4 := Try.isAgg4
  z4 := Try.sizeOf4
  v4 := Try.zeroValue4
  t22 := Try.underlying3
  a22 := Try.isAgg3
  z22 := Try.sizeOf3
  v22 := Try.zeroValue3 }
end Go.Proofs
