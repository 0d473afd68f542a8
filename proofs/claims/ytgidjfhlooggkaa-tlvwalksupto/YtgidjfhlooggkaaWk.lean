/- Going over nodes: the walk and its iterator. -/
import Derived.RangeFuncNested
import Derived.RangeFuncBound
import Derived.RangeFuncCalls
import Derived.RangeFuncLeaves
import Derived.RangeFuncFrom
import Derived.Shelf.Abstract
import Derived.Shelf.RegionOpen
import Derived.WalkKit
import Derived.OwnWalkIn
import Derived.TacticsInMore
import Derived.LoopNIn
import Derived.LoopIn
import Derived.Test.YtgidjfhlooggkaaNt
namespace Go.Proofs.Ytgidjfhlooggkaa.Wk
set_option linter.unusedVariables false
set_option linter.unusedSimpArgs false
open Go.RowKit Go.Shelf Kb Nt
attribute [local go_sem] Oper.semAt_some
/-- a node, and how deep it stands -/
abbrev El := Nat × AT
def steps : Nat → List AT → List El
  | _, [] => []
  | d, .mk t v kv ks :: ts => (d, .mk t v kv ks) :: (steps (d + 1) ks ++ steps d ts)
def dep : List AT → Nat
  | [] => 0
  | .mk _ _ _ ks :: ts => max (dep ks + 1) (dep ts)
abbrev enc (x : El) : Array Value := #[.int .i64 (x.1 : Int), .agg #[.int .i64 x.2.tag, .string x.2.val, x.2.kv]]
theorem steps_append (d : Nat) : ∀ (a b : List AT), steps d (a ++ b) = steps d a ++ steps d b
  | [], b => by simp [steps]
  | .mk t v kv ks :: a, b => by simp [steps, steps_append d a b]
theorem steps_one (d : Nat) (a : AT) : steps d [a] = (d, a) :: steps (d + 1) a.kids := by
  cases a; simp [steps, AT.kids]
theorem steps_snoc (d : Nat) (ts : List AT) (i : Nat) (h : i < ts.length) : steps d (ts.take (i + 1)) = steps d (ts.take i) ++ (d, ts[i]) :: steps (d + 1) ts[i].kids := by
  rw [List.take_succ_eq_append_getElem h, steps_append, steps_one]
theorem dep_at : ∀ (ts : List AT) (i : Nat) (h : i < ts.length), dep ts[i].kids + 1 ≤ dep ts
  | [], i, h => by simp at h
  | .mk t v kv ks :: ts, 0, h => by simp only [List.getElem_cons_zero, AT.kids, dep]; omega
  | .mk t v kv ks :: ts, i + 1, h => by
    have := dep_at ts i (by simpa using h)
    simp only [List.getElem_cons_succ, dep]; omega
theorem round_wide {n m : Nat} {P : Program} {l : Nat} {f : FuncId} {tmps : Array Value} {assign body : Code} {w : World} {R : Ending → World → Prop} (h : RoundIn Fence.wide n P l f tmps assign body w R) : RoundIn Fence.wide m P l f tmps assign body w R :=
  ⟨h.1, fun c cs _ => h.2 c cs (room_wide _)⟩
theorem pre_len {L : List El} {acc : List {x // x ∈ L}} {x : El} {r : List El} (h : acc.map (·.1) ++ x :: r <+: L) : acc.length < L.length := by
  have := h.length_le
  simp at this; omega
theorem pre_mem {L a : List El} {x : El} {r : List El} (h : a ++ x :: r <+: L) : x ∈ L := by
  obtain ⟨t, rfl⟩ := h
  simp
/-- what the body of a loop over nodes keeps: all below a number, and every block that holds a node -/
structure KN (n₀ : Nat) (A B : World) : Prop where
  below : Below n₀ A B
  node : ∀ (k : Nat) (c : Array Value) (fr : Nat × Nat), A.heap[k]? = some (Obj.cells c 40 fr) → B.heap[k]? = A.heap[k]?
theorem KN.refl (n₀ : Nat) (A : World) : KN n₀ A A := ⟨Below.refl _ _, fun _ _ _ _ => rfl⟩
theorem kn_t {n₀ : Nat} {A B C : World} (h : KN n₀ A B) (k : KN n₀ B C) : KN n₀ A C := ⟨h.1.trans k.1, fun i c fr hi => (k.2 i c fr ((h.2 i c fr hi).trans hi)).trans (h.2 i c fr hi)⟩
theorem kn_below {n₀ : Nat} {A B : World} (h : Below A.heap.size A B) (hn : n₀ ≤ A.heap.size) : KN n₀ A B := ⟨h.mono hn, fun k c fr hk => h.block k (Array.getElem?_eq_some_iff.1 hk).1⟩
theorem kn_b {n₀ : Nat} {w : World} (hn : n₀ ≤ w.heap.size) (W : World) (l : Nat) (o o' : Obj) (hl : w.heap.size ≤ l) (h : W.heap[l]? = some o) (hc : o.isCells = false) (hw : o.isWalk = false) : KN n₀ W (W.putObj l o') :=
  ⟨belowK_b hn W l o o' hl h hc hw, fun k c fr hk => World.putObj_heap_other (fun e => by subst e; rw [h] at hk; cases hk; simp [Obj.isCells] at hc)⟩
theorem kn_set {n₀ : Nat} {A : World} {g : Nat} {c : Array Value} {t : TypeId} {fr : Nat × Nat} (h : A.heap[g]? = some (.cells c t fr)) (ht : t ≠ 40) (hg : n₀ ≤ g) (o : Nat) (v : Value) : KN n₀ A (A.setCell ⟨g, o, none⟩ v) :=
  ⟨(Below.refl _ _).setCell (p := ⟨g, o, none⟩) hg v, fun k c' fr' hk => Below.heap_setCell A ⟨g, o, none⟩ v k (fun e => by simp only at e; subst e; rw [h] at hk; cases hk; exact ht rfl)⟩
theorem kv_form {w : World} {v : Value} {ts : List AT} (h : rowR w v ts) : ∃ o cap, v = .slice o ts.length cap := by
  obtain ⟨o, cap, e, _⟩ := h
  exact ⟨o, cap, e⟩
set_option maxRecDepth 100000 in
set_option maxHeartbeats 1600000 in
theorem walk_any {wE : World} {L : List El} {l nY B : Nat} {J Jx : List {x // x ∈ L} → World → Prop} (hB : wE.heap.size ≤ B) (hJ : AbidesFrom B J)
    (hY : ∀ pre x W1, J pre W1 → pre.length < L.length → YieldAt Fence.wide nY Try.prog l (enc x.1) W1 (fun e W' => (e = .returned (.bool true) ∧ J (pre ++ [x]) W' ∧ KN wE.heap.size W1 W') ∨ (e = .returned (.bool false) ∧ Jx (pre ++ [x]) W'))) :
    ∀ (mm : Nat) (ts : List AT), SizeOf.sizeOf ts ≤ mm → ∀ (n : Nat) (v : Value) (d : Nat) (acc : List {x // x ∈ L}) (W : World), Rdn wE v ts → Below wE.heap.size wE W → J acc W → acc.map (·.1) ++ steps d ts <+: L → d + dep ts ≤ 1000000 →
      CallsIn Fence.wide n Try.prog 49 #[v, .int .i64 (d : Int), .func (.yield l) #[] #[]] W fun e W' =>
        (e = .returned (.bool true) ∧ (∃ acc' : List {x // x ∈ L}, acc'.map (·.1) = acc.map (·.1) ++ steps d ts ∧ J acc' W') ∧ Below wE.heap.size wE W') ∨ (e = .returned (.bool false) ∧ ∃ pre : List {x // x ∈ L}, pre.map (·.1) <+: L ∧ Jx pre W') := by
  intro mm
  induction mm with
  | zero =>
    intro ts hm
    cases ts <;> simp at hm
  | succ mm ih =>
    intro ts hm n v d acc W hr hW hj hpre hd
    have HR : Hid (Rdn wE v ts) := hr
    obtain ⟨o, cap, rfl⟩ := kv_form hr.row
    obtain ⟨N, HN, hN⟩ : ∃ N : Nat, Hid (ts.length = N) ∧ N ≤ 1048576 := by
      obtain ⟨_, _, _, hl, _⟩ := hr.row
      exact ⟨_, rfl, hl⟩
    have HM : Hid (SizeOf.sizeOf ts ≤ mm + 1) := hm
    have HP : Hid (acc.map (·.1) ++ steps d ts <+: L) := hpre
    have HD : Hid (d + dep ts ≤ 1000000) := hd
    have hd0 : (d : Int) ≤ 1000000 := by omega
    have IH := ih
    clear hr hm hpre hd ih
    rw [HN.out]
    refine callsIn_of_wp Try.func49 rfl trivial ?_ rfl
    simp only [Try.ntmps49, List.size_toArray, List.length_cons, List.length_nil, Nat.reduceAdd, Nat.reduceSub, Array.replicate_succ, Array.replicate_zero, List.push_toArray, List.append_toArray, List.nil_append, List.cons_append]
    gi_wp2
    gi_loopw [11] (fun vi wr => ∃ (i : Nat) (ac : List {x // x ∈ L}), i ≤ N ∧ vi = .int .i64 (i : Int) ∧ Hid (ac.map (·.1) = acc.map (·.1) ++ steps d (ts.take i)) ∧ J ac wr ∧ Below wE.heap.size wE wr) (fun vi _ => N - (intOf vi).toNat)
    case atStart => exact ⟨0, acc, Nat.zero_le _, rfl, by show _ = _; simp [steps], hj, hW⟩
    case round =>
      obtain ⟨i, ac, hi, rfl, HA, hja, hwr⟩ := hrel
      rename World => wr
      by_cases hlt : i < N
      · have hlt' : (i : Int) < (N : Int) := by omega
        have hit : i < ts.length := by rw [HN.out]; exact hlt
        obtain ⟨o', cap', e', _, hc⟩ := (HR.out.below hwr).row
        obtain ⟨a, ea, d0, d1, d2⟩ := hc i hit
        obtain ⟨rfl, -, rfl⟩ : o = o' ∧ ts.length = ts.length ∧ cap = cap' := by simpa using e'
        subst ea
        have hk := rdL_at ts i hit HR.out.kids
        clear hc e'
        have HS := steps_snoc d ts i hit
        have hkl := kids_lt hit
        have hdp := dep_at ts i hit
        have HX : Hid (ac.map (·.1) ++ (d, ts[i]) :: (steps (d + 1) ts[i].kids) <+: L) := by
          have h1 : ts = ts.take (i + 1) ++ ts.drop (i + 1) := (List.take_append_drop _ _).symm
          have := HP.out
          rw [h1, steps_append, HS, ← List.append_assoc, ← List.append_assoc, ← HA.out] at this
          exact (List.prefix_append _ _).trans this
        have hmem : (d, ts[i]) ∈ L := pre_mem HX.out
        have HA2 : Hid (ac.map (·.1) ++ (d, ts[i]) :: (steps (d + 1) ts[i].kids) = acc.map (·.1) ++ steps d (ts.take (i + 1))) := by show _ = _; rw [HA.out, HS, List.append_assoc]
        clear HS HA
        obtain ⟨nd, hnd⟩ : ∃ nd, nd = ts[i] := ⟨_, rfl⟩
        rw [← hnd] at d0 d1 d2 hk hkl hdp HX HA2
        have hmem' : (d, nd) ∈ L := by rw [hnd]; exact hmem
        clear hnd hmem
        cases nd with
        | mk tag val kv ks =>
        simp only [AT.tag, AT.val, AT.kv, AT.kids] at d0 d1 d2 hk hkl hdp HX HA2
        obtain ⟨ko, kc, rfl⟩ := kv_form hk.1.row
        obtain ⟨KL, HKL⟩ : ∃ KL, Hid (ks.length = KL) := ⟨_, rfl⟩
        rw [HKL.out] at d2
        have hl2 : ac.length < L.length := pre_len HX.out
        have hJ2 : J ac (wr.alloc (.cells #[.int .i64 tag, .string val, .slice ko KL kc] 40)) := hJ ac wr _ none hja (World.grownBy_alloc wr _ none) (fun r e => by cases e)
        obtain ⟨X, HXv⟩ : ∃ X : {x // x ∈ L}, Hid (X.1 = (d, AT.mk tag val (.slice ko KL kc) ks)) := ⟨⟨(d, AT.mk tag val (.slice ko KL kc) ks), by rw [← HKL.out]; exact hmem'⟩, rfl⟩
        have hYX := hY ac X _ hJ2 hl2
        rw [HXv.out] at hYX
        obtain ⟨fn, tmps, assign, body, hy, hR⟩ := hYX
        have HK : Hid (Rdn wE (.slice ko KL kc) ks) := by show Rdn _ _ _; rw [← HKL.out]; exact hk.1
        have hb1 := hwr.trans ((Below.refl wE.heap.size wr).alloc hwr.size (.cells #[.int .i64 tag, .string val, .slice ko KL kc] 40))
        have hn1 := h1_0 wr (.cells #[.int .i64 tag, .string val, .slice ko KL kc] 40)
        have HM2 : Hid (SizeOf.sizeOf ks ≤ mm) := by have := HM.out; show _ ≤ _; omega
        have HD2 : Hid ((d + 1) + dep ks ≤ 1000000) := by have := HD.out; show _ ≤ _; omega
        simp only [enc, AT.tag, AT.val, AT.kv] at hy
        clear hk hja hJ2 hmem' hkl hdp hl2
        gi_wp2
        refine ⟨fun h => by simp [Fence.wide] at h, (round_wide hR).mono ?_⟩
        clear hR
        rintro e W3 (⟨rfl, hJ3, hk3⟩ | ⟨rfl, hJx3⟩)
        · have hn3 := (hk3.node _ _ _ hn1).trans hn1
          have c2 : W3.cell? ⟨wr.heap.size, 2, none⟩ = some (.slice ko KL kc) := by simp [World.cell?, hn3]
          have hb3 := hb1.trans hk3.below
          have HAX : Hid ((ac ++ [X]).map (·.1) = ac.map (·.1) ++ [(d, AT.mk tag val (.slice ko KL kc) ks)]) := by show _ = _; rw [List.map_append, List.map_cons, List.map_nil, HXv.out]
          have cw := fun n => IH ks HM2.out n (.slice ko KL kc) (d + 1) (ac ++ [X]) W3 HK.out hb3 hJ3 (by rw [HAX.out, List.append_assoc, ← HKL.out]; exact HX.out) HD2.out
          rw [show ((d + 1 : Nat) : Int) = (d : Int) + 1 by omega] at cw
          clear hy hn1 hn3 hk3 d0 d1 d2
          gi_wp2
          refine ⟨trivial, fun h => by simp [Fence.wide] at h, (cw _).mono ?_⟩
          clear cw c2 hJ3
          rintro e W4 (⟨rfl, ⟨ac4, hac4, hJ4⟩, hb4⟩ | ⟨rfl, hJx4⟩)
          · have HA4 : Hid (ac4.map (·.1) = acc.map (·.1) ++ steps d (ts.take (i + 1))) := by show _ = _; rw [hac4, HAX.out, ← HA2.out, List.append_assoc, HKL.out]; rfl
            clear hac4
            gi_wp2
            exact ⟨⟨i + 1, ac4, by omega, by go_num, HA4, hJ4, hb4⟩, by simp [intOf]; omega⟩
          · gi_wp2
            refine bodyPost_ret (results_tmp rfl _ _ _) rfl ?_
            exact .inr ⟨rfl, hJx4⟩
        · have HE : Hid ((ac ++ [X]).map (·.1) <+: L) := by
            show _ <+: L
            rw [List.map_append, List.map_cons, List.map_nil, HXv.out]
            refine List.IsPrefix.trans ?_ HX.out
            rw [← HKL.out]
            exact ⟨steps (d + 1) ks, by simp⟩
          gi_wp2
          refine ⟨trivial, ?_⟩
          gi_wp2
          refine bodyPost_ret (results_tmp rfl _ _ _) rfl ?_
          exact .inr ⟨rfl, _, HE.out, hJx3⟩
      · have HE : Hid (ac.map (·.1) = acc.map (·.1) ++ steps d ts) := by
          have := HA.out
          rw [List.take_of_length_le (by rw [HN.out]; omega)] at this
          exact this
        gi_wp2
        refine bodyPost_ret (results_tmp rfl _ _ _) rfl ?_
        exact .inl ⟨rfl, ⟨ac, HE.out, hja⟩, hwr⟩
/-- the iterator's value -/
abbrev fv (b : Nat) : Value := .func (.func 48) #[] #[.pointer (some ⟨b, 0, none⟩)]
set_option maxRecDepth 100000 in
theorem all_any (o : Option Addr) (n cap : Nat) (w : World) : Calls Try.prog 25 #[.slice o n cap] w fun e w' => ∃ b, e = .returned (fv b) ∧ w'.heap[b]? = some (.cells #[.slice o n cap] 23) ∧ Below w.heap.size w w' ∧ b = w.heap.size := by
  have hmf : ∀ (fn : Fn) (first cap : Array Value) (w : World), (Instr.makeFunc fn first cap).run Try.prog w = .ok (.func fn first cap) w := fun _ _ _ _ => rfl
  go_enter Try.func25, Try.ntmps25
  go_wp2
  go_ret
  exact ⟨_, rfl, h1_0 _ _, below_one _ _, rfl⟩
/-- the iterator goes over all nodes -/
theorem goes_all {wE : World} {ts : List AT} {o : Option Addr} {N cap b : Nat} (hr : Rdn wE (.slice o N cap) ts) (hd : dep ts ≤ 999999) (n : Nat) (w : World) (hw : Below wE.heap.size wE w) (hb : w.heap[b]? = some (.cells #[.slice o N cap] 23)) :
    SeqStopsK Fence.wide n Try.prog 48 #[.pointer (some ⟨b, 0, none⟩)] (fun x : {x // x ∈ steps 1 ts} => enc x.1) (KN wE.heap.size) (fun xs => xs.map (·.1) = steps 1 ts) (fun pre => pre.map (·.1) <+: steps 1 ts) (steps 1 ts).length w := fun l J Jx W hW hJ hJx hY h0 => by
  have hbW : W.heap[b]? = some (.cells #[.slice o N cap] 23) := kept hW hb
  have c0 : W.cell? ⟨b, 0, none⟩ = some (.slice o N cap) := by simp [World.cell?, hbW]
  have hwW : Below wE.heap.size wE W := hw.trans (hW.mono hw.size)
  have cw := fun m => walk_any (L := steps 1 ts) (Nat.le_trans hw.size hW.size) hJ hY (SizeOf.sizeOf ts) ts (Nat.le_refl _) m (.slice o N cap) 1 [] W hr hwW h0 (by simp) (by omega)
  clear hbW hb hY h0 hr
  refine callsIn_of_wp Try.func48 rfl trivial ?_ rfl
  simp only [Try.ntmps48, List.size_toArray, List.length_cons, List.length_nil, Nat.reduceAdd, Nat.reduceSub, Array.replicate_succ, Array.replicate_zero, List.push_toArray, List.append_toArray, List.nil_append, List.cons_append]
  gi_wp2
  refine ⟨trivial, fun h => by simp [Fence.wide] at h, (cw _).mono ?_⟩
  clear cw
  rintro e W2 (⟨rfl, ⟨ac, hac, hj⟩, hb2⟩ | ⟨rfl, pre, hp, hjx⟩)
  · gi_wp2
    go_end0
    exact ⟨⟨_, rfl⟩, .inl ⟨ac, by simpa using hac, hj⟩⟩
  · gi_wp2
    go_end0
    exact ⟨⟨_, rfl⟩, .inr ⟨pre, hp, hjx⟩⟩
end Go.Proofs.Ytgidjfhlooggkaa.Wk
