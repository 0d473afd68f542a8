/- Going over a trie: the nodes' walk and iterators. -/
import Derived.Test.YtecboaocoobjgaaGreatDoorTj
import Derived.Test.YtecboaocoobjgaaGreatDoorShelf
import Derived.Test.YtecboaocoobjgaaGreatDoorKq
namespace Go.Proofs.YtecboaocoobjgaaGreatDoor.Ra
set_option linter.unusedVariables false
set_option linter.unusedSimpArgs false
open Go.RowKit Go.Shelf Lib0 Kb Rp Rw Rs Li Mj Tj Sr Kq
attribute [local go_sem] Oper.semAt_some
abbrev sB (k : K) : ByteArray := ⟨k.toArray⟩
abbrev sv (k : K) : Value := .string (sB k)
theorem itoa (d : Fin 10) (w : World) : Calls Tryz.prog 48 #[.int .i64 (d.1 : Int)] w fun e w' => e = .returned (sv [dgt d]) ∧ w' = w := by
  refine (Tryz.strconv_Itoa_small d.1 (by have := d.2; omega) w).mono ?_
  rintro e x ⟨rfl, rfl⟩
  refine ⟨?_, rfl⟩
  obtain ⟨d, hd⟩ := d
  match d, hd with
  | 0, _ => rw [Lib.decDigits]; rfl
  | 1, _ => rw [Lib.decDigits]; rfl
  | 2, _ => rw [Lib.decDigits]; rfl
  | 3, _ => rw [Lib.decDigits]; rfl
  | 4, _ => rw [Lib.decDigits]; rfl
  | 5, _ => rw [Lib.decDigits]; rfl
  | 6, _ => rw [Lib.decDigits]; rfl
  | 7, _ => rw [Lib.decDigits]; rfl
  | 8, _ => rw [Lib.decDigits]; rfl
  | 9, _ => rw [Lib.decDigits]; rfl
/-- a node on the way -/
abbrev El := K × Nat × Option (Nat × Value)
abbrev encN (x : El) : Array Value := #[sv x.1, .pointer (some ⟨x.2.1, 0, none⟩)]
def kup (kids : Fin 10 → Tn) (pre : K) (d : Nat) : List El := ((List.finRange 10).take d).flatMap fun e => (kids e).nodes (pre ++ [dgt e])
theorem kup_all (kids : Fin 10 → Tn) (pre : K) : kup kids pre 10 = (List.finRange 10).flatMap fun e => (kids e).nodes (pre ++ [dgt e]) := by
  unfold kup
  rw [List.take_of_length_le (by simp)]
theorem kup_succ (kids : Fin 10 → Tn) (pre : K) (d : Fin 10) : kup kids pre (d.1 + 1) = kup kids pre d.1 ++ (kids d).nodes (pre ++ [dgt d]) := by
  unfold kup
  rw [List.take_succ_eq_append_getElem (by simp)]
  simp
theorem kup_pre (kids : Fin 10 → Tn) (pre : K) (d : Nat) : kup kids pre d <+: kup kids pre 10 := by
  rw [kup_all]
  unfold kup
  obtain ⟨t, ht⟩ := List.take_prefix d (List.finRange 10)
  refine ⟨t.flatMap fun e => (kids e).nodes (pre ++ [dgt e]), ?_⟩
  rw [← List.flatMap_append, ht]
theorem round_wide {n m : Nat} {P : Program} {l : Nat} {f : FuncId} {tmps : Array Value} {assign body : Code} {w : World} {R : Ending → World → Prop} (h : RoundIn Fence.wide n P l f tmps assign body w R) : RoundIn Fence.wide m P l f tmps assign body w R :=
  ⟨h.1, fun c cs _ => h.2 c cs (room_wide _)⟩
set_option maxRecDepth 100000 in
theorem idx (k : Fin 10 → Option Addr) (d : Fin 10) (y : World) : (Instr.index 71 (.agg #[.pointer (k 0), .pointer (k 1), .pointer (k 2), .pointer (k 3), .pointer (k 4), .pointer (k 5), .pointer (k 6), .pointer (k 7), .pointer (k 8), .pointer (k 9)]) (.int .i64 (d.1 : Int))).run Tryz.prog y = .ok (.pointer (k d)) y := by
  obtain ⟨d, hd⟩ := d
  obtain rfl | rfl | rfl | rfl | rfl | rfl | rfl | rfl | rfl | rfl : d = 0 ∨ d = 1 ∨ d = 2 ∨ d = 3 ∨ d = 4 ∨ d = 5 ∨ d = 6 ∨ d = 7 ∨ d = 8 ∨ d = 9 := by omega
  all_goals kernel_rfl
set_option maxRecDepth 100000 in
set_option maxHeartbeats 1600000 in
theorem walk_any {wE : World} {X : List Nat} {L : List El} {l nY : Nat} {J Jx : List El → World → Prop}
    (hY : ∀ pre x W1, J pre W1 → pre ++ [x] <+: L → YieldAt Fence.wide nY Tryz.prog l (encN x) W1 (fun e W' => (e = .returned (.bool true) ∧ J (pre ++ [x]) W' ∧ KQ X W1 W') ∨ (e = .returned (.bool false) ∧ Jx (pre ++ [x]) W'))) :
    ∀ (T : Tn) (m : Nat), Dp T m → T ≠ .nil → ∀ (n : Nat) (pre : K) (acc : List El) (W : World), InT wE X T → KQ X wE W → J acc W → acc ++ T.nodes pre <+: L → pre.length + m ≤ 1000000 →
      CallsIn Fence.wide n Tryz.prog 33 #[ptr T, sv pre, .func (.yield l) #[] #[]] W fun e W' =>
        (e = .returned (.bool true) ∧ J (acc ++ T.nodes pre) W' ∧ KQ X wE W') ∨ (e = .returned (.bool false) ∧ ∃ p : List El, p <+: L ∧ Jx p W') := by
  intro T
  induction T with
  | nil => intro m hm hne; exact absurd rfl hne
  | nd b lv kids ih =>
    intro m hm _ n pre acc W hI hW hj hpre hlen
    cases m with
    | zero => exact hm.elim
    | succ m =>
    have HN : Hid ((Tn.nd b lv kids).nodes pre = (pre, b, lv) :: kup kids pre 10) := by show _ = _; rw [kup_all]; rfl
    rw [HN.out] at hpre ⊢
    have HP : Hid (acc ++ (pre, b, lv) :: kup kids pre 10 <+: L) := hpre
    have HQ : Hid (acc ++ [(pre, b, lv)] <+: L) := by
      show _ <+: L
      refine List.IsPrefix.trans ?_ hpre
      exact ⟨kup kids pre 10, by simp⟩
    obtain ⟨fn, tmps, assign, body, hy, hR⟩ := hY acc (pre, b, lv) _ hj HQ.out
    have HI : Hid (InT wE X (.nd b lv kids)) := hI
    have HM : Hid (∀ d, Dp (kids d) m) := hm
    have HL : Hid (pre.length + (m + 1) ≤ 1000000) := hlen
    have IH : Hid (∀ (d : Fin 10) (m : Nat), Dp (kids d) m → kids d ≠ .nil → ∀ (n : Nat) (pre : K) (acc : List El) (W : World), InT wE X (kids d) → KQ X wE W → J acc W → acc ++ (kids d).nodes pre <+: L → pre.length + m ≤ 1000000 →
      CallsIn Fence.wide n Tryz.prog 33 #[ptr (kids d), sv pre, .func (.yield l) #[] #[]] W fun e W' =>
        (e = .returned (.bool true) ∧ J (acc ++ (kids d).nodes pre) W' ∧ KQ X wE W') ∨ (e = .returned (.bool false) ∧ ∃ p : List El, p <+: L ∧ Jx p W')) := ih
    have HYY := hY
    clear ih hY hI hm hlen hpre hj
    simp only [encN] at hy
    simp only [ptr, pa]
    refine callsIn_of_wp Tryz.func33 rfl trivial ?_ rfl
    simp only [Tryz.ntmps33, List.size_toArray, List.length_cons, List.length_nil, Nat.reduceAdd, Nat.reduceSub, Array.replicate_succ, Array.replicate_zero, List.push_toArray, List.append_toArray, List.nil_append, List.cons_append]
    gi_wp2
    refine ⟨fun h => by simp [Fence.wide] at h, (round_wide hR).mono ?_⟩
    clear hR hy
    rintro e W3 (⟨rfl, hJ3, hk3⟩ | ⟨rfl, hJx3⟩)
    · have hW3 := hW.trans hk3
      obtain ⟨c0, c1, c2, c3, c4, c5, c6, c7, c8, c9, c10⟩ := cells11 (In.keptQ hW3 _ HI.out).2.1
      clear hk3 hW
      gi_wp2
      gi_loopw [18] (fun dv wr => ∃ (d : Nat) (ac : List El), d ≤ 10 ∧ dv = .int .i64 (d : Int) ∧ Hid (ac = acc ++ (pre, b, lv) :: kup kids pre d) ∧ J ac wr ∧ Hid (KQ X wE wr)) (fun dv _ => 10 - (intOf dv).toNat)
      case atStart => exact ⟨0, acc ++ [(pre, b, lv)], Nat.zero_le _, rfl, by show _ = _; simp [kup], hJ3, hW3⟩
      case round =>
        obtain ⟨d, ac, hd, rfl, HA, hja, HW⟩ := hrel
        clear c0 c1 c2 c3 c4 c5 c6 c7 c8 c9 c10
        by_cases hlt : d < 10
        · have hlt' : (d : Int) < 10 := by omega
          have ix := idx (fun e => pa (kids e)) ⟨d, hlt⟩
          simp only at ix
          have it := itoa ⟨d, hlt⟩
          simp only at it
          have HD : Hid (d < 10) := hlt
          have HS := kup_succ kids pre ⟨d, hlt⟩
          simp only at HS
          have hp3 : (d : Int) + 1 ≤ 9223372036854775807 := by omega
          obtain ⟨T, hT⟩ : ∃ T, kids ⟨d, hlt⟩ = T := ⟨_, rfl⟩
          have cw := fun hne n pre acc W => IH.out ⟨d, hlt⟩ m (HM.out _) hne n pre acc W (HI.out.2.2.2 ⟨d, hlt⟩)
          rw [hT] at cw
          rw [hT] at ix HS
          have HSS : Hid (kup kids pre (d + 1) = kup kids pre d ++ T.nodes (pre ++ [dgt ⟨d, hlt⟩])) := HS
          have HKP : Hid (kup kids pre (d + 1) <+: kup kids pre 10) := kup_pre kids pre (d + 1)
          clear HS
          cases T with
          | nil =>
            rw [show pa Tn.nil = none from rfl] at ix
            have HA2 : Hid (ac = acc ++ (pre, b, lv) :: kup kids pre (d + 1)) := by show _ = _; rw [HA.out, HSS.out]; simp [Tn.nodes]
            clear HA HSS cw it hT hlt
            gi_wp2
            refine ⟨trivial, ?_⟩
            gi_wp2
            refine ⟨trivial, ?_⟩
            gi_wp2
            exact ⟨⟨d + 1, ac, HD.out, by go_num, HA2, hja, HW⟩, by simp [intOf]; have := HD.out; omega⟩
          | nd b2 lv2 kids2 =>
            rw [show pa (Tn.nd b2 lv2 kids2) = some ⟨b2, 0, none⟩ from rfl] at ix
            have HA2 : Hid (ac ++ (Tn.nd b2 lv2 kids2).nodes (pre ++ [dgt ⟨d, hlt⟩]) = acc ++ (pre, b, lv) :: kup kids pre (d + 1)) := by show _ = _; rw [HA.out, HSS.out]; simp
            have HX : Hid (ac ++ (Tn.nd b2 lv2 kids2).nodes (pre ++ [dgt ⟨d, hlt⟩]) <+: L) := by
              show _ <+: L
              rw [HA2.out]
              refine List.IsPrefix.trans ?_ HP.out
              rw [List.prefix_append_right_inj, List.prefix_cons_inj]
              exact HKP.out
            have cw2 := fun n => cw (by simp) n (pre ++ [dgt ⟨d, hlt⟩]) ac wr HW.out hja HX.out (by have := HL.out; simp; omega)
            simp only [ptr] at cw2
            rw [show pa (Tn.nd b2 lv2 kids2) = some ⟨b2, 0, none⟩ from rfl] at cw2
            have ec : sB pre ++ sB [dgt ⟨d, hlt⟩] = sB (pre ++ [dgt ⟨d, hlt⟩]) := by
              apply ByteArray.ext; apply Array.toList_inj.1; simp [ByteArray.data_append]
            have pl : ¬ 9223372036854775807 < pre.length + 1 := by have := HL.out; omega
            generalize dgt ⟨d, hlt⟩ = dd at *
            clear HA HSS cw hT hlt hja
            gi_wp2
            refine ⟨trivial, fun h => by simp [Fence.wide] at h, (callsIn_wide.2 (it _)).mono ?_⟩
            rintro e W4 ⟨rfl, h4⟩
            rw [h4]
            clear h4 W4 it
            gi_wp2
            refine ⟨trivial, fun h => by simp [Fence.wide] at h, (cw2 _).mono ?_⟩
            clear cw2
            rintro e W5 (⟨rfl, hJ5, hk5⟩ | ⟨rfl, hJx5⟩)
            · gi_wp2
              exact ⟨⟨d + 1, _, HD.out, by go_num, HA2, hJ5, hk5⟩, by simp [intOf]; have := HD.out; omega⟩
            · gi_wp2
              refine bodyPost_ret (results_tmp rfl _ _ _) rfl ?_
              exact .inr ⟨rfl, hJx5⟩
        · obtain rfl : d = 10 := by omega
          have hlt' : ¬ ((10 : Nat) : Int) < 10 := by omega
          gi_wp2
          refine bodyPost_ret (results_tmp rfl _ _ _) rfl ?_
          exact .inl ⟨rfl, by rw [← HA.out]; exact hja, HW.out⟩
    · gi_wp2
      refine bodyPost_ret (results_tmp rfl _ _ _) rfl ?_
      exact .inr ⟨rfl, _, HQ.out, hJx3⟩
/-- the nodes' iterator -/
abbrev fvN (bx : Nat) : Value := .func (.func 32) #[] #[.pointer (some ⟨bx, 0, none⟩)]
abbrev tPN : TypeId := 63
theorem nodes_any (T : Tn) (w : World) : Calls Tryz.prog 13 #[ptr T] w fun e w' => e = .returned (fvN w.heap.size) ∧ w' = w.alloc (.cells #[ptr T] tPN) := by
  have hmf : ∀ (fn : Fn) (first cap : Array Value) (w : World), (Instr.makeFunc fn first cap).run Tryz.prog w = .ok (.func fn first cap) w := fun _ _ _ _ => rfl
  go_enter Tryz.func13, Tryz.ntmps13
  go_wp2
  go_ret
  exact ⟨rfl, rfl⟩
theorem goes_nodes {X : List Nat} {T : Tn} {bx : Nat} (n : Nat) (w : World) (hT : InT w X T) (hD : Dp T 20) (hb : w.heap[bx]? = some (.cells #[ptr T] tPN)) : SeqL n Tryz.prog 32 #[.pointer (some ⟨bx, 0, none⟩)] encN (KQ X) (T.nodes []) w := fun l J Jx W hW hJ hJx hY h0 => by
  have hbW := kept hW hb
  have c0 : W.cell? ⟨bx, 0, none⟩ = some (ptr T) := by simp [World.cell?, hbW]
  have hTW := In.kept (KT.of hW) T hT
  cases T with
  | nil =>
    simp only [ptr, pa] at c0
    clear hbW hb hY
    refine callsIn_of_wp Tryz.func32 rfl trivial ?_ rfl
    simp only [Tryz.ntmps32, List.size_toArray, List.length_cons, List.length_nil, Nat.reduceAdd, Nat.reduceSub, Array.replicate_succ, Array.replicate_zero, List.push_toArray, List.append_toArray, List.nil_append, List.cons_append]
    gi_wp2
    go_end0
    exact ⟨⟨_, rfl⟩, .inl h0⟩
  | nd b lv kids =>
    have cw := fun m => walk_any (L := (Tn.nd b lv kids).nodes []) (fun pre x W1 h1 h2 => (hY pre x W1 h1 h2).mono fun _ _ h => h.2) (.nd b lv kids) 20 hD (by simp) m [] [] W hTW (KQ.refl _ _) h0 (by simp) (by simp)
    simp only [ptr, pa] at c0 cw
    clear hbW hb hY h0
    refine callsIn_of_wp Tryz.func32 rfl trivial ?_ rfl
    simp only [Tryz.ntmps32, List.size_toArray, List.length_cons, List.length_nil, Nat.reduceAdd, Nat.reduceSub, Array.replicate_succ, Array.replicate_zero, List.push_toArray, List.append_toArray, List.nil_append, List.cons_append]
    gi_wp2
    refine ⟨trivial, fun h => by simp [Fence.wide] at h, (cw _).mono ?_⟩
    clear cw
    rintro e W2 (⟨rfl, hj, hb2⟩ | ⟨rfl, pre, hp, hjx⟩)
    · gi_wp2
      go_end0
      exact ⟨⟨_, rfl⟩, .inl (by simpa using hj)⟩
    · gi_wp2
      go_end0
      exact ⟨⟨_, rfl⟩, .inr ⟨pre, hp, hjx⟩⟩
/-- what All answers -/
abbrev fvA (bt : Nat) : Value := .func (.func 12) #[] #[.pointer (some ⟨bt, 0, none⟩)]
theorem all_any (b : Nat) (w : World) : Calls Tryz.prog 6 #[.pointer (some ⟨b, 0, none⟩)] w fun e w' => e = .returned (fvA w.heap.size) ∧ w' = w.alloc (.cells #[.pointer (some ⟨b, 0, none⟩)] 25) := by
  have hmf : ∀ (fn : Fn) (first cap : Array Value) (w : World), (Instr.makeFunc fn first cap).run Tryz.prog w = .ok (.func fn first cap) w := fun _ _ _ _ => rfl
  go_enter Tryz.func6, Tryz.ntmps6
  go_wp2
  go_ret
  exact ⟨rfl, rfl⟩
end Go.Proofs.YtecboaocoobjgaaGreatDoor.Ra
