/- Nodes are printed: none; lines are counted. -/
import Derived.Test.YtgidjfhlooggkaaPn
namespace Go.Proofs.Ytgidjfhlooggkaa.Pe
set_option linter.unusedVariables false
set_option linter.unusedSimpArgs false
open Go.RowKit Go.Shelf Kb Ga Gb Gc Nt Wk Ls Wr Bd Pn
attribute [local go_sem] Oper.semAt_some
set_option maxRecDepth 100000 in
set_option maxHeartbeats 1600000 in
theorem string_nil {w : World} {B b : Nat} {p : Value} (hbk : w.heap[b]? = some (.cells #[p, .slice none 0 0] 87 (0, 0))) :
    Calls Try.prog 51 #[.pointer (some ⟨b, 0, none⟩)] w fun e w' => e = .returned (.string ⟨#[]⟩) ∧ Ch B w w' := by
  have hUS : ∀ (W : World) (q : Option Addr), (Builtin.unsafeString_ #[122, 3] 9 #[.pointer q, .int .i64 0]).run Try.prog W = .ok (.string .empty) W := fun W q => Lib.run_unsafeString_none W _ _ _ q
  have c1 : w.drew.cell? ⟨b, 1, none⟩ = some (.slice none 0 0) := by
    have : w.drew.heap[b]? = some (.cells #[p, .slice none 0 0] 87 (0, 0)) := hbk
    simp [World.cell?, this]
  have hSD : (Builtin.unsafeSliceData_ #[81] 122 #[.slice none 0 0]).run Try.prog w.drew = .ok (.pointer none) w.drew := rfl
  have CH : Ch B w w.drew := ⟨Below.drew (Below.refl B w), fun k o hk _ _ => hk⟩
  clear hbk
  go_enter Try.func51, Try.ntmps51
  go_wp2
  go_region
  all_goals (go_wp2; go_ret; exact ⟨rfl, CH⟩)
set_option maxRecDepth 100000 in
set_option maxHeartbeats 1600000 in
theorem print_nil (v : Value) (w : World) (hr : Rdn w v []) :
    Calls Try.prog 26 #[v] w fun e w' => e = .returned (.string ⟨#[]⟩) ∧ Below w.heap.size w w' := by
  obtain ⟨o, cap, e, hN, -⟩ := hr.row
  obtain ⟨N, HN⟩ : ∃ N : Nat, Hid (([] : List AT).length = N) := ⟨_, rfl⟩
  rw [HN.out] at e
  subst e
  have hd : dep [] ≤ 999999 := by simp [dep]
  refine (callsIn_wide (n := 8)).1 ?_
  refine callsIn_of_wp_marks Try.func26 rfl trivial ?_ rfl
  simp only [Try.ntmps26, List.size_toArray, List.length_cons, List.length_nil, Nat.reduceAdd, Nat.reduceSub, Array.replicate_succ, Array.replicate_zero, List.push_toArray, List.append_toArray, List.nil_append, List.cons_append]
  refine wpIn_wide.2 ?_
  go_wp2_with fail
  have M0 := h1_0 w (.cells #[.pointer none, .slice none 0 0] 87)
  have B0 := below_one w (.cells #[.pointer none, .slice none 0 0] 87)
  have s0 : (w.alloc (.cells #[.pointer none, .slice none 0 0] 87)).heap.size = w.heap.size + 1 := by simp
  generalize w.alloc (.cells #[.pointer none, .slice none 0 0] 87) = W at *
  refine (all_any o N cap W).mono ?_
  rintro _ V ⟨b, rfl, hbV, hV, hbW⟩
  have hB := keepB B0 hV
  replace M0 := kept hV M0
  clear B0 hV
  go_wp2_with fail
  have hbb : b = w.heap.size + 1 := by rw [hbW, s0]
  have hV3 : w.heap.size + 1 < V.heap.size := by rw [← hbb]; exact (Array.getElem?_eq_some_iff.1 hbV).1
  rw [hbb] at hbV
  clear hbW s0 hbb
  refine (wpIn_wide (n := 8)).1 ?_
  refine wpIn_rangeFunc_ownH rfl (by omega) (gf := 48) (lb := #[.pointer (some ⟨w.heap.size + 1, 0, none⟩)]) rfl trivial (enters_of Try.func48 (by kernel_rfl) rfl)
    (goes_all hr hd _ V hB hbV) kn_t (kn_b hB.size) (Below.refl _ _) (fun _ => rfl)
    (fun pre X => X.heap[w.heap.size]? = some (.cells #[.pointer none, .slice none 0 0] 87) ∧ Below w.heap.size w X)
    (fun c pre X => False)
    (fun s X Y row hs hg hrow => ⟨cells_on hs.1 hg (fun r e => (hrow r e).2), hs.2.grown hg hs.2.size (fun k e => by have := (hrow k e).1; omega)⟩)
    (fun c s X Y row hs hg hrow => hs)
    ⟨M0, hB⟩
    (fun x a' X => ∃ blk, a' = { tmps := #[.slice o N cap, undef, .string ⟨#[]⟩, .pointer (some ⟨w.heap.size, 0, none⟩), .int .i64 (x.1.1 : Int), .pointer (some ⟨blk, 0, none⟩), .slice o N cap, fv (w.heap.size + 1), .int .i64 (x.1.1 : Int), .agg #[.int .i64 x.1.2.tag, .string x.1.2.val, x.1.2.kv], undef, undef, undef, undef], defers := [] } ∧ X.heap[blk]? = some (.cells #[.int .i64 x.1.2.tag, .string x.1.2.val, x.1.2.kv] 40))
    (fun x a' s X Y row hs hg hrow => by
      obtain ⟨blk, e, hx⟩ := hs
      exact ⟨blk, e, cells_on hx hg (fun r e => (hrow r e).2)⟩)
    ?assign ?body ?done ?stop
  case assign =>
    rintro l pre ⟨x, hx⟩ X K hI hK
    simp [steps] at hx
  case body =>
    rintro l pre x a' X hl - hI ha hpl
    have hx := x.2
    simp [steps] at hx
  case done =>
    rintro D xs Y hD hS ⟨h0, h3⟩ hK
    have bs := string_nil (B := w.heap.size) h0
    clear hS h0 M0 hbV
    go_wp2_with fail
    refine bs.mono ?_
    rintro _ Z ⟨rfl, hZ⟩
    have hK2 := hZ.2 D _ hK (fun c fr e => by cases e) (fun c fr e => by cases e)
    have h4 := h3.trans hZ.1
    go_wp2
    refine ⟨by simp, .inl ⟨_, _, rfl, run_takeDeferred hK2, ?_⟩⟩
    refine ⟨.string ⟨#[]⟩, ?_, rfl, h4.trans (belowK_b (w := w) (Nat.le_refl _) _ D _ _ (by omega) hK2 rfl rfl)⟩
    simp [results, Try.f26, go_sem]
  case stop =>
    rintro D c pre Y hD hS hF hK
    exact hF.elim
theorem print_all (ts : List AT) (v : Value) (w : World) (hr : Rdn w v ts) (hd : dep ts ≤ 999999) (hL : (steps 1 ts).length ≤ 1000000) :
    Calls Try.prog 26 #[v] w fun e w' => e = .returned (.string ⟨(prS (steps 1 ts)).toArray⟩) ∧ Below w.heap.size w w' := by
  cases ts with
  | nil => simp only [steps]; exact print_nil v w hr
  | cons t ts => exact print_any _ v w hr hd hL (by simp)
theorem hx_ne (n : Nat) (h : n < 16) : Lib0.hx n ≠ 10 := by
  have : ∀ m : Fin 16, Lib0.hx m.val ≠ 10 := by decide
  exact this ⟨n, h⟩
theorem hex_nl : ∀ l : List UInt8, (Lib0.hexL l).count 10 = 0
  | [] => rfl
  | c :: l => by
    have h := c.toNat_lt
    have e : Lib0.hexL (c :: l) = [Lib0.hx (c.toNat / 16), Lib0.hx (c.toNat % 16)] ++ Lib0.hexL l := by simp [Lib0.hexL]
    rw [e, List.count_append, hex_nl l, List.count_cons_of_ne (hx_ne _ (by omega)), List.count_cons_of_ne (hx_ne _ (by omega))]
    rfl
theorem rep_nl : ∀ n, (Lib.repeatL [32, 32] n).count (10 : UInt8) = 0
  | 0 => rfl
  | n + 1 => by
    show (([32, 32] : List UInt8) ++ Lib.repeatL [32, 32] n).count 10 = 0
    rw [List.count_append, rep_nl n]
    rfl
theorem line_nl (d : Nat) (t : Int) (v : ByteArray) : (lnE d t v).count 10 = 1 := by
  have h1 : (sgn t).count 10 = 0 := by
    unfold sgn
    split
    · exact hex_nl _
    · rfl
  have h2 : (vlB v).count 10 = 0 := by
    unfold vlB
    split
    · rfl
    · rw [List.count_cons_of_ne (by decide)]; exact hex_nl _
  unfold lnE
  rw [List.count_append, List.count_append, List.count_append, rep_nl, h1, h2]
  rfl
theorem print_nl : ∀ l : List El, (prS l).count 10 = l.length
  | [] => rfl
  | x :: l => by
    show (lnE x.1 x.2.tag x.2.val ++ prS l).count 10 = _
    rw [List.count_append, line_nl, print_nl l, List.length_cons]
    omega
theorem prS_len : ∀ l : List El, (∀ x ∈ l, x.1 ≤ 1000000 ∧ x.2.val.size ≤ 1048576) → (prS l).length ≤ 4194304 * l.length
  | [], _ => by simp [prS]
  | x :: l, h => by
    have h1 := h x (by simp)
    have h2 := prS_len l (fun y hy => h y (by simp [hy]))
    have h3 := lnE_len x.1 x.2.tag x.2.val h1.1 h1.2
    show (lnE x.1 x.2.tag x.2.val ++ prS l).length ≤ _
    rw [List.length_append, List.length_cons]
    omega
theorem nl_take (s : ByteArray) (k : Nat) (h : k < s.size) : (s.data.toList.take (k + 1)).count 10 = (s.data.toList.take k).count 10 + (if s[k] = 10 then 1 else 0) := by
  rw [Lib0.take_snoc s k h, List.count_append]
  congr 1
  rw [List.count_cons, List.count_nil]
  simp
/-- the law of a range over a function of two, one of which is meant -/
theorem range2 {α : Type} {F : Fence} {n : Nat} {P : Program} {g : Operand} {p p' : Tmp} {assign body : Code} {Q : Exit → Act → World → Prop} {a : Act} {w : World}
    (hro : F.round = none) (h1 : 1 ≤ n) {gf : Nat} {lb : Array Value} (hg : a.eval g = .func (.func gf) #[] lb) (hFg : F.fn gf) (eg : ∀ args w, (callFunc gf args).run P w = .ok (.enter gf args) w)
    {v u : α → Value} {Kp : World → World → Prop} {S Sp : List α → Prop} {N : Nat} {w0 : World} (hseq : SeqStopsK F (n - 1) P gf lb (fun x => #[v x, u x]) Kp S Sp N w0)
    (hKt : ∀ {A B C : World}, Kp A B → Kp B C → Kp A C) (hKb : ∀ (W : World) (l : Nat) (o o' : Obj), w.heap.size ≤ l → W.heap[l]? = some o → o.isCells = false → o.isWalk = false → Kp W (W.putObj l o')) (hb0 : Below w0.heap.size w0 w)
    (q : Nat) (I : List α → World → Prop) (Ix : Code → List α → World → Prop) (hI : OwnFrom w.heap.size I) (hIx : ∀ c, OwnFrom w.heap.size (Ix c)) (h0 : I [] w)
    (hassign : ∀ (l : Nat) (x : α) (W : World) (K : Act → World → Prop), K { tmps := ((a.tmps.setIfInBounds p (v x)).setIfInBounds p' (u x)).setIfInBounds q (v x), defers := [] } W →
      assign.wpIn (F.inRound l) (n - 1 - 1) P (Exit.then K (fun _ _ _ => False)) { tmps := (a.tmps.setIfInBounds p (v x)).setIfInBounds p' (u x), defers := [] } W)
    (hbody : ∀ (l : Nat) (pre : List α) (x : α) (W : World), I pre W → pre.length < N → body.wpIn (F.inRound l) (n - 1 - 1) P (ownPostK Kp I Ix (pre ++ [x]) W) { tmps := ((a.tmps.setIfInBounds p (v x)).setIfInBounds p' (u x)).setIfInBounds q (v x), defers := [] } W)
    (hdone : ∀ (D : Nat) (xs : List α) (W : World), w.heap.size ≤ D → S xs → I xs W → W.heap[D]? = some (.deferred (some [])) → Q .normal { a with defers := { target := .collected D, args := #[] } :: a.defers } W)
    (hstop : ∀ (D : Nat) (c : Code) (pre : List α) (W : World), w.heap.size ≤ D → Sp pre → Ix c pre W → W.heap[D]? = some (.deferred (some [])) → c.wpIn F n P Q { a with defers := { target := .collected D, args := #[] } :: a.defers } W) :
    (Code.rangeFunc g #[p, p'] assign body).wpIn F n P Q a w :=
  wpIn_rangeFunc_ownF hro h1 hg hFg eg hseq hKt hKb hb0 (fun _ => rfl) I Ix hI hIx h0 (fun x => { tmps := ((a.tmps.setIfInBounds p (v x)).setIfInBounds p' (u x)).setIfInBounds q (v x), defers := [] }) (fun l x W K hK => by simpa using hassign l x W K hK) hbody hdone hstop
end Go.Proofs.Ytgidjfhlooggkaa.Pe
