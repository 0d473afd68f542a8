/- Nodes are printed. -/
import Derived.Test.YtgidjfhlooggkaaBd
import Derived.Test.YtgidjfhlooggkaaNb
namespace Go.Proofs.Ytgidjfhlooggkaa.Pn
set_option linter.unusedVariables false
set_option linter.unusedSimpArgs false
open Go.RowKit Go.Shelf Kb Ga Gb Gc Nt Wk Ls Wr Bd
attribute [local go_sem] Oper.semAt_some
def prS (l : List El) : List UInt8 := l.flatMap fun x => lnE x.1 x.2.tag x.2.val
theorem prS_snoc (a : List El) (x : El) : prS (a ++ [x]) = prS a ++ lnE x.1 x.2.tag x.2.val := by simp [prS]
theorem steps_ge : ∀ (d : Nat) (ts : List AT), ∀ x ∈ steps d ts, d ≤ x.1
  | d, [], x, hx => by simp [steps] at hx
  | d, .mk t v kv ks :: ts, x, hx => by
    simp only [steps, List.mem_cons, List.mem_append] at hx
    rcases hx with rfl | hx | hx
    · exact Nat.le_refl _
    · have := steps_ge (d + 1) ks x hx; omega
    · exact steps_ge d ts x hx
theorem lnE_len (d : Nat) (t : Int) (v : ByteArray) (hd : d ≤ 1000000) (hv : v.size ≤ 1048576) : (lnE d t v).length ≤ 4194304 := by
  have h1 := sgn_len t
  have h2 := vlB_len v hv
  unfold lnE
  simp only [List.length_append, repeat_len, List.length_cons, List.length_nil]
  omega
theorem is_on {W W' : World} {row : Option Nat} {B b : Nat} {l : List UInt8} (h : Is W B b l) (hg : W.grownBy W' row) (hr : ∀ r, row = some r → ∃ o : Obj, W.heap[r]? = some o ∧ o.isCells = false) : Is W' B b l := by
  obtain ⟨p, v, h1, h2, h3, h4⟩ := h
  exact ⟨p, v, cells_on h1 hg hr, h2, Nb.owns_on h3 hg hr, h4⟩
set_option maxRecDepth 100000 in
set_option maxHeartbeats 1600000 in
theorem print_any (ts : List AT) (v : Value) (w : World) (hr : Rdn w v ts) (hd : dep ts ≤ 999999) (hL : (steps 1 ts).length ≤ 1000000) (hne : ts ≠ []) :
    Calls Try.prog 26 #[v] w fun e w' => e = .returned (.string ⟨(prS (steps 1 ts)).toArray⟩) ∧ Below w.heap.size w w' := by
  obtain ⟨o, cap, e, hN, -⟩ := hr.row
  obtain ⟨N, HN⟩ : ∃ N : Nat, Hid (ts.length = N) := ⟨_, rfl⟩
  rw [HN.out] at e
  subst e
  have HNE : Hid (prS (steps 1 ts) ≠ []) := by
    cases ts with
    | nil => exact absurd rfl hne
    | cons a r => cases a; intro h; simp [steps, prS, lnE] at h
  obtain ⟨R, HR⟩ : ∃ R, Hid (prS (steps 1 ts) = R) := ⟨_, rfl⟩
  rw [HR.out] at HNE
  rw [HR.out]
  refine (callsIn_wide (n := 8)).1 ?_
  refine callsIn_of_wp_marks Try.func26 rfl trivial ?_ rfl
  simp only [Try.ntmps26, List.size_toArray, List.length_cons, List.length_nil, Nat.reduceAdd, Nat.reduceSub, Array.replicate_succ, Array.replicate_zero, List.push_toArray, List.append_toArray, List.nil_append, List.cons_append]
  refine wpIn_wide.2 ?_
  go_wp2_with fail
  have M0 := h1_0 w (.cells #[.pointer none, .slice none 0 0] 87)
  have B0 := below_one w (.cells #[.pointer none, .slice none 0 0] 87)
  have s0 : (w.alloc (.cells #[.pointer none, .slice none 0 0] 87)).heap.size = w.heap.size + 1 := by simp
  generalize w.alloc (.cells #[.pointer none, .slice none 0 0] 87) = W at *
  refine (all_any o N cap W).mono ?_
  rintro _ V ⟨b, rfl, hbV, hV, hbW⟩
  have hB := keepB B0 hV
  replace M0 := kept hV M0
  clear B0 hV
  have I0 : Is V w.heap.size w.heap.size [] := ⟨_, _, M0, .inl rfl, World.ownsRow_nil _ _ _ _, Nat.le_refl _⟩
  go_wp2_with fail
  have hbb : b = w.heap.size + 1 := by rw [hbW, s0]
  have hV3 : w.heap.size + 1 < V.heap.size := by rw [← hbb]; exact (Array.getElem?_eq_some_iff.1 hbV).1
  rw [hbb] at hbV
  have hsr := steps_read 1 ts hr.kids
  have hsd := steps_dep 1 ts
  have hsg := steps_ge 1 ts
  clear hbW s0 hbb
  refine (wpIn_wide (n := 8)).1 ?_
  refine wpIn_rangeFunc_ownH rfl (by omega) (gf := 48) (lb := #[.pointer (some ⟨w.heap.size + 1, 0, none⟩)]) rfl trivial (enters_of Try.func48 (by kernel_rfl) rfl)
    (goes_all hr hd _ V hB hbV) kn_t (kn_b hB.size) (Below.refl _ _) (fun _ => rfl)
    (fun pre X => Is X w.heap.size w.heap.size (prS (pre.map (·.1))) ∧ (prS (pre.map (·.1))).length ≤ 4194304 * pre.length ∧ Below w.heap.size w X)
    (fun c pre X => False)
    (fun s X Y row hs hg hrow => ⟨is_on hs.1 hg (fun r e => (hrow r e).2), hs.2.1, hs.2.2.grown hg hs.2.2.size (fun k e => by have := (hrow k e).1; omega)⟩)
    (fun c s X Y row hs hg hrow => hs)
    ⟨I0, by simp [prS], hB⟩
    (fun x a' X => ∃ blk, a' = { tmps := #[.slice o N cap, undef, .string ⟨#[]⟩, .pointer (some ⟨w.heap.size, 0, none⟩), .int .i64 (x.1.1 : Int), .pointer (some ⟨blk, 0, none⟩), .slice o N cap, fv (w.heap.size + 1), .int .i64 (x.1.1 : Int), .agg #[.int .i64 x.1.2.tag, .string x.1.2.val, x.1.2.kv], undef, undef, undef, undef], defers := [] } ∧ X.heap[blk]? = some (.cells #[.int .i64 x.1.2.tag, .string x.1.2.val, x.1.2.kv] 40))
    (fun x a' s X Y row hs hg hrow => by
      obtain ⟨blk, e, hx⟩ := hs
      exact ⟨blk, e, cells_on hx hg (fun r e => (hrow r e).2)⟩)
    ?assign ?body ?done ?stop
  case assign =>
    rintro l pre ⟨⟨d, a⟩, hx⟩ X K hI hK
    obtain ⟨hI0, hI2, hI3⟩ := hI
    have hs := hsr _ hx
    cases a with
    | mk tag val kv ks =>
    simp only [AT.tag, AT.val, AT.kv, AT.kids] at hs hK
    simp only [enc, AT.tag, AT.val, AT.kv]
    obtain ⟨ko, kc, rfl⟩ := kv_form hs.1.row
    have b1 := below_one X (.cells #[.int .i64 tag, .string val, .slice ko ks.length kc] 40)
    have n1 := h1_0 X (.cells #[.int .i64 tag, .string val, .slice ko ks.length kc] 40)
    have K1 := hK { tmps := #[.slice o N cap, undef, .string ⟨#[]⟩, .pointer (some ⟨w.heap.size, 0, none⟩), .int .i64 (d : Int), .pointer (some ⟨X.heap.size, 0, none⟩), .slice o N cap, fv (w.heap.size + 1), .int .i64 (d : Int), .agg #[.int .i64 tag, .string val, .slice ko ks.length kc], undef, undef, undef, undef], defers := [] } _ (kf_below _ b1) (kn_below b1 hI3.size) ⟨hI0.below b1, hI2, keepB hI3 b1⟩ ⟨_, rfl, n1⟩
    clear hI0 hI2 hI3 hs hK b1 n1 hsr hsd hsg M0 hbV I0
    generalize ks.length = kl at *
    gi_wp2
    exact K1
  case body =>
    rintro l pre x a' X hl - ⟨hI0, hI2, hI3⟩ ⟨blk, ea, hblk⟩ hpl
    have hs := hsr _ x.2
    have hdd := hsd _ x.2
    have hdg := hsg _ x.2
    obtain ⟨E, HE⟩ : ∃ E, Hid (prS (pre.map (·.1)) = E) := ⟨_, rfl⟩
    rw [HE.out] at hI0 hI2
    have HE2 : Hid (prS ((pre ++ [x]).map (·.1)) = E ++ lnE x.1.1 x.1.2.tag x.1.2.val) := by
      show _ = _
      rw [List.map_append, List.map_cons, List.map_nil, prS_snoc, HE.out]
    have HLn : Hid ((E ++ lnE x.1.1 x.1.2.tag x.1.2.val).length ≤ 4194304 * (pre ++ [x]).length) := by
      show _ ≤ _
      have := lnE_len x.1.1 x.1.2.tag x.1.2.val (by omega) hs.2.1
      rw [List.length_append, List.length_append]
      simp only [List.length_cons, List.length_nil]
      omega
    have hE : E.length ≤ 17592186044416 := by omega
    generalize pre ++ [x] = pre2 at *
    clear hpl hsr hsd hsg HR hbV M0 HE pre hI2 I0
    obtain ⟨⟨d, a⟩, hx⟩ := x
    cases a with
    | mk tag val kv ks =>
    simp only [AT.tag, AT.val, AT.kv, AT.kids] at hs ea hblk HE2 HLn hdd hdg
    subst ea
    obtain ⟨ko, kc, rfl⟩ := kv_form hs.1.row
    obtain ⟨KL, HKL⟩ : ∃ KL : Nat, Hid (ks.length = KL) := ⟨_, rfl⟩
    rw [HKL.out] at hblk ⊢
    obtain ⟨d0, d1, d2⟩ := cell3 hblk
    have cc := line_any hI0 d tag val ko KL kc (by omega) (by omega) hs.2.2.2 hs.2.1 hE
    clear hx hs HKL
    gi_wp2_with (refine ⟨trivial, ?_⟩; gi_at_call 50; refine (CallsIn.inRound l (callsIn_wide.2 cc)).mono ?_; rintro e y ⟨rfl, iy, cy⟩)
    exact ⟨ch_kf _ cy, ch_kn cy, by rw [HE2.out]; exact iy, by rw [HE2.out]; exact HLn.out, hI3.trans cy.1⟩
  case done =>
    rintro D xs Y hD hS ⟨h0, h2, h3⟩ hK
    have HE : Hid (prS (xs.map (·.1)) = R) := by show _ = _; rw [← HR.out, hS]
    rw [HE.out] at h0
    have bs := string_any h0 HNE.out
    clear hS h0 h2 hsr hsd hsg M0 hbV HR HE I0
    go_wp2_with fail
    refine bs.mono ?_
    rintro _ Z ⟨rfl, hZ⟩
    have hK2 := hZ.2 D _ hK (fun c fr e => by cases e) (fun c fr e => by cases e)
    have h4 := h3.trans hZ.1
    go_wp2
    refine ⟨by simp, .inl ⟨_, _, rfl, run_takeDeferred hK2, ?_⟩⟩
    refine ⟨.string ⟨R.toArray⟩, ?_, rfl, h4.trans (belowK_b (w := w) (Nat.le_refl _) _ D _ _ (by omega) hK2 rfl rfl)⟩
    simp [results, Try.f26, go_sem]
  case stop =>
    rintro D c pre Y hD hS hF hK
    exact hF.elim
end Go.Proofs.Ytgidjfhlooggkaa.Pn
