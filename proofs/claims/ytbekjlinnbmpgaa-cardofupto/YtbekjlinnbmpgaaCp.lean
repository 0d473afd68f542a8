/- Messages: Copy. -/
import Derived.Test.YtbekjlinnbmpgaaHl
namespace Go.Proofs.Ytbekjlinnbmpgaa.Cp
set_option linter.unusedVariables false
set_option linter.unusedSimpArgs false
open Go.RowKit Lib0 Kp Kb Kd Kt Ks Kw Ku Kx Fs Nd Nq Nr Nl Sn Tn
open Tw (infoF)
/-- the first k fields, with some kids -/
def Cop (ts : List Tr) (k : Nat) (xs : List Value) : Prop := xs.length = k * 3 ∧ ∀ i (h : i < ts.length), i < k → ∃ (tag : Int) (val : ByteArray) (kids : List Tr) (o : Option Addr) (n c : Nat), ts[i] = .mk tag val kids ∧ xs[3 * i]? = some (.int .i64 tag) ∧ xs[3 * i + 1]? = some (.string val) ∧ xs[3 * i + 2]? = some (.slice o n c)
theorem cop_snoc {ts : List Tr} {k : Nat} {xs : List Value} {tag : Int} {val : ByteArray} {kids : List Tr} {o : Option Addr} {n c : Nat} (h : Cop ts k xs) (hk : k < ts.length) (e : ts[k] = .mk tag val kids) : Cop ts (k + 1) (xs ++ [.int .i64 tag, .string val, .slice o n c]) := by
  refine ⟨by rw [List.length_append, h.1]; simp only [List.length_cons, List.length_nil]; omega, fun i hi hik => ?_⟩
  have hl := h.1
  by_cases e1 : i = k
  · subst e1
    refine ⟨tag, val, kids, o, n, c, e, ?_, ?_, ?_⟩
    · rw [List.getElem?_append_right (by omega), show 3 * i - xs.length = 0 by omega]; rfl
    · rw [List.getElem?_append_right (by omega), show 3 * i + 1 - xs.length = 1 by omega]; rfl
    · rw [List.getElem?_append_right (by omega), show 3 * i + 2 - xs.length = 2 by omega]; rfl
  · obtain ⟨tag', val', kids', o', n', c', h0, h1, h2, h3⟩ := h.2 i hi (by omega)
    refine ⟨tag', val', kids', o', n', c', h0, ?_, ?_, ?_⟩
    · rw [List.getElem?_append_left (by omega)]; exact h1
    · rw [List.getElem?_append_left (by omega)]; exact h2
    · rw [List.getElem?_append_left (by omega)]; exact h3
def CopyP (w : World) (mti : ByteArray) (ts : List Tr) : Ending → World → Prop := fun e w' => ∃ (u : Value) (xs : List Value) (B : Nat), e = .returned (.agg #[.string mti, u]) ∧ w'.ownsRow B 32 3 u ts.length xs ∧ Cop ts ts.length xs ∧ Below w.heap.size w w'
theorem own_set {w : World} {base e size n g o : Nat} {v x : Value} {xs : List Value} (h : w.ownsRow base e size v n xs) (hg : g < base) : (w.setCell ⟨g, o, none⟩ x).ownsRow base e size v n xs := by
  refine ⟨h.1, ?_⟩
  rcases h.2 with h0 | ⟨b, cap, cur, h1, h2, h3, h4⟩
  · exact Or.inl h0
  · exact Or.inr ⟨b, cap, cur, h1, h2, (Nr.setCell_ne (by omega) o x).trans h3, h4⟩
theorem own_drew {w : World} {base e size n : Nat} {v : Value} {xs : List Value} (h : w.ownsRow base e size v n xs) : w.drew.ownsRow base e size v n xs := h
set_option maxRecDepth 100000 in
set_option maxHeartbeats 3200000 in
theorem copy_any (mti : ByteArray) (ts : List Tr) (v : Value) (w : World) (hz : Lien w v ts) :
    Calls Try.prog 12 #[.agg #[.string mti, v]] w (CopyP w mti ts) := by
  obtain ⟨i0, hi, hz0, hz1, hz2⟩ := info_parts infoF
  obtain ⟨o, cap, rfl, hl, hc⟩ := hz
  obtain ⟨N, HN, hN⟩ : ∃ N : Nat, Hid (ts.length = N) ∧ N ≤ 1048576 := ⟨_, rfl, hl⟩
  have HC0 : Hid (ts ≠ [] → ∃ a, o = some a ∧ laid w a 0 ts) := hc
  clear hc hl
  rw [HN.out]
  go_enter Try.func12, Try.ntmps12
  go_wp2
  have Mb0 := h3_0 w (.cells #[.string mti, .slice o N cap] 24) (.cells #[.string ⟨#[]⟩, .slice none 0 0] 24) (.cells #[.string mti, .slice none 0 0] 24)
  have Mr0 := h3_1 w (.cells #[.string mti, .slice o N cap] 24) (.cells #[.string ⟨#[]⟩, .slice none 0 0] 24) (.cells #[.string mti, .slice none 0 0] 24)
  have Mo0 := h3_2 w (.cells #[.string mti, .slice o N cap] 24) (.cells #[.string ⟨#[]⟩, .slice none 0 0] 24) (.cells #[.string mti, .slice none 0 0] 24)
  have Bw := below_three w (.cells #[.string mti, .slice o N cap] 24) (.cells #[.string ⟨#[]⟩, .slice none 0 0] 24) (.cells #[.string mti, .slice none 0 0] 24)
  have sG : (((w.alloc (.cells #[.string mti, .slice o N cap] 24)).alloc (.cells #[.string ⟨#[]⟩, .slice none 0 0] 24)).alloc (.cells #[.string mti, .slice none 0 0] 24)).heap.size = w.heap.size + 3 := by simp
  generalize ((w.alloc (.cells #[.string mti, .slice o N cap] 24)).alloc (.cells #[.string ⟨#[]⟩, .slice none 0 0] 24)).alloc (.cells #[.string mti, .slice none 0 0] 24) = x3 at *
  obtain ⟨ob, Hob⟩ : ∃ ob, Hid (w.heap.size + 1 + 1 = ob) := ⟨_, rfl⟩
  obtain ⟨rs, Hrs⟩ : ∃ rs, Hid (w.heap.size + 1 = rs) := ⟨_, rfl⟩
  obtain ⟨bx, Hbx⟩ : ∃ bx, Hid (w.heap.size = bx) := ⟨_, rfl⟩
  have Wd : Hid (w.heap.size + 1 + 1 = ob ∧ w.heap.size + 1 = rs ∧ w.heap.size = bx ∧ x3.heap.size = ob + 1) := ⟨Hob.out, Hrs.out, Hbx.out, by have := Hob.out; omega⟩
  have HC : Hid (ts ≠ [] → ∃ a, o = some a ∧ laid w a 0 ts) := HC0
  rw [Hob.out] at Mo0
  rw [Hrs.out] at Mr0
  rw [Hbx.out] at Mb0
  rw [show w.heap.size + 1 + 1 = ob from Hob.out, show w.heap.size + 1 = rs from Hrs.out, show w.heap.size = bx from Hbx.out]
  clear Hob Hrs Hbx sG HC0
  go_loopw [4] (fun i wr => ∃ (k : Nat) (u : Value) (xs : List Value), k ≤ N ∧ i = .int .i64 (k : Int) ∧ wr.heap[ob]? = some (.cells #[.string mti, u] 24) ∧ wr.ownsRow (ob + 1) 32 3 u k xs ∧ Cop ts k xs ∧ wr.heap[bx]? = some (.cells #[.string mti, .slice o N cap] 24) ∧ wr.heap[rs]? = some (.cells #[.string ⟨#[]⟩, .slice none 0 0] 24) ∧ Below w.heap.size w wr ∧ ob + 1 ≤ wr.heap.size) (fun i _ => N + 1 - (intOf i).toNat)
  case atStart => exact ⟨0, .slice none 0 0, [], Nat.zero_le _, rfl, Mo0, World.ownsRow_nil _ _ _ _, ⟨rfl, fun i _ h => by omega⟩, Mb0, Mr0, Bw, by have := Wd.out; omega⟩
  case round =>
    obtain ⟨k, u, xs, hk, rfl, mo, hown, hcop, mb, mr, bw, hsz⟩ := hrel
    obtain ⟨uo, un, uc, rfl⟩ := own_slice hown
    obtain ⟨bm0, bm1, _, _⟩ := held2 (Below.refl _ _) mb
    obtain ⟨om0, om1, of0, of1⟩ := held2 (Below.refl _ _) mo
    by_cases hlt : k < N
    · have q0 : (0 : Int) ≤ (k : Int) := by omega
      have q1 : (k : Int) < (N : Int) := by omega
      have hkt : k < ts.length := by rw [HN.out]; exact hlt
      obtain ⟨a, rfl, hla⟩ := HC.out (by intro hh; rw [hh] at hkt; simp at hkt)
      obtain ⟨tag, val, kids, ko, kc, et, d0, d1, d2, hv, hkd⟩ := laid_at ts 0 k hkt hla
      rw [Nat.zero_add] at d0 d1 d2
      have hE : (a.add (k * 3)).block < w.heap.size := World.block_lt_of_cell? w _ d0
      have PK : Hid (Calls Try.prog 25 #[.slice ko kids.length kc] wr.drew (TwinsP wr.drew)) := twins_any _ kids (Nat.le_refl _) (.slice ko kids.length kc) wr.drew (lien_below hkd bw.drew)
      have wd := Wd.out
      have hob1 : ob ≠ bx := by omega
      have hob2 : ob ≠ (a.add (k * 3)).block := by omega
      have KD : Hid (∀ y, Below w.heap.size w y → y.cell? (a.add (k * 3)) = some (.int .i64 tag) ∧ y.cell? ⟨(a.add (k * 3)).block, (a.add (k * 3)).off + 1, none⟩ = some (.string val) ∧ y.cell? ⟨(a.add (k * 3)).block, (a.add (k * 3)).off + 2, none⟩ = some (.slice ko kids.length kc)) :=
        (fun y hy => ⟨(hy.cell hE).trans d0, (hy.cell (p := ⟨(a.add (k * 3)).block, (a.add (k * 3)).off + 1, none⟩) hE).trans d1, (hy.cell (p := ⟨(a.add (k * 3)).block, (a.add (k * 3)).off + 2, none⟩) hE).trans d2⟩ : ∀ y, Below w.heap.size w y → y.cell? (a.add (k * 3)) = some (.int .i64 tag) ∧ y.cell? ⟨(a.add (k * 3)).block, (a.add (k * 3)).off + 1, none⟩ = some (.string val) ∧ y.cell? ⟨(a.add (k * 3)).block, (a.add (k * 3)).off + 2, none⟩ = some (.slice ko kids.length kc))
      obtain ⟨d0', d1', d2'⟩ := KD.out wr bw
      have COP : Hid (∀ o2 n2 c2, Cop ts (k + 1) (xs ++ [.int .i64 tag, .string val, .slice o2 n2 c2])) := (fun o2 n2 c2 => cop_snoc hcop hkt et : ∀ o2 n2 c2, Cop ts (k + 1) (xs ++ [.int .i64 tag, .string val, .slice o2 n2 c2]))
      have WB : Hid (w.heap.size ≤ ob + 1) := (by omega : w.heap.size ≤ ob + 1)
      generalize kids.length = kl at *
      clear hla hkd et d0 d1 d2 hcop wd hkt hv
      go_wp2_with fail
      have hS : wr.drew.cell? ⟨ob, 1, none⟩ = some (.slice uo un uc) ∧ wr.drew.cell? ⟨bx, 1, none⟩ = some (.slice (some a) N cap) ∧ wr.drew.cell? (a.add (k * 3)) = some (.int .i64 tag) ∧ wr.drew.cell? ⟨(a.add (k * 3)).block, (a.add (k * 3)).off + 1, none⟩ = some (.string val) ∧ wr.drew.cell? ⟨(a.add (k * 3)).block, (a.add (k * 3)).off + 2, none⟩ = some (.slice ko kl kc) := ⟨om1, bm1, d0', d1', d2'⟩
      refine Hl.region_late1 19 6 (S := fun w' => w'.cell? ⟨ob, 1, none⟩ = some (.slice uo un uc) ∧ w'.cell? ⟨bx, 1, none⟩ = some (.slice (some a) N cap) ∧ w'.cell? (a.add (k * 3)) = some (.int .i64 tag) ∧ w'.cell? ⟨(a.add (k * 3)).block, (a.add (k * 3)).off + 1, none⟩ = some (.string val) ∧ w'.cell? ⟨(a.add (k * 3)).block, (a.add (k * 3)).off + 2, none⟩ = some (.slice ko kl kc)) (late := fun j => j == 0 || j == 23 || j == 24 || j == 25) (vp := .pointer (some ⟨ob, 1, none⟩)) (by kernel_rfl) rfl (by kernel_rfl) rfl (by kernel_rfl) (by kernel_rfl) rfl (Or.inl ⟨rfl, fun w _ => by go_simp⟩) (by kernel_rfl) hS ?_
      iterate 19 (refine Hl.wpPre_step _ rfl (fun w hw => by obtain ⟨s0, s1, s2, s3, s4⟩ := hw; go_simp; rfl) ?_)
      intro _
      refine Hl.wpAnyE_alone (i := 20) (by kernel_rfl) (Hl.wpOp_step rfl rfl ?_)
      unfold Oper.wp
      go_simp
      refine PK.out.mono ?_
      rintro e y ⟨o2, n2, c2, rfl, hy⟩
      have BY : Below wr.heap.size wr y := ((Below.refl _ wr).drew).trans hy
      have BW : Below w.heap.size w y := keepB bw BY
      obtain ⟨j0, j1, j2⟩ := KD.out y BW
      have hown2 := own_below hown BY
      have mb2 := kept BY mb
      have mo2 := kept BY mo
      have mr2 := kept BY mr
      obtain ⟨_, jb, _, _⟩ := held2 (Below.refl _ _) mb2
      obtain ⟨_, jo, _, jf⟩ := held2 (Below.refl _ _) mo2
      refine ⟨⟨jo, jb, j0, j1, j2⟩, ?_⟩
      refine Hl.wpAnyE_alone (i := 21) (by kernel_rfl) (Hl.wpOp_value rfl rfl (by go_simp; rfl) ⟨fun _ => ⟨jo, jb, j0, j1, j2⟩, ?_⟩)
      have B1 : Below y.heap.size y (y.alloc (.cells #[.int .i64 tag, .string val, .slice o2 n2 c2] 32)) := below_one _ _
      have BY1 := keepB BY B1
      have mb3 := kept BY1 mb
      have mo3 := kept BY1 mo
      obtain ⟨g0, g1, g2⟩ := KD.out _ (keepB bw BY1)
      obtain ⟨_, gb, _, _⟩ := held2 (Below.refl _ _) mb3
      obtain ⟨_, go, _, gf⟩ := held2 (Below.refl _ _) mo3
      refine Hl.wpAnyE_alone (i := 22) (by kernel_rfl) (Hl.wpOp_value (w' := y.alloc (.cells #[.int .i64 tag, .string val, .slice o2 n2 c2] 32)) (v := .slice (some ⟨y.heap.size, 0, none⟩) 1 1) rfl rfl (by go_simp) ⟨fun _ => ⟨go, gb, g0, g1, g2⟩, ?_⟩)
      refine Hl.wpAnyE_alone (i := 23) (by kernel_rfl) (Hl.wpOp_step rfl rfl ?_)
      refine wp_append_lies _ _ _ _ (by rfl) (ob + 1) 32 i0 _ 3 48 Try.underlying22 hi hz0 hz1 hz2 rfl (by omega) (.slice uo un uc) k _ (by rfl) (hown2.alloc _) ⟨y.heap.size, 0, none⟩ 1 1 _ (by rfl) (by rfl) (World.news_of_block (heap_alloc_new y _)) (by simp [Value.oneCell']) (by omega) (by unfold maxLen; omega) (by omega) (by have := BY.size; simp; omega) (y.heap.size + 1) (by simp) ?_
      intro gg cg w1 hown1 hgrow hat hlt1
      have B3 : Below (ob + 1) y w1 := below_app0 (Below.refl _ _) (by have := BY.size; omega) hown2 hgrow
      have BW1 : Below w.heap.size w w1 := BW.trans (B3.mono WB.out)
      have lo := (B3.cell (p := ⟨ob, 1, none⟩) (by show ob < ob + 1; omega)).trans jo
      have lf := (B3.frozen (p := ⟨ob, 1, none⟩) (by show ob < ob + 1; omega)).trans jf
      refine ⟨fun h => absurd h (by decide), ?_⟩
      refine Hl.wpAnyE_alone (i := 24) (by kernel_rfl) (Hl.wpOp_value (w' := w1) (v := .pointer (some ⟨ob, 1, none⟩)) rfl rfl (by go_simp) ⟨fun h => absurd h (by decide), ?_⟩)
      refine Hl.wpAnyE_alone (i := 25) (by kernel_rfl) (Hl.wpOp_step rfl rfl ?_)
      generalize HK : (fun (a' : Act) (w' : World) => _ ∧ _) = K
      unfold Oper.wp
      go_simp
      subst HK
      refine ⟨fun h => absurd h (by decide), by kernel_rfl, NoPanic.normal ?_⟩
      go_wp2
      have wd := Wd.out
      have hs1 : ob + 1 ≤ w1.heap.size := Nat.le_trans (Nat.le_trans hsz BY.size) B3.size
      have n0 := (B3.block ob (by omega)).trans mo2
      have n1 := (B3.block bx (by omega)).trans mb2
      have n2' := (B3.block rs (by omega)).trans mr2
      exact ⟨⟨k + 1, .slice (some ⟨gg, 0, none⟩) (k + 1) cg, _, by omega, by simp, Nr.setCell_heap n0 1 _, own_set hown1 (by omega), COP.out o2 n2 c2, (Nr.setCell_ne (show ob ≠ bx by omega) 1 _).trans n1, (Nr.setCell_ne (show ob ≠ rs by omega) 1 _).trans n2', Nr.below_setCell BW1 (by omega) 1 _, by simpa [World.setCell] using hs1⟩, by simp [intOf]; omega⟩
    · have q1 : ¬ (k : Int) < (N : Int) := by omega
      obtain rfl : k = N := by omega
      obtain ⟨r0, r1, rf0, rf1⟩ := held2 (Below.refl _ _) mr
      have wd := Wd.out
      have hkz : k = ts.length := HN.out.symm
      go_wp2
      have k1 : ((wr.setCell ⟨rs, 0, none⟩ (.string mti)).setCell ⟨rs, 1, none⟩ (.slice uo un uc)).heap[rs]? = some (.cells #[.string mti, .slice uo un uc] 24) := Nr.setCell_heap (Nr.setCell_heap mr 0 (.string mti)) 1 (.slice uo un uc)
      have k2 := own_set (o := 1) (x := .slice uo un uc) (own_set (o := 0) (x := .string mti) hown (show rs < ob + 1 by omega)) (show rs < ob + 1 by omega)
      have k3 : Below w.heap.size w ((wr.setCell ⟨rs, 0, none⟩ (.string mti)).setCell ⟨rs, 1, none⟩ (.slice uo un uc)) := Nr.below_setCell (Nr.below_setCell bw (by omega) 0 _) (by omega) 1 _
      obtain ⟨z0, z1, _, _⟩ := held2 (Below.refl _ _) k1
      exact bodyPost_ret (v := .agg #[.string mti, .slice uo un uc]) (by simp [results, Try.results12, go_sem, z0, z1]) rfl ⟨.slice uo un uc, xs, ob + 1, rfl, hkz ▸ k2, hkz ▸ hcop, k3⟩
end Go.Proofs.Ytbekjlinnbmpgaa.Cp
