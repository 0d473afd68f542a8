/- MoneyShares: the law out of the contracts; the frame of the row. -/
import Derived.Test.YtaacocliclibgaaRows
import Derived.WalkKit
import Derived.ProofKit
import Derived.OpenShut
import Derived.ShutString
import Derived.ChangeOld
import Derived.Below
import Derived.JoinedCond
import Derived.Carry
import Derived.SizedLaws
import Derived.Test.YtaacocliclibgaaBu
import Derived.Test.YtaacocliclibgaaPick
namespace Go.Proofs.Ytaacocliclibgaa.moneyShares
open Go.ChangeShapes Go.WideShapes Go.ChangeAt Go.RowKit
open Go.ChangeMaps (open_string shut_string)
set_option linter.unusedVariables false

theorem own : ownKnob Try.prog.godebug = none := by kernel_rfl

theorem lies3 (w : World) : Sl.Lies (w.alloc (.cells #[.int .i64 2, .int .i64 1, .int .i64 2] 3)) (.slice (some ⟨w.heap.size, 0, none⟩) 3 3) [2, 1, 2] := by
  refine Or.inr ⟨_, 3, rfl, by decide, by decide, fun i hi => ?_, by decide⟩
  rw [Ln.add0]
  refine Ln.cell_row (Kb.h1_0 w _) ?_
  match i, hi with
  | 0, _ => rfl
  | 1, _ => rfl
  | 2, _ => rfl
theorem own3 (w : World) : Bb.Own (w.alloc (.cells #[.int .i64 3, .int .i64 1, .int .i64 3] 3)) w.heap.size (.slice (some ⟨w.heap.size, 0, none⟩) 3 3) [3, 1, 3] :=
  ⟨rfl, .inr ⟨_, 3, _, rfl, Nat.le_refl _, Kb.h1_0 w _, by decide, by decide, rfl, rfl⟩⟩
theorem own_on {w y : World} {b b' : Nat} {v : Value} {z : List Int} (h : Bb.Own w b v z) (hb : Below w.heap.size w y) (hle : b' ≤ b) : Bb.Own y b' v z :=
  Bb.owns_base (Bb.owns_keep h fun p hp => hb.block p (h.lt p hp).2) hle
theorem map2 {F W : List (Value × List Int)} (h : F.map (·.2) = W.map (·.2)) (v v' : Value) (z : List Int) : (F ++ [(v, z)]).map (·.2) = (W ++ [(v', z)]).map (·.2) := by
  rw [List.map_append, List.map_append, h]; rfl
theorem map_len {F W : List (Value × List Int)} (h : F.map (·.2) = W.map (·.2)) : W.length = F.length := by
  have := congrArg List.length h; simpa using this.symm
theorem halt {p : Prop} (h : True → p) : p := h trivial
set_option maxRecDepth 100000 in
set_option maxHeartbeats 3200000 in
theorem walk (a0 : Int) (v1 : Value) (z1 : List Int) (a2 : Int) (a3 : Int) (w : World) (w0 : (Lit.int .i64 a0).wf = true) (w1 : Sl.Lies w v1 z1) (w2 : (Lit.int .i64 a2).wf = true) (w3 : (Lit.int .i64 a3).wf = true) (k1 : z1.length ≤ 1048576) :
    Calls Try.prog 4 #[.int .i64 a0, v1, .int .i64 a2, .int .i64 a3] w fun e w' => e = .returned (.bool true) ∧ Below w.heap.size w w' := by
  have hwf := Ow.lies_wf w1
  have a21 := (bounds_i64 w2).1
  have a22 := (bounds_i64 w2).2
  have HW3 : Hid ((Lit.int .i64 a3).wf = true) := w3
  obtain ⟨N, HN⟩ : ∃ N, Hid (z1.length = N) := ⟨_, rfl⟩
  obtain ⟨M, HM⟩ : ∃ M, Hid (N + 8 = M) := ⟨_, rfl⟩
  have hN : N ≤ 1048576 := by rw [← HN.out]; exact k1
  have j1 : (N : Int) ≤ 1048576 := by omega
  have j2 : (M : Int) ≤ 1048584 := by have := HM.out; omega
  have j3 : (N : Int) ≤ (M : Int) := by have := HM.out; omega
  have j4 : N ≤ M := by have := HM.out; omega
  have pl := Ln.lent_lies z1 v1 w w1 k1
  rw [HN.out, HM.out] at pl
  have HLA : Hid (∀ x, Below w.heap.size w x → Sl.Lies x v1 z1) := fun x hx => Sl.lies_below w1 hx
  have HLI : Hid (∀ x, Bc.Kp x [(w.heap.size, Obj.cells (Sl.inC M (Ln.lentF z1)) 3 (0, 0))] → Sl.Lies x (.slice (some ⟨w.heap.size, 0, none⟩) N M) z1) := fun x hx => by
    have h := hx _ (by simp : (w.heap.size, Obj.cells (Sl.inC M (Ln.lentF z1)) 3 (0, 0)) ∈ [(w.heap.size, Obj.cells (Sl.inC M (Ln.lentF z1)) 3 (0, 0))])
    have := Ln.lent_is (g := w.heap.size) (l := z1) (w := x) k1 hwf (by rw [HN.out, HM.out]; exact h)
    rw [HN.out, HM.out] at this
    exact this
  have HST : Hid (∀ x, Bc.Kp x [(w.heap.size, Obj.cells (Sl.inC M (Ln.lentF z1)) 3 (0, 0))] → Sl.Lies x v1 z1 → Calls Try.prog 15 #[.slice (some ⟨w.heap.size, 0, none⟩) N M, v1] x fun e w' => e = .returned (.bool true) ∧ Below x.heap.size x w') := fun x hx hl => by
    have h := hx _ (by simp : (w.heap.size, Obj.cells (Sl.inC M (Ln.lentF z1)) 3 (0, 0)) ∈ [(w.heap.size, Obj.cells (Sl.inC M (Ln.lentF z1)) 3 (0, 0))])
    have := Ln.still_lies z1 v1 w.heap.size x hl k1 (by rw [HN.out, HM.out]; exact h)
    rw [HN.out, HM.out] at this
    exact this
  have HWF : Hid (∀ x ∈ z1, (Lit.int .i64 x).wf = true) := hwf
  have hz7 : z1.length ≤ 1048700 := by omega
  clear w0 w1 w2 w3 hwf k1
  obtain ⟨E, HE⟩ : ∃ E, Hid (Sj.shE a0 z1 = E) := ⟨_, rfl⟩
  have HSH : Hid (∀ v x, Sl.Lies x v z1 → Calls Try.prog 11 #[.int .i64 a0, v] x fun e w' => ∃ va zl, e = .returned (.tuple #[va, .int .i64 E]) ∧ Bb.Own w' x.heap.size va zl ∧ zl.length ≤ 100 ∧ Below x.heap.size x w' ∧ Bu.Doc a0 z1 zl) := fun v x h => by
    have := Bu.share_uni a0 z1 v x hz7 h
    rw [HE.out] at this
    exact this
  go_enter Try.func4, Try.ntmps4
  go_wp2_with fail
  refine pl.mono ?_
  rintro e y0 ⟨rfl, hy⟩
  have G0 : y0.heap[w.heap.size]? = some (.cells (Sl.inC M (Ln.lentF z1)) 3 (0, 0)) := by rw [hy]; exact Kb.h1_0 w _
  have B0 : Below w.heap.size w y0 := by rw [hy]; exact Kb.below_one w _
  clear hy pl
  have MB := Kb.h1_0 y0 (.cells #[.slice none 0 0, .slice none 0 0, .slice none 0 0] 37)
  have BB := Kb.below_one y0 (.cells #[.slice none 0 0, .slice none 0 0, .slice none 0 0] 37)
  go_wp2_with fail
  generalize y0.alloc (.cells #[.slice none 0 0, .slice none 0 0, .slice none 0 0] 37) = y1 at *
  have HB0 : Hid (Bd.Bk w y1 w.heap.size y0.heap.size [(w.heap.size, Obj.cells (Sl.inC M (Ln.lentF z1)) 3 (0, 0))] [] [] [] (.slice none 0 0) (.slice none 0 0) (.slice none 0 0)) := Bu.Bk.start (Kb.keepB B0 BB) MB (Kb.kept BB G0) B0.size
  clear MB BB G0 B0
  generalize y0.heap.size = gB at *
  go_loopw [11] (fun vk wr => ∃ (k : Nat) (F W : List (Value × List Int)) (vf vw : Value), k ≤ 6 ∧ vk = .int .i64 (k : Int) ∧ Hid (Bd.Bk w wr w.heap.size gB [(w.heap.size, Obj.cells (Sl.inC M (Ln.lentF z1)) 3 (0, 0))] F W [] vf vw (.slice none 0 0)) ∧ Hid (F.map (·.2) = W.map (·.2) ∧ F.length = k)) (fun vk _ => 7 - (intOf vk).toNat)
  case atStart => exact ⟨0, [], [], _, _, by omega, rfl, HB0, rfl, rfl⟩
  case round =>
    clear HB0
    obtain ⟨k, F, W, vf, vw, hk, rfl, HS, HQ⟩ := hrel
    rename World => wr
    by_cases hlt : k < 6
    · have q : (k : Int) < 6 := by omega
      by_cases h23 : k = 2 ∨ k = 3
      · rcases h23 with rfl | rfl
        · have hal := Kb.below_one wr (.cells #[.int .i64 2, .int .i64 1, .int .i64 2] 3)
          have hS0 := HS.out.below hal
          have HS0 : Hid (Bd.Bk w (wr.alloc (.cells #[.int .i64 2, .int .i64 1, .int .i64 2] 3)) w.heap.size gB [(w.heap.size, Obj.cells (Sl.inC M (Ln.lentF z1)) 3 (0, 0))] F W [] vf vw (.slice none 0 0)) := hS0
          have pp := Bu.share_712 _ _ (lies3 wr)
          clear hal hS0
          go_wp2_with fail
          refine pp.mono ?_
          rintro _ ya ⟨va, rfl, own, hb⟩
          obtain ⟨f1, f2, f3⟩ := Bu.Bk.fresh HS0.out own
          have HS1 : Hid (Bd.Bk w ya w.heap.size gB [(w.heap.size, Obj.cells (Sl.inC M (Ln.lentF z1)) 3 (0, 0))] F W [] vf vw (.slice none 0 0)) := HS0.out.below hb
          have HOW : Hid (Bb.Own ya w.heap.size va [3, 1, 3]) := Bb.owns_base own HS0.out.fr.size
          have hal2 := Kb.below_one ya (.cells #[.int .i64 3, .int .i64 1, .int .i64 3] 3)
          have HTK := Be.takes_any (HS1.out.below hal2) [3, 1, 3] va _ _ (by have := HQ.out.2; omega) (by rw [map_len HQ.out.1]; have := HQ.out.2; omega) (by decide) (own_on HOW.out hal2 (Nat.le_refl _)) (own3 ya) f1 f2 f3 (fun h => by cases h)
          clear pp HS0 own hb f1 f2 f3 HOW hal2 HS1 HS
          go_wp2_with fail
          refine HTK.mono ?_
          rintro _ yc ⟨rfl, vf2, vw2, vn, S3⟩
          have HS3 : Hid (Bd.Bk w yc w.heap.size gB [(w.heap.size, Obj.cells (Sl.inC M (Ln.lentF z1)) 3 (0, 0))] (F ++ [(va, [3, 1, 3])]) (W ++ [(vn, [3, 1, 3])]) [] vf2 vw2 (.slice none 0 0)) := S3
          have HQ3 : Hid ((F ++ [((va, [3, 1, 3]) : Value × List Int)]).map (fun p : Value × List Int => p.2) = (W ++ [((vn, [3, 1, 3]) : Value × List Int)]).map (fun p : Value × List Int => p.2) ∧ (F ++ [((va, [3, 1, 3]) : Value × List Int)]).length = 2 + 1) := ⟨map2 HQ.out.1 _ _ _, by rw [List.length_append, List.length_singleton, HQ.out.2]⟩
          clear S3 HTK HQ
          go_wp2_with fail
          exact ⟨⟨2 + 1, _, _, _, _, by omega, by go_num, HS3, HQ3⟩, by simp only [intOf]; omega⟩
        · have hal := Kb.below_one wr (.cells #[.int .i64 2, .int .i64 1, .int .i64 2] 3)
          have hS0 := HS.out.below hal
          have HS0 : Hid (Bd.Bk w (wr.alloc (.cells #[.int .i64 2, .int .i64 1, .int .i64 2] 3)) w.heap.size gB [(w.heap.size, Obj.cells (Sl.inC M (Ln.lentF z1)) 3 (0, 0))] F W [] vf vw (.slice none 0 0)) := hS0
          have pp := Bu.share_712 _ _ (lies3 wr)
          clear hal hS0
          go_wp2_with fail
          refine pp.mono ?_
          rintro _ ya ⟨va, rfl, own, hb⟩
          obtain ⟨f1, f2, f3⟩ := Bu.Bk.fresh HS0.out own
          have HS1 : Hid (Bd.Bk w ya w.heap.size gB [(w.heap.size, Obj.cells (Sl.inC M (Ln.lentF z1)) 3 (0, 0))] F W [] vf vw (.slice none 0 0)) := HS0.out.below hb
          have HOW : Hid (Bb.Own ya w.heap.size va [3, 1, 3]) := Bb.owns_base own HS0.out.fr.size
          have hal2 := Kb.below_one ya (.cells #[.int .i64 3, .int .i64 1, .int .i64 3] 3)
          have HTK := Be.takes_any (HS1.out.below hal2) [3, 1, 3] va _ _ (by have := HQ.out.2; omega) (by rw [map_len HQ.out.1]; have := HQ.out.2; omega) (by decide) (own_on HOW.out hal2 (Nat.le_refl _)) (own3 ya) f1 f2 f3 (fun h => by cases h)
          clear pp HS0 own hb f1 f2 f3 HOW hal2 HS1 HS
          go_wp2_with fail
          refine HTK.mono ?_
          rintro _ yc ⟨rfl, vf2, vw2, vn, S3⟩
          have HS3 : Hid (Bd.Bk w yc w.heap.size gB [(w.heap.size, Obj.cells (Sl.inC M (Ln.lentF z1)) 3 (0, 0))] (F ++ [(va, [3, 1, 3])]) (W ++ [(vn, [3, 1, 3])]) [] vf2 vw2 (.slice none 0 0)) := S3
          have HQ3 : Hid ((F ++ [((va, [3, 1, 3]) : Value × List Int)]).map (fun p : Value × List Int => p.2) = (W ++ [((vn, [3, 1, 3]) : Value × List Int)]).map (fun p : Value × List Int => p.2) ∧ (F ++ [((va, [3, 1, 3]) : Value × List Int)]).length = 3 + 1) := ⟨map2 HQ.out.1 _ _ _, by rw [List.length_append, List.length_singleton, HQ.out.2]⟩
          clear S3 HTK HQ
          go_wp2_with fail
          exact ⟨⟨3 + 1, _, _, _, _, by omega, by go_num, HS3, HQ3⟩, by simp only [intOf]; omega⟩

      · have h2 : ¬ k = 2 := fun h => h23 (.inl h)
        have h3 : ¬ k = 3 := fun h => h23 (.inr h)
        have e2 : ((k : Int) == 2) = false := by simp only [beq_eq_false_iff_ne, ne_eq]; omega
        have e3 : ((k : Int) == 3) = false := by simp only [beq_eq_false_iff_ne, ne_eq]; omega
        clear h23
        go_wp2_with fail
        refine ((HSH.out _ wr (HLI.out _ HS.out.kp))).mono ?_
        rintro _ ya ⟨va, zl, rfl, own, hlen, hb, doc⟩
        have S1 := HS.out.below hb
        obtain ⟨f1, f2, f3⟩ := Bu.Bk.fresh HS.out own
        have own1 : Bb.Own ya w.heap.size va zl := Bb.owns_base own HS.out.fr.size
        have HOW : Hid (Bb.Own ya w.heap.size va zl) := own1
        have HFR : Hid ((∀ p ∈ F, ∀ g, p.1.ownBlock = some g → va.ownBlock ≠ some g) ∧ (∀ q ∈ ([] : List (Value × Int)), ∀ g, q.1.ownBlock = some g → va.ownBlock ≠ some g) ∧ Bc.Fre [(w.heap.size, Obj.cells (Sl.inC M (Ln.lentF z1)) 3 (0, 0))] va) := ⟨f1, f2, f3⟩
        have HS1 : Hid _ := S1
        have HDC := doc v1 ya (HLA.out _ S1.fr)
        rw [HE.out] at HDC
        replace HDC : Hid (Calls Try.prog 13 #[.int .i64 a0, v1] ya fun e w' => ∃ vc, e = .returned (.tuple #[vc, .int .i64 E]) ∧ Bb.Own w' ya.heap.size vc zl ∧ Below ya.heap.size ya w' ∧ (zl = [] → vc = .slice none 0 0)) := HDC
        clear S1 f1 f2 f3 own own1 hb doc
        go_wp2_with fail
        refine HDC.out.mono ?_
        rintro _ yb ⟨vc, rfl, ownc, hbc, hcn⟩
        have HS2 : Hid (Bd.Bk w yb w.heap.size gB [(w.heap.size, Obj.cells (Sl.inC M (Ln.lentF z1)) 3 (0, 0))] F W ([] : List (Value × Int)) vf vw (.slice none 0 0)) := HS1.out.below hbc
        have HOW2 : Hid (Bb.Own yb w.heap.size va zl) := own_on HOW.out hbc (Nat.le_refl _)
        have HTK := Be.takes_any HS2.out zl va vc _ (by have := HQ.out.2; omega) (by rw [map_len HQ.out.1]; have := HQ.out.2; omega) hlen HOW2.out ownc HFR.out.1 HFR.out.2.1 HFR.out.2.2 hcn
        clear HDC HS1 HOW HS2 HOW2 ownc hbc hcn HFR HS
        go_wp2_with fail
        refine HTK.mono ?_
        rintro _ yc ⟨rfl, vf2, vw2, vn, S3⟩
        have HS3 : Hid (Bd.Bk w yc w.heap.size gB [(w.heap.size, Obj.cells (Sl.inC M (Ln.lentF z1)) 3 (0, 0))] (F ++ [(va, zl)]) (W ++ [(vn, zl)]) ([] : List (Value × Int)) vf2 vw2 (.slice none 0 0)) := S3
        have HQ3 : Hid ((F ++ [(va, zl)]).map (·.2) = (W ++ [(vn, zl)]).map (·.2) ∧ (F ++ [(va, zl)]).length = k + 1) := ⟨map2 HQ.out.1 _ _ _, by rw [List.length_append, List.length_singleton, HQ.out.2]⟩
        clear S3 HTK HQ
        go_wp2_with fail
        exact ⟨⟨k + 1, _, _, _, _, by omega, by go_num, HS3, HQ3⟩, by simp only [intOf]; omega⟩
    · obtain rfl : k = 6 := by omega
      go_wp2_with fail
      refine ((HSH.out _ wr (HLI.out _ HS.out.kp))).mono ?_
      rintro _ ya ⟨va, zl, rfl, own, hlen, hb, doc⟩
      have S1 := HS.out.below hb
      obtain ⟨f1, f2, f3⟩ := Bu.Bk.fresh HS.out own
      have own1 : Bb.Own ya w.heap.size va zl := Bb.owns_base own HS.out.fr.size
      have HOW : Hid (Bb.Own ya w.heap.size va zl) := own1
      have HFR : Hid ((∀ p ∈ F, ∀ g, p.1.ownBlock = some g → va.ownBlock ≠ some g) ∧ (∀ q ∈ ([] : List (Value × Int)), ∀ g, q.1.ownBlock = some g → va.ownBlock ≠ some g) ∧ Bc.Fre [(w.heap.size, Obj.cells (Sl.inC M (Ln.lentF z1)) 3 (0, 0))] va) := ⟨f1, f2, f3⟩
      have HS1 : Hid _ := S1
      have HDC := doc v1 ya (HLA.out _ S1.fr)
      rw [HE.out] at HDC
      replace HDC : Hid (Calls Try.prog 13 #[.int .i64 a0, v1] ya fun e w' => ∃ vc, e = .returned (.tuple #[vc, .int .i64 E]) ∧ Bb.Own w' ya.heap.size vc zl ∧ Below ya.heap.size ya w' ∧ (zl = [] → vc = .slice none 0 0)) := HDC
      clear S1 f1 f2 f3 own own1 hb doc
      go_wp2_with fail
      refine HDC.out.mono ?_
      rintro _ yb ⟨vc, rfl, ownc, hbc, hcn⟩
      have HS2 : Hid (Bd.Bk w yb w.heap.size gB [(w.heap.size, Obj.cells (Sl.inC M (Ln.lentF z1)) 3 (0, 0))] F W ([] : List (Value × Int)) vf vw (.slice none 0 0)) := HS1.out.below hbc
      have HOW2 : Hid (Bb.Own yb w.heap.size va zl) := own_on HOW.out hbc (Nat.le_refl _)
      have HTK := Be.takes_any HS2.out zl va vc _ (by have := HQ.out.2; omega) (by rw [map_len HQ.out.1]; have := HQ.out.2; omega) hlen HOW2.out ownc HFR.out.1 HFR.out.2.1 HFR.out.2.2 hcn
      clear HDC HS1 HOW HS2 HOW2 ownc hbc hcn HFR HS
      go_wp2_with fail
      refine HTK.mono ?_
      rintro _ yc ⟨rfl, vf2, vw2, vn, S3⟩
      have HS3 : Hid (Bd.Bk w yc w.heap.size gB [(w.heap.size, Obj.cells (Sl.inC M (Ln.lentF z1)) 3 (0, 0))] (F ++ [(va, zl)]) (W ++ [(vn, zl)]) ([] : List (Value × Int)) vf2 vw2 (.slice none 0 0)) := S3
      have HQ3 : Hid ((F ++ [(va, zl)]).map (·.2) = (W ++ [(vn, zl)]).map (·.2) ∧ (F ++ [(va, zl)]).length = 6 + 1) := ⟨map2 HQ.out.1 _ _ _, by rw [List.length_append, List.length_singleton, HQ.out.2]⟩
      clear S3 HTK HQ
      go_wp2_with fail
      refine (Bt.settles_any HS3.out HQ3.out.1 0 rfl (by have := HQ3.out.2; omega) (by have := HQ3.out.2; omega)).mono ?_
      rintro _ yd ⟨rfl, L, vl, hL, S4⟩
      rw [HQ3.out.2] at hL
      have HL4 : Hid (L.length = 12 * 7) := hL
      have HS4 : Hid (Bd.Bk w yd w.heap.size gB [(w.heap.size, Obj.cells (Sl.inC M (Ln.lentF z1)) 3 (0, 0))] [] [] L (.slice none 0 0) (.slice none 0 0) vl) := S4
      clear hL S4 HS3 HQ3
      go_wp2_with fail
      refine (HST.out yd HS4.out.kp (HLA.out yd HS4.out.fr)).mono ?_
      rintro _ ye ⟨rfl, hbe⟩
      have HS5 : Hid (Bd.Bk w ye w.heap.size gB [(w.heap.size, Obj.cells (Sl.inC M (Ln.lentF z1)) 3 (0, 0))] [] [] L (.slice none 0 0) (.slice none 0 0) vl) := HS4.out.below hbe
      clear HS4 hbe
      rcases Nat.eq_zero_or_pos N with hN0 | hN0
      · have HZ0 : Hid (z1 = []) := List.length_eq_zero_iff.1 (by rw [HN.out]; exact hN0)
        subst hN0
        obtain ⟨F, HFe⟩ : ∃ F : List (Value × List Int), Hid (F = []) := ⟨[], rfl⟩
        obtain ⟨W, HWe⟩ : ∃ W : List (Value × List Int), Hid (W = []) := ⟨[], rfl⟩
        obtain ⟨vf, Hvf⟩ : ∃ vf : Value, Hid (vf = .slice none 0 0) := ⟨_, rfl⟩
        obtain ⟨vw, Hvw⟩ : ∃ vw : Value, Hid (vw = .slice none 0 0) := ⟨_, rfl⟩
        have HQ : Hid (F.map (fun p : Value × List Int => p.2) = W.map (fun p : Value × List Int => p.2) ∧ F.length = 0) := by
          rw [HFe.out, HWe.out]; exact ⟨rfl, rfl⟩
        have HS : Hid (Bd.Bk w ye w.heap.size gB [(w.heap.size, Obj.cells (Sl.inC M (Ln.lentF z1)) 3 (0, 0))] F W L vf vw vl) := by
          rw [HFe.out, HWe.out, Hvf.out, Hvw.out]
          exact HS5.out
        have HST0 : Hid (∀ x, Bc.Kp x [(w.heap.size, Obj.cells (Sl.inC M (Ln.lentF z1)) 3 (0, 0))] → Calls Try.prog 15 #[.slice (some ⟨w.heap.size, 0, none⟩) 0 M, .slice none 0 0] x fun e w' => e = .returned (.bool true) ∧ Below x.heap.size x w') := fun x hx => by
          have h := hx _ (by simp : (w.heap.size, Obj.cells (Sl.inC M (Ln.lentF z1)) 3 (0, 0)) ∈ [(w.heap.size, Obj.cells (Sl.inC M (Ln.lentF z1)) 3 (0, 0))])
          have := Ln.still_lies z1 (.slice none 0 0) w.heap.size x (Or.inl ⟨rfl, HZ0.out⟩) (by have := HN.out; omega) (by rw [HN.out, HM.out]; exact h)
          rw [HN.out, HM.out] at this
          exact this
        clear HS5
        go_wp2_with fail
        refine (HSH.out _ ye (HLI.out _ HS.out.kp)).mono ?_
        rintro _ ya ⟨va, zl, rfl, own, hlen, hb, doc⟩
        have S1 := HS.out.below hb
        obtain ⟨f1, f2, f3⟩ := Bu.Bk.fresh HS.out own
        have own1 : Bb.Own ya w.heap.size va zl := Bb.owns_base own HS.out.fr.size
        have HOW : Hid (Bb.Own ya w.heap.size va zl) := own1
        have HFR : Hid ((∀ p ∈ F, ∀ g, p.1.ownBlock = some g → va.ownBlock ≠ some g) ∧ (∀ q ∈ L, ∀ g, q.1.ownBlock = some g → va.ownBlock ≠ some g) ∧ Bc.Fre [(w.heap.size, Obj.cells (Sl.inC M (Ln.lentF z1)) 3 (0, 0))] va) := ⟨f1, f2, f3⟩
        have HS1 : Hid _ := S1
        have HDC := doc (.slice none 0 0) ya (Or.inl ⟨rfl, HZ0.out⟩)
        rw [HE.out] at HDC
        replace HDC : Hid (Calls Try.prog 13 #[.int .i64 a0, (.slice none 0 0)] ya fun e w' => ∃ vc, e = .returned (.tuple #[vc, .int .i64 E]) ∧ Bb.Own w' ya.heap.size vc zl ∧ Below ya.heap.size ya w' ∧ (zl = [] → vc = .slice none 0 0)) := HDC
        clear S1 f1 f2 f3 own own1 hb doc
        go_wp2_with fail
        refine HDC.out.mono ?_
        rintro _ yb ⟨vc, rfl, ownc, hbc, hcn⟩
        have HS2 : Hid (Bd.Bk w yb w.heap.size gB [(w.heap.size, Obj.cells (Sl.inC M (Ln.lentF z1)) 3 (0, 0))] F W L vf vw vl) := HS1.out.below hbc
        have HOW2 : Hid (Bb.Own yb w.heap.size va zl) := own_on HOW.out hbc (Nat.le_refl _)
        have HTK := Be.takes_any HS2.out zl va vc _ (by have := HQ.out.2; omega) (by rw [map_len HQ.out.1]; have := HQ.out.2; omega) hlen HOW2.out ownc HFR.out.1 HFR.out.2.1 HFR.out.2.2 hcn
        clear HDC HS1 HOW HS2 HOW2 ownc hbc hcn HFR HS
        go_wp2_with fail
        refine HTK.mono ?_
        rintro _ yc ⟨rfl, vf2, vw2, vn, S3⟩
        have HS3 : Hid (Bd.Bk w yc w.heap.size gB [(w.heap.size, Obj.cells (Sl.inC M (Ln.lentF z1)) 3 (0, 0))] (F ++ [(va, zl)]) (W ++ [(vn, zl)]) L vf2 vw2 vl) := S3
        have HQ3 : Hid ((F ++ [(va, zl)]).map (·.2) = (W ++ [(vn, zl)]).map (·.2) ∧ (F ++ [(va, zl)]).length = 0 + 1) := ⟨map2 HQ.out.1 _ _ _, by rw [List.length_append, List.length_singleton, HQ.out.2]⟩
        clear S3 HTK HQ
        go_wp2_with fail
        refine (Bt.settles_any HS3.out HQ3.out.1 7 HL4.out (by have := HQ3.out.2; omega) (by have := HQ3.out.2; omega)).mono ?_
        rintro _ yf ⟨rfl, L2, vl2, hL2, S6⟩
        have HS6 : Hid (Bd.Bk w yf w.heap.size gB [(w.heap.size, Obj.cells (Sl.inC M (Ln.lentF z1)) 3 (0, 0))] [] [] L2 (.slice none 0 0) (.slice none 0 0) vl2) := S6
        clear S6 hL2 HS3 HQ3
        go_wp2_with fail
        refine (HST0.out yf HS6.out.kp).mono ?_
        rintro _ yg ⟨rfl, hbg⟩
        have B9 : Below w.heap.size w yg := (HS6.out.below hbg).fr
        clear HS6 hbg
        go_wp2_with fail
        go_ret
        exact ⟨rfl, B9⟩
      · have pp := fun x => Pick.pick_any a2 N x a21 a22 (by omega) (by omega)
        have l1 := Pick.pick_lo a2 N (by omega)
        have l2 := Pick.pick_hi a2 N (by omega)
        obtain ⟨K, hK⟩ : ∃ K : Nat, Pick.pickOf a2 N = (K : Int) := ⟨(Pick.pickOf a2 N).toNat, by omega⟩
        rw [hK] at pp l1 l2
        clear hK
        have r1 : K < N := by omega
        have r2 : K < M := by omega
        have rz : K < z1.length := by rw [HN.out]; exact r1
        obtain ⟨i0, hi, hz0, hz1, hz2⟩ := info_parts Ow.info3'
        have hgl := HS5.out.kp _ (by simp : (w.heap.size, Obj.cells (Sl.inC M (Ln.lentF z1)) 3 (0, 0)) ∈ [(w.heap.size, Obj.cells (Sl.inC M (Ln.lentF z1)) 3 (0, 0))])
        have c1 : ye.cell? ⟨w.heap.size, K, none⟩ = some (.int .i64 (Ln.lentF z1 K)) := Ln.cell_row hgl (Sl.inC_get _ _ _ r2)
        have f1 : ye.frozen? ⟨w.heap.size, K, none⟩ = false := Ln.frozen_row hgl
        generalize Ln.lentF z1 K = old at *
        obtain ⟨z2, hz2e⟩ : ∃ z2, z1.set K a3 = z2 := ⟨_, rfl⟩
        have HN2 : Hid (z2.length = N) := by show _ = _; rw [← hz2e, List.length_set]; exact HN.out
        have HWF2 : Hid (∀ x ∈ z2, (Lit.int .i64 x).wf = true) := by
          show ∀ x ∈ z2, (Lit.int .i64 x).wf = true
          rw [← hz2e]; exact Ow.wfs HWF.out K a3 HW3.out
        have eS : (Sl.inC M (Ln.lentF z1)).setIfInBounds K (.int .i64 a3) = Sl.inC M (Ln.lentF z2) := by
          have := Ln.lent_set z1 K a3 rz
          rw [hz2e, HN.out, HN2.out, HM.out] at this
          exact this
        have S6 := Bu.Bk.turn HS5.out (Nat.le_refl _) K (.int .i64 a3)
        rw [eS] at S6
        have HS6 : Hid (Bd.Bk w (ye.setCell ⟨w.heap.size, K, none⟩ (.int .i64 a3)) w.heap.size gB [(w.heap.size, Obj.cells (Sl.inC M (Ln.lentF z2)) 3 (0, 0))] [] [] L (.slice none 0 0) (.slice none 0 0) vl) := S6
        have HLB : Hid (∀ x : World, x.heap[w.heap.size]? = some (Obj.cells (Sl.inC M (Ln.lentF z2)) 3 (0, 0)) → Sl.Lies x (.slice (some ⟨w.heap.size, 0, none⟩) N M) z2) := fun x h => by
          have := Ln.lent_is (g := w.heap.size) (l := z2) (w := x) (by have := HN2.out; omega) HWF2.out (by rw [HN2.out, HM.out]; exact h)
          rw [HN2.out, HM.out] at this
          exact this
        have hly := HLB.out _ (HS6.out.kp (w.heap.size, Obj.cells (Sl.inC M (Ln.lentF z2)) 3 (0, 0)) (by simp))
        have hnews := (Ow.lies_news hly rfl).2
        have hlz : (Ow.iv z2).length = N * 1 := by rw [Ow.iv_length, HN2.out]; omega
        have hsz : w.heap.size ≤ (ye.setCell ⟨w.heap.size, K, none⟩ (.int .i64 a3)).heap.size := HS6.out.fr.size
        have HNW : Hid (∀ j u, (Ow.iv z2)[j]? = some u → (ye.setCell ⟨w.heap.size, K, none⟩ (.int .i64 a3)).cell? ((⟨w.heap.size, 0, none⟩ : Addr).add j) = some u) := hnews
        obtain ⟨E2, HE2⟩ : ∃ E, Hid (Sj.shE a0 z2 = E) := ⟨_, rfl⟩
        have HSH2 : Hid (∀ v x, Sl.Lies x v z2 → Calls Try.prog 11 #[.int .i64 a0, v] x fun e w' => ∃ va zl, e = .returned (.tuple #[va, .int .i64 E2]) ∧ Bb.Own w' x.heap.size va zl ∧ zl.length ≤ 100 ∧ Below x.heap.size x w' ∧ Bu.Doc a0 z2 zl) := fun v x h => by
          have := Bu.share_uni a0 z2 v x (by have := HN2.out; omega) h
          rw [HE2.out] at this
          exact this
        clear S6 eS hly hnews hgl HS5 rz hz2e
        go_wp2_with fail
        refine (pp _).mono ?_
        rintro e yp ⟨rfl, hyp⟩
        rw [hyp]
        clear hyp yp pp
        go_wp2_with (at_builtin; refine wpList_append_lies _ rfl _ _ _ rfl w.heap.size 3 i0 _ 1 8 Try.underlying32 hi hz0 hz1 hz2 rfl (by omega) (.slice none 0 0) 0 [] rfl (Ow.own_nil _ _ _) ⟨w.heap.size, 0, none⟩ N M (Ow.iv z2) rfl hlz HNW.out (Ow.iv_one z2) (by omega) (by unfold maxLen; omega) (by omega) hsz _ rfl ?_; intro gn cn yn hownN hgrowN hatN hltN)
        have HON : Bb.Own yn w.heap.size (.slice (some ⟨gn, 0, none⟩) N cn) z2 := Be.own_of HN2.out hownN
        have Bn := Be.bel_none (w := ye.setCell ⟨w.heap.size, K, none⟩ (.int .i64 a3)) hgrowN
        obtain ⟨cur, hcur⟩ : ∃ cur, yn.heap[gn]? = some (Obj.cells cur 3 (0, 0)) := by
          rcases HON.2 with ⟨e, _⟩ | ⟨g', c', cur, e, _, hg, _⟩
          · cases e
          · injection e with e1 e2 e3
            injection e1 with e1
            injection e1 with e1
            subst e1
            exact ⟨cur, hg⟩
        have HLN : Hid (∀ x, Bc.Kp x [(gn, Obj.cells cur 3 (0, 0)), (w.heap.size, Obj.cells (Sl.inC M (Ln.lentF z2)) 3 (0, 0))] → Sl.Lies x (.slice (some ⟨gn, 0, none⟩) N cn) z2) := fun x hx => by
          have h := hx (gn, Obj.cells cur 3 (0, 0)) (by simp)
          refine Ow.own_lies (n := z2.length) rfl (Bb.owns_keep HON fun p hp => ?_) HWF2.out
          simp only [Value.ownBlock, Option.some.injEq] at hp
          subst hp
          rw [hcur]; exact h
        have HLI2 : Hid (∀ x, Bc.Kp x [(gn, Obj.cells cur 3 (0, 0)), (w.heap.size, Obj.cells (Sl.inC M (Ln.lentF z2)) 3 (0, 0))] → Sl.Lies x (.slice (some ⟨w.heap.size, 0, none⟩) N M) z2) := fun x hx => HLB.out x (hx (w.heap.size, Obj.cells (Sl.inC M (Ln.lentF z2)) 3 (0, 0)) (by simp))
        have HST2 : Hid (∀ x, Bc.Kp x [(gn, Obj.cells cur 3 (0, 0)), (w.heap.size, Obj.cells (Sl.inC M (Ln.lentF z2)) 3 (0, 0))] → Calls Try.prog 15 #[.slice (some ⟨w.heap.size, 0, none⟩) N M, .slice (some ⟨gn, 0, none⟩) N cn] x fun e w' => e = .returned (.bool true) ∧ Below x.heap.size x w') := fun x hx => by
          have h := hx (w.heap.size, Obj.cells (Sl.inC M (Ln.lentF z2)) 3 (0, 0)) (by simp)
          have := Ln.still_lies z2 (.slice (some ⟨gn, 0, none⟩) N cn) w.heap.size x (HLN.out x hx) (by have := HN2.out; omega) (by rw [HN2.out, HM.out]; exact h)
          rw [HN2.out, HM.out] at this
          exact this
        have S7 := Bu.Bk.more (HS6.out.below Bn) hcur (fun p hp => by simp at hp) (fun q hq h => by
          have h1 := ((HS6.out.lo q hq).lt gn h).2
          rcases hatN with h2 | h2
          · simp [Value.ownBlock] at h2
          · omega)
        obtain ⟨F, HFe⟩ : ∃ F : List (Value × List Int), Hid (F = []) := ⟨[], rfl⟩
        obtain ⟨W, HWe⟩ : ∃ W : List (Value × List Int), Hid (W = []) := ⟨[], rfl⟩
        obtain ⟨vf, Hvf⟩ : ∃ vf : Value, Hid (vf = .slice none 0 0) := ⟨_, rfl⟩
        obtain ⟨vw, Hvw⟩ : ∃ vw : Value, Hid (vw = .slice none 0 0) := ⟨_, rfl⟩
        have HQ : Hid (F.map (fun p : Value × List Int => p.2) = W.map (fun p : Value × List Int => p.2) ∧ F.length = 0) := by
          rw [HFe.out, HWe.out]; exact ⟨rfl, rfl⟩
        have HS : Hid (Bd.Bk w yn w.heap.size gB [(gn, Obj.cells cur 3 (0, 0)), (w.heap.size, Obj.cells (Sl.inC M (Ln.lentF z2)) 3 (0, 0))] F W L vf vw vl) := by
          rw [HFe.out, HWe.out, Hvf.out, Hvw.out]
          exact S7
        clear S7 HON Bn hownN hgrowN hatN hltN HS6 HNW hlz hsz hcur HLB c1 f1
        refine (HSH2.out _ yn (HLI2.out _ HS.out.kp)).mono ?_
        rintro _ ya ⟨va, zl, rfl, own, hlen, hb, doc⟩
        have S1 := HS.out.below hb
        obtain ⟨f1, f2, f3⟩ := Bu.Bk.fresh HS.out own
        have own1 : Bb.Own ya w.heap.size va zl := Bb.owns_base own HS.out.fr.size
        have HOW : Hid (Bb.Own ya w.heap.size va zl) := own1
        have HFR : Hid ((∀ p ∈ F, ∀ g, p.1.ownBlock = some g → va.ownBlock ≠ some g) ∧ (∀ q ∈ L, ∀ g, q.1.ownBlock = some g → va.ownBlock ≠ some g) ∧ Bc.Fre [(gn, Obj.cells cur 3 (0, 0)), (w.heap.size, Obj.cells (Sl.inC M (Ln.lentF z2)) 3 (0, 0))] va) := ⟨f1, f2, f3⟩
        have HS1 : Hid _ := S1
        have HDC := doc (.slice (some ⟨gn, 0, none⟩) N cn) ya (HLN.out _ S1.kp)
        rw [HE2.out] at HDC
        replace HDC : Hid (Calls Try.prog 13 #[.int .i64 a0, (.slice (some ⟨gn, 0, none⟩) N cn)] ya fun e w' => ∃ vc, e = .returned (.tuple #[vc, .int .i64 E2]) ∧ Bb.Own w' ya.heap.size vc zl ∧ Below ya.heap.size ya w' ∧ (zl = [] → vc = .slice none 0 0)) := HDC
        clear S1 f1 f2 f3 own own1 hb doc
        go_wp2_with fail
        refine HDC.out.mono ?_
        rintro _ yb ⟨vc, rfl, ownc, hbc, hcn⟩
        have HS2 : Hid (Bd.Bk w yb w.heap.size gB [(gn, Obj.cells cur 3 (0, 0)), (w.heap.size, Obj.cells (Sl.inC M (Ln.lentF z2)) 3 (0, 0))] F W L vf vw vl) := HS1.out.below hbc
        have HOW2 : Hid (Bb.Own yb w.heap.size va zl) := own_on HOW.out hbc (Nat.le_refl _)
        have HTK := Be.takes_any HS2.out zl va vc _ (by have := HQ.out.2; omega) (by rw [map_len HQ.out.1]; have := HQ.out.2; omega) hlen HOW2.out ownc HFR.out.1 HFR.out.2.1 HFR.out.2.2 hcn
        clear HDC HS1 HOW HS2 HOW2 ownc hbc hcn HFR HS
        go_wp2_with fail
        refine HTK.mono ?_
        rintro _ yc ⟨rfl, vf2, vw2, vn, S3⟩
        have HS3 : Hid (Bd.Bk w yc w.heap.size gB [(gn, Obj.cells cur 3 (0, 0)), (w.heap.size, Obj.cells (Sl.inC M (Ln.lentF z2)) 3 (0, 0))] (F ++ [(va, zl)]) (W ++ [(vn, zl)]) L vf2 vw2 vl) := S3
        have HQ3 : Hid ((F ++ [(va, zl)]).map (·.2) = (W ++ [(vn, zl)]).map (·.2) ∧ (F ++ [(va, zl)]).length = 0 + 1) := ⟨map2 HQ.out.1 _ _ _, by rw [List.length_append, List.length_singleton, HQ.out.2]⟩
        clear S3 HTK HQ
        go_wp2_with fail
        refine (Bt.settles_any HS3.out HQ3.out.1 7 HL4.out (by have := HQ3.out.2; omega) (by have := HQ3.out.2; omega)).mono ?_
        rintro _ yf ⟨rfl, L2, vl2, hL2, S8⟩
        have HS8 : Hid (Bd.Bk w yf w.heap.size gB [(gn, Obj.cells cur 3 (0, 0)), (w.heap.size, Obj.cells (Sl.inC M (Ln.lentF z2)) 3 (0, 0))] [] [] L2 (.slice none 0 0) (.slice none 0 0) vl2) := S8
        clear S8 hL2 HS3 HQ3
        go_wp2_with fail
        refine (HST2.out yf HS8.out.kp).mono ?_
        rintro _ yg ⟨rfl, hbg⟩
        have B9 : Below w.heap.size w yg := (HS8.out.below hbg).fr
        clear HS8 hbg
        go_wp2_with fail
        go_ret
        exact ⟨rfl, B9⟩

set_option maxRecDepth 100000 in
theorem contract (H : Type) (enc : TypeId × Value → H) (W : World) (base : Nat) (args : Array Value) (ds gs : List (DataW H)) (before : List MemPlace)
    (hval : ∀ (j : Nat) t v, Try.f4.params[j]? = some t → args[j]? = some v → Value.okWide Try.prog W .any base t v)
    (hW : DataW.Whole enc Try.prog Try.f4.params.toList Rows.moneySharesSpec.vars false W args.toList ds gs before) (hk : Rows.uptoSmall H (ds ++ gs) = true) :
    Calls Try.prog 4 args W fun e W' => ∃ v, e = .returned v ∧ Rows.moneySharesSpec.post enc Try.prog Try.f4 false true false false W args v W' := by
  have hW' := hW
  obtain ⟨p, q, hA0, hV, rfl, hfz, hnd⟩ := hW
  have hA : DataW.TrodAll enc Try.prog W 0 (fun _ => true) true Try.f4.params.toList args.toList ds p := hA0
  rw [Try.params4] at hA hval
  obtain ⟨v0, vs0, d0, ds0, p0, q0, hargs, rfl, rfl, h0, r0⟩ := trodAll_cons hA
  obtain ⟨v1, vs1, d1, ds1, p1, q1, rfl, rfl, rfl, h1, r1⟩ := trodAll_cons r0
  obtain ⟨v2, vs2, d2, ds2, p2, q2, rfl, rfl, rfl, h2, r2⟩ := trodAll_cons r1
  obtain ⟨v3, vs3, d3, ds3, p3, q3, rfl, rfl, rfl, h3, r3⟩ := trodAll_cons r2
  obtain ⟨rfl, rfl, rfl⟩ := trodAll_nil r3
  obtain rfl : args = #[v0, v1, v2, v3] := by cases args; simp_all
  obtain ⟨rfl, rfl⟩ := trodVars_none hV
  obtain ⟨a0, rfl, rfl, rfl, w0⟩ := open_int Try.underlying3 (hval 0 3 v0 rfl rfl) h0
  obtain ⟨z1, w1, lt1, bulk1⟩ := Sl.open_sl (hval 1 32 v1 rfl rfl) h1
  obtain ⟨a2, rfl, rfl, rfl, w2⟩ := open_int Try.underlying3 (hval 2 3 v2 rfl rfl) h2
  obtain ⟨a3, rfl, rfl, rfl, w3⟩ := open_int Try.underlying3 (hval 3 3 v3 rfl rfl) h3
  clear hA0
  simp only [List.append_nil] at hk
  have hk1 := of_decide_eq_true hk
  simp only [Rows.uptoBulkAll] at hk1
  have e1 := bulk1
  refine (walk a0 v1 z1 a2 a3 W w0 w1 w2 w3 (by omega)).mono fun e W' ⟨he, bel⟩ => ?_
  subst he
  exact ⟨_, rfl, _, _, _, [], _, [], hW', trodAll_mk1 (shut_bool Try.underlying4 _), (trodAll_cons_mk (shut_int Try.underlying3 w0) (trodAll_cons_mk (Below.trod (by kernel_rfl) (by kernel_rfl) (of_decide_eq_true (by kernel_rfl)) h1 bel lt1) (trodAll_cons_mk (shut_int Try.underlying3 w2) (trodAll_cons_mk (shut_int Try.underlying3 w3) trodAll_mk0)))), rfl, bel.frame _, fun h => by cases h⟩

set_option maxRecDepth 100000 in
theorem lifted (os : Os) (started : os.Started) (H : Type) (enc : TypeId × Value → H) (F : Stop.Interp) :
    ReturnsInHanded {} Try.checked os 4 .any ((Rows.OpenSpec.upto Rows.moneySharesSpec).pre6 enc Try.prog Try.f4 Rows.moneySharesUptoRow.domain false) (((Rows.OpenSpec.upto Rows.moneySharesSpec).at F).post enc Try.prog Try.f4 false true false false) := by
  refine returnsInHanded_of_cond (C := Try.checked) (s := Rows.OpenSpec.upto Rows.moneySharesSpec) (k := Rows.uptoSmall) rfl own started (by kernel_rfl) Try.func4
    (OpenSpec.witness (enc := enc) (C := Try.checked) (s := Rows.OpenSpec.upto Rows.moneySharesSpec) (k := Rows.uptoSmall) rfl false ⟨#[], #[.int .i64 0, .slice none 0 0, .int .i64 0, .int .i64 0], []⟩ 8 (by kernel_rfl) (by kernel_rfl) (by kernel_rfl)
      (x := ([.lit (.int .i64 0), .nil, .lit (.int .i64 0), .lit (.int .i64 0)], [], [])) (by kernel_rfl) rfl (by kernel_rfl)) ?_
  intro W base args ds gs before hval hW _ hk _
  exact contract H enc W base args ds gs before hval hW hk

theorem proved : Rows.MoneySharesUptoSaid :=
  OpenClaim.holds_of_cond 4 Try.f4 rfl rfl rfl rfl rfl rfl rfl ⟨rfl, rfl, rfl, rfl, rfl⟩ rfl rfl rfl rfl rfl (by kernel_rfl) Try.func4 (by kernel_rfl)
    (of_decide_eq_true (by kernel_rfl)) (by unfold Func.isWrapper; first | (rw [if_pos (by decide +kernel)]; kernel_rfl) | (rw [if_neg (by decide +kernel)]; exact ⟨rfl, rfl⟩))
    (fun os started H enc _ F => lifted os started H enc F)
#print axioms proved
end Go.Proofs.Ytaacocliclibgaa.moneyShares
