/- CardOf: the law out of the contracts; the frame of the row. -/
import Derived.Test.YtbekjlinnbmpgaaRows
import Derived.WalkKit
import Derived.ProofKit
import Derived.OpenShut
import Derived.ShutString
import Derived.ChangeOld
import Derived.Below
import Derived.JoinedCond
import Derived.Carry
import Derived.SizedLaws
import Derived.Test.YtbekjlinnbmpgaaMo
import Derived.Test.YtbekjlinnbmpgaaKz
import Derived.Test.YtbekjlinnbmpgaaPr
import Derived.Test.YtbekjlinnbmpgaaSm
import Derived.Test.YtbekjlinnbmpgaaTw
namespace Go.Proofs.Ytbekjlinnbmpgaa.cardOf
open Go.ChangeShapes Go.WideShapes Go.ChangeAt Go.RowKit
open Go.ChangeMaps (open_string shut_string)
set_option linter.unusedVariables false

theorem own : ownKnob Try.prog.godebug = none := by kernel_rfl

open Nd Ll Kb
def St (w x : World) (m : ByteArray) (v : Value) : Prop := Below w.heap.size w x ∧ x.heap[w.heap.size]? = some (.cells #[.string m, v] 24)
theorem St.next {w x y : World} {m : ByteArray} {v : Value} (h : St w x m v) (b : Below x.heap.size x y) : St w y m v := ⟨keepB h.1 b, kept b h.2⟩
theorem St.at {w x : World} {m : ByteArray} {v : Value} (h : St w x m v) : x.cell? ⟨w.heap.size, 0, none⟩ = some (.string m) ∧ x.cell? ⟨w.heap.size, 1, none⟩ = some v := by
  obtain ⟨h0, h1, _, _⟩ := held2 (Below.refl _ x) h.2
  exact ⟨h0, h1⟩
theorem lien_next {w x : World} {v : Value} {ts : List Tr} (h : Lien w v ts) (b : Below w.heap.size w x) : Lien x v ts := by
  obtain ⟨o, cap, e, hl, hc⟩ := h
  refine ⟨o, cap, e, hl, fun hn => ?_⟩
  obtain ⟨a, ea, h1⟩ := hc hn
  exact ⟨a, ea, laid_below b a 0 ts h1⟩
structure Tx (w x : World) (gx g N : Nat) (m : ByteArray) (v : Value) (ts : List Tr) (C : Array Value) (f : Nat → Int × ByteArray × Value) : Prop where
  st : St w x m v
  xb : x.heap[gx]? = some (.cells #[.string m, .slice (some ⟨g, 0, none⟩) N (N + 5)] 24)
  row : x.heap[g]? = some (.cells C 32)
  ri : Nr.RowIs C (N + 5) f
  fi : Nl.Filled x (g + 1) ts (N + 5) f
  wx : w.heap.size < gx
  xg : gx < g
  len : ts.length = N
theorem Tx.next {w x y : World} {gx g N : Nat} {m : ByteArray} {v : Value} {ts : List Tr} {C : Array Value} {f : Nat → Int × ByteArray × Value} (h : Tx w x gx g N m v ts C f) (b : Below x.heap.size x y) : Tx w y gx g N m v ts C f :=
  ⟨h.st.next b, kept b h.xb, kept b h.row, h.ri, Nl.filled_keep (fun k _ hk => b.block k hk) b.size h.fi, h.wx, h.xg, h.len⟩
theorem Tx.lent {w x : World} {gx g N : Nat} {m : ByteArray} {v : Value} {ts : List Tr} {C : Array Value} {f : Nat → Int × ByteArray × Value} (h : Tx w x gx g N m v ts C f) : Nr.Lent x g g ts :=
  Nl.filled_lent (by rw [h.len]) (Nat.le_refl _) h.row h.ri h.fi
theorem Tx.lien {w x : World} {gx g N : Nat} {m : ByteArray} {v : Value} {ts : List Tr} {C : Array Value} {f : Nat → Int × ByteArray × Value} (h : Tx w x gx g N m v ts C f) (hs : slim ts) (hl : N ≤ 1048576) : Lien x (.slice (some ⟨g, 0, none⟩) N (N + 5)) ts := by
  have := lent_lien h.lent hs (by rw [h.len]; exact hl)
  rw [h.len] at this
  exact this
theorem Tx.lies {w x : World} {gx g N : Nat} {m : ByteArray} {v : Value} {ts : List Tr} {C : Array Value} {f : Nat → Int × ByteArray × Value} (h : Tx w x gx g N m v ts C f) (hs : slim ts) (hl : N ≤ 1048576) : ∃ z, Fs.Lies x (.slice (some ⟨g, 0, none⟩) N (N + 5)) z ∧ z.length ≤ 1048576 ∧ keys z = ts.map tv := lien_lies (h.lien hs hl)
theorem Tx.at {w x : World} {gx g N : Nat} {m : ByteArray} {v : Value} {ts : List Tr} {C : Array Value} {f : Nat → Int × ByteArray × Value} (h : Tx w x gx g N m v ts C f) : x.cell? ⟨gx, 0, none⟩ = some (.string m) ∧ x.cell? ⟨gx, 1, none⟩ = some (.slice (some ⟨g, 0, none⟩) N (N + 5)) := by
  obtain ⟨h0, h1, _, _⟩ := held2 (Below.refl _ x) h.xb
  exact ⟨h0, h1⟩
theorem Tx.val {w x : World} {gx g N : Nat} {m : ByteArray} {v : Value} {ts : List Tr} {C : Array Value} {f : Nat → Int × ByteArray × Value} (h : Tx w x gx g N m v ts C f) {i : Nat} (hi : i < N) : ∃ s, x.cell? ⟨g, i * 3 + 1, none⟩ = some (.string s) ∧ x.frozen? ⟨g, i * 3 + 1, none⟩ = false := by
  have h1 := (h.ri.2 i (by omega)).2.1
  refine ⟨(f i).2.1, ?_, ?_⟩
  · rw [cell_of_row x g _ _ _ (0, 0) h.row, Nat.mul_comm i 3]; exact h1
  · simp [World.frozen?, h.row]
theorem tx_first {w x : World} {gx g N : Nat} {m : ByteArray} {v o : Value} {ts : List Tr} {C : Array Value} {f : Nat → Int × ByteArray × Value} (st : St w x m v) (xb : x.heap[gx]? = some (.cells #[.string m, o] 24)) (row : x.heap[g]? = some (.cells C 32)) (ri : Nr.RowIs C (N + 5) f)
    (fi : Nl.Filled x (g + 1) ts (N + 5) f) (wx : w.heap.size < gx) (xg : gx < g) (len : ts.length = N) : Tx w ((x.setCell ⟨gx, 0, none⟩ (.string m)).setCell ⟨gx, 1, none⟩ (.slice (some ⟨g, 0, none⟩) N (N + 5))) gx g N m v ts C f := by
  have o1 : ∀ k, k ≠ gx → ((x.setCell ⟨gx, 0, none⟩ (.string m)).setCell ⟨gx, 1, none⟩ (.slice (some ⟨g, 0, none⟩) N (N + 5))).heap[k]? = x.heap[k]? := fun k hk => by
    rw [Nr.setCell_ne (fun e => hk e.symm), Nr.setCell_ne (fun e => hk e.symm)]
  refine ⟨⟨(st.1.setCell (p := ⟨gx, 0, none⟩) (Nat.le_of_lt wx) _).setCell (p := ⟨gx, 1, none⟩) (Nat.le_of_lt wx) _, ?_⟩, ?_, ?_, ri, ?_, wx, xg, len⟩
  · rw [o1 _ (by omega)]; exact st.2
  · rw [Nr.setCell_heap (Nr.setCell_heap xb 0 _) 1 _]; rfl
  · rw [o1 _ (by omega)]; exact row
  · exact Nl.filled_keep (fun k hk _ => o1 k (by omega)) (by simp) fi
theorem tx_other {w x : World} {gx g N k : Nat} {m a : ByteArray} {v : Value} {ts : List Tr} {C : Array Value} {f : Nat → Int × ByteArray × Value} (h : Tx w x gx g N m v (other a k ts) C f) (hk : k < N) : Tx w (x.setCell ⟨g, 3 * k + 1, none⟩ (.string a)) gx g N m v (other a (k + 1) ts) (C.setIfInBounds (3 * k + 1) (.string a)) (Nr.updF f k ((f k).1, a, (f k).2.2)) := by
  have hlen : ts.length = N := by have := h.len; rw [other_length] at this; exact this
  have o1 : ∀ b, b ≠ g → (x.setCell ⟨g, 3 * k + 1, none⟩ (.string a)).heap[b]? = x.heap[b]? := fun b hb => Nr.setCell_ne (fun e => hb e.symm) _ _
  have hwx := h.wx
  have hxg := h.xg
  refine ⟨⟨h.st.1.setCell (p := ⟨g, 3 * k + 1, none⟩) (show w.heap.size ≤ g by omega) _, ?_⟩, ?_, Nr.setCell_heap h.row _ _, row_val h.ri (by omega) a, ?_, hwx, hxg, by rw [other_length]; exact hlen⟩
  · rw [o1 _ (by omega)]; exact h.st.2
  · rw [o1 _ (by omega)]; exact h.xb
  · exact filled_other (Nl.filled_keep (fun b hb _ => o1 b (by omega)) (by simp) h.fi) (by rw [hlen]; exact hk)
set_option maxRecDepth 100000 in
set_option maxHeartbeats 3200000 in
theorem walk (m0 : ByteArray) (v0 : Value) (ts0 : List Nd.Tr) (a1 : ByteArray) (w : World) (w0 : Nd.Lien w v0 ts0) (x0 : m0.size ≤ 1048576) (w1 : a1.size ≤ maxLen) (k1 : a1.size ≤ 1048576) :
    Calls Try.prog 3 #[.agg #[.string m0, v0], .string a1] w fun e w' => e = .returned (.bool true) ∧ Below w.heap.size w w' := by
  obtain ⟨z, hz, hzl, hzk⟩ := lien_lies w0
  obtain ⟨o0, cp0, e0⟩ : ∃ o c, v0 = .slice o ts0.length c := by
    obtain ⟨o, c, e, _⟩ := w0
    exact ⟨o, c, e⟩
  have hN0 : ts0.length ≤ 1048576 := (lien_slim w0).2
  obtain ⟨N, hN⟩ : ∃ N, ts0.length = N := ⟨_, rfl⟩
  have HN : Hid (ts0.length = N) := hN
  rw [hN] at e0 hN0
  clear hN
  subst e0
  have HL : Hid (Lien w (.slice o0 N cp0) ts0) := w0
  have HZ : Hid (Fs.Lies w (.slice o0 N cp0) z ∧ z.length ≤ 1048576 ∧ keys z = ts0.map tv) := ⟨hz, hzl, hzk⟩
  have HM : Hid (m0.size ≤ 1048576) := x0
  obtain ⟨NU, hNU⟩ : ∃ s, Fn.numR z = s := ⟨_, rfl⟩
  obtain ⟨EX, hEX⟩ : ∃ s, Fn.expR z = s := ⟨_, rfl⟩
  have HNE : Hid (Fn.numR z = NU ∧ Fn.expR z = EX) := ⟨hNU, hEX⟩
  clear w0 hz hzl hzk x0 hNU hEX
  go_enter Try.func3, Try.ntmps3
  go_wp2_with fail
  refine (Kz.examples_any _).mono ?_
  rintro e x1 ⟨rfl, b1⟩
  have S1 : Hid (St w x1 m0 (.slice o0 N cp0)) := ⟨keepB (below_one _ _) b1, kept b1 (h1_0 _ _)⟩
  obtain ⟨c0, c1⟩ := S1.out.at
  clear b1
  go_wp2_with fail
  refine (Fn.numr_any m0 (.slice o0 N cp0) z x1 (Fs.lies_below HZ.out.1 S1.out.1) HZ.out.2.1).mono ?_
  rintro e x2 ⟨rfl, b2⟩
  rw [HNE.out.1]
  have S2 : Hid (St w x2 m0 (.slice o0 N cp0)) := S1.out.next b2
  clear c0 c1 b2 S1
  obtain ⟨c0, c1⟩ := S2.out.at
  go_wp2_with fail
  refine (Fn.expr_any m0 (.slice o0 N cp0) z x2 (Fs.lies_below HZ.out.1 S2.out.1) HZ.out.2.1).mono ?_
  rintro e x3 ⟨rfl, b3⟩
  rw [HNE.out.2]
  have S3 : Hid (St w x3 m0 (.slice o0 N cp0)) := S2.out.next b3
  clear c0 c1 b3 S2
  obtain ⟨c0, c1⟩ := S3.out.at
  obtain ⟨d0, d1⟩ := (S3.out.next (below_one x3 (.cells #[.string m0, .slice o0 N cp0] 24))).at
  go_wp2_with fail
  have S3b : St w ((x3.alloc (.cells #[.string m0, .slice o0 N cp0] 24)).alloc (.cells #[.string m0, .slice o0 N cp0] 24)) m0 (.slice o0 N cp0) := S3.out.next (below_two _ _ _)
  refine (Pr.partsM_any m0 ts0 (.slice o0 N cp0) (x3.heap.size + 1) _ (h2_1 _ _ _) (lien_next HL.out S3b.1)).mono ?_
  rintro e x4 ⟨rfl, b4⟩
  have S4 : Hid (St w x4 m0 (.slice o0 N cp0)) := S3b.next b4
  have X4 : Hid (x4.heap[x3.heap.size]? = some (.cells #[.string m0, .slice o0 N cp0] 24)) := kept b4 (h2_0 _ _ _)
  have G4 : Hid (x3.heap.size < x4.heap.size ∧ w.heap.size < x3.heap.size) := ⟨(Array.getElem?_eq_some_iff.1 X4.out).1, (Array.getElem?_eq_some_iff.1 S3.out.2).1⟩
  clear c0 c1 d0 d1 b4 S3b S3
  generalize prt 70000 ts0 0 = P at *
  by_cases hP : 70000 < P
  · go_wp2_with fail
    go_loopw [10] (fun vk wr => ∃ k : Nat, k ≤ 2 ∧ vk = .int .i64 (k : Int) ∧ Hid (Below x4.heap.size x4 wr)) (fun vk _ => 3 - (intOf vk).toNat)
    case atStart => exact ⟨0, by omega, rfl, Below.refl _ _⟩
    case round =>
      obtain ⟨k, hk, rfl, HB⟩ := hrel
      by_cases hk2 : k < 2
      · have q : (k : Int) < 2 := by omega
        obtain ⟨c0, c1, _, _⟩ := held2 HB.out X4.out
        go_wp2_with fail
        refine (Fn.num_any m0 (.slice o0 N cp0) z wr (Fs.lies_below HZ.out.1 (S4.out.next HB.out).1) HZ.out.2.1).mono ?_
        rintro e y1 ⟨rfl, b1⟩
        rw [HNE.out.1]
        have HB1 : Hid (Below x4.heap.size x4 y1) := keepB HB.out b1
        clear c0 c1 b1
        obtain ⟨c0, c1, _, _⟩ := held2 HB1.out X4.out
        go_wp2_with fail
        refine (Fn.exp_any m0 (.slice o0 N cp0) z y1 (Fs.lies_below HZ.out.1 (S4.out.next HB1.out).1) HZ.out.2.1).mono ?_
        rintro e y2 ⟨rfl, b2⟩
        rw [HNE.out.2]
        have HB2 : Hid (Below x4.heap.size x4 y2) := keepB HB1.out b2
        clear c0 c1 b2
        go_wp2_with fail
        exact ⟨⟨k + 1, by omega, by go_num, HB2⟩, by simp only [intOf]; omega⟩
      · have q : ¬ (k : Int) < 2 := by omega
        go_wp2_with fail
        go_ret
        exact ⟨rfl, (S4.out.next HB.out).1⟩
  · have hP2 : decide (70000 < P) = false := decide_eq_false hP
    have tw := Tw.twin_any m0 ts0 (.slice o0 N cp0) x4 (lien_next HL.out S4.out.1)
    rw [HN.out] at tw
    obtain ⟨c0, c1⟩ := S4.out.at
    go_wp2_with fail
    refine tw.mono ?_
    rintro e x5 ⟨g, C, f, rfl, hg, hC, hR, hF, b5⟩
    have X5 := kept b5 X4.out
    have S5 := S4.out.next b5
    obtain ⟨d0, d1, d2, d3⟩ := held2 (Below.refl _ x5) X5
    have HS : Hid (slim ts0) := (lien_slim HL.out).1
    have T6 := tx_first (g := g) S5 X5 hC hR (by have := hF; exact this) G4.out.2 (by have := G4.out.1; omega) HN.out
    replace T6 : Hid (Tx _ _ _ _ _ _ _ _ _ _) := T6
    clear tw c0 c1 b5 X5 S5 hC hR hF hP
    go_wp2_with fail
    clear d0 d1 d2 d3
    generalize (x5.setCell { block := x3.heap.size, off := 0 } (Value.string m0)).setCell { block := x3.heap.size, off := 1 } (Value.slice (some { block := g, off := 0 }) N (N + 5)) = x6 at *
    go_loopw [10] (fun vk wr => ∃ k : Nat, k ≤ 2 ∧ vk = .int .i64 (k : Int) ∧ Hid (Tx w wr x3.heap.size g N m0 (.slice o0 N cp0) ts0 C f)) (fun vk _ => 3 - (intOf vk).toNat)
    case atStart => exact ⟨0, by omega, rfl, T6⟩
    case round =>
      obtain ⟨k, hk, rfl, HT⟩ := hrel
      clear T6
      by_cases hk2 : k < 2
      · have q : (k : Int) < 2 := by omega
        obtain ⟨c0, c1⟩ := HT.out.at
        go_wp2_with fail
        obtain ⟨z1, hz1, hz2, hz3⟩ := HT.out.lies HS.out hN0
        refine (Fn.num_any m0 _ z1 wr hz1 hz2).mono ?_
        rintro e y1 ⟨rfl, b1⟩
        rw [numR_keys (hz3.trans HZ.out.2.2.symm), HNE.out.1]
        have HT1 : Hid (Tx w y1 x3.heap.size g N m0 (.slice o0 N cp0) ts0 C f) := HT.out.next b1
        clear c0 c1 b1 z1 hz1 hz2 hz3
        obtain ⟨c0, c1⟩ := HT1.out.at
        go_wp2_with fail
        obtain ⟨z1, hz1, hz2, hz3⟩ := HT1.out.lies HS.out hN0
        refine (Fn.exp_any m0 _ z1 y1 hz1 hz2).mono ?_
        rintro e y2 ⟨rfl, b2⟩
        rw [expR_keys (hz3.trans HZ.out.2.2.symm), HNE.out.2]
        have HT2 : Hid (Tx w y2 x3.heap.size g N m0 (.slice o0 N cp0) ts0 C f) := HT1.out.next b2
        clear c0 c1 b2 z1 hz1 hz2 hz3
        go_wp2_with fail
        exact ⟨⟨k + 1, by omega, by go_num, HT2⟩, by simp only [intOf]; omega⟩
      · have q : ¬ (k : Int) < 2 := by omega
        obtain ⟨c0, c1⟩ := HT.out.at
        obtain ⟨e0, e1⟩ := HT.out.st.at
        have sl := Sm.stillM_any m0 ts0 g g (.slice o0 N cp0) wr HT.out.lent (lien_next HL.out HT.out.st.1)
        rw [HN.out] at sl
        go_wp2_with fail
        refine sl.mono ?_
        rintro e y1 ⟨rfl, b1⟩
        have HT1 : Hid (Tx w y1 x3.heap.size g N m0 (.slice o0 N cp0) (other a1 0 ts0) C f) := HT.out.next b1
        clear c0 c1 e0 e1 b1 sl HT
        go_wp2_with fail
        go_loopw [14] (fun vi wr => ∃ (i : Nat) (C : Array Value) (f : Nat → Int × ByteArray × Value), i ≤ N ∧ vi = .int .i64 (i : Int) ∧ Hid (Tx w wr x3.heap.size g N m0 (.slice o0 N cp0) (other a1 i ts0) C f)) (fun vi _ => N + 1 - (intOf vi).toNat)
        case atStart => exact ⟨0, C, f, Nat.zero_le _, rfl, HT1⟩
        case round =>
          obtain ⟨i, C, f, hi, rfl, HT⟩ := hrel
          clear HT1
          obtain ⟨c0, c1⟩ := HT.out.at
          by_cases hiN : i < N
          · have q : (i : Int) < (N : Int) := by omega
            obtain ⟨s, v0, v1⟩ := HT.out.val hiN
            obtain ⟨C2, f2, HT2⟩ : ∃ C2 f2, Hid (Tx w (wr.setCell ⟨g, i * 3 + 1, none⟩ (.string a1)) x3.heap.size g N m0 (.slice o0 N cp0) (other a1 (i + 1) ts0) C2 f2) := by
              have := tx_other HT.out hiN
              rw [Nat.mul_comm 3 i] at this
              exact ⟨_, _, this⟩
            go_wp2_with fail
            exact ⟨⟨i + 1, C2, f2, by omega, by go_num, HT2⟩, by simp only [intOf]; omega⟩
          · have q : ¬ (i : Int) < (N : Int) := by omega
            have hs : slim (other a1 i ts0) := other_slim (by omega) i ts0 HS.out
            have cp := Cp.copy_any m0 (other a1 i ts0) _ wr (HT.out.lien hs hN0)
            go_wp2_with fail
            refine cp.mono ?_
            rintro e y1 ⟨u, xs, B, rfl, ho, hcop, b1⟩
            obtain ⟨z2, hz2, hz2l, hz2k⟩ := cop_lies ho hcop hs
            obtain ⟨ou, cu, eu, _⟩ := id hz2
            have hz2n : z2.length = N := by rw [hz2l, other_length, HN.out]
            rw [hz2n] at eu
            subst eu
            have HT1 : Hid (Tx w y1 x3.heap.size g N m0 (.slice o0 N cp0) (other a1 i ts0) C f) := HT.out.next b1
            have HZ2 : Hid (Fs.Lies y1 (.slice ou N cu) z2 ∧ z2.length ≤ 1048576 ∧ keys z2 = (other a1 i ts0).map tv) := ⟨hz2, by omega, hz2k⟩
            have HS2 : Hid (slim (other a1 i ts0)) := hs
            obtain ⟨N2, hN2⟩ : ∃ s, Fn.numR z2 = s := ⟨_, rfl⟩
            obtain ⟨E2, hE2⟩ : ∃ s, Fn.expR z2 = s := ⟨_, rfl⟩
            have HNE2 : Hid (Fn.numR z2 = N2 ∧ Fn.expR z2 = E2) := ⟨hN2, hE2⟩
            clear cp ho hcop b1 hz2 hz2l hz2k hs c0 c1 HT hN2 hE2
            obtain ⟨c0, c1⟩ := HT1.out.at
            obtain ⟨d0, d1⟩ := (HT1.out.next (below_one y1 (.cells #[.string m0, .slice ou N cu] 24))).at
            go_wp2_with fail
            have b2 := below_one y1 (.cells #[.string m0, .slice ou N cu] 24)
            have NB := h1_0 y1 (.cells #[.string m0, .slice ou N cu] 24)
            have HT2 := HT1.out.next b2
            obtain ⟨z3, hz3, hz3l, hz3k⟩ := HT2.lies HS2.out hN0
            have E3 : Fn.numR z3 = N2 ∧ Fn.expR z3 = E2 := ⟨(numR_keys (hz3k.trans HZ2.out.2.2.symm)).trans HNE2.out.1, (expR_keys (hz3k.trans HZ2.out.2.2.symm)).trans HNE2.out.2⟩
            have L2 := Fs.lies_below HZ2.out.1 b2
            refine (Fn.num_any m0 _ z3 _ hz3 hz3l).mono ?_
            rintro e y2 ⟨rfl, b3⟩
            rw [E3.1]
            have HT3 : Hid (Tx w y2 x3.heap.size g N m0 (.slice o0 N cp0) (other a1 i ts0) C f) := HT2.next b3
            have NB3 : Hid (y2.heap[y1.heap.size]? = some (.cells #[.string m0, .slice ou N cu] 24)) := kept b3 NB
            have L3 : Hid (Fs.Lies y2 (.slice ou N cu) z2) := Fs.lies_below L2 b3
            clear c0 c1 d0 d1 b2 NB HT2 hz3 hz3l hz3k E3 z3 L2 b3 HT1
            obtain ⟨c0, c1⟩ := HT3.out.at
            go_wp2_with fail
            obtain ⟨z3, hz3, hz3l, hz3k⟩ := HT3.out.lies HS2.out hN0
            have E3 : Fn.expR z3 = E2 := (expR_keys (hz3k.trans HZ2.out.2.2.symm)).trans HNE2.out.2
            refine (Fn.exp_any m0 _ z3 _ hz3 hz3l).mono ?_
            rintro e y3 ⟨rfl, b4⟩
            rw [E3]
            have HT4 : Hid (Tx w y3 x3.heap.size g N m0 (.slice o0 N cp0) (other a1 i ts0) C f) := HT3.out.next b4
            have NB4 : Hid (y3.heap[y1.heap.size]? = some (.cells #[.string m0, .slice ou N cu] 24)) := kept b4 NB3.out
            have L4 : Hid (Fs.Lies y3 (.slice ou N cu) z2) := Fs.lies_below L3.out b4
            clear c0 c1 hz3 hz3l hz3k E3 z3 b4 HT3 NB3 L3
            obtain ⟨c0, c1, _, _⟩ := held2 (Below.refl _ y3) NB4.out
            go_wp2_with fail
            refine (Fn.numr_any m0 _ z2 y3 L4.out HZ2.out.2.1).mono ?_
            rintro e y4 ⟨rfl, b5⟩
            rw [HNE2.out.1]
            have HT5 : Hid (Tx w y4 x3.heap.size g N m0 (.slice o0 N cp0) (other a1 i ts0) C f) := HT4.out.next b5
            have NB5 : Hid (y4.heap[y1.heap.size]? = some (.cells #[.string m0, .slice ou N cu] 24)) := kept b5 NB4.out
            have L5 : Hid (Fs.Lies y4 (.slice ou N cu) z2) := Fs.lies_below L4.out b5
            clear c0 c1 b5 HT4 NB4 L4
            obtain ⟨c0, c1, _, _⟩ := held2 (Below.refl _ y4) NB5.out
            go_wp2_with fail
            refine (Fn.expr_any m0 _ z2 y4 L5.out HZ2.out.2.1).mono ?_
            rintro e y5 ⟨rfl, b6⟩
            rw [HNE2.out.2]
            have B6 := (HT5.out.next b6).st.1
            clear c0 c1 b6 HT5 NB5 L5
            go_wp2_with fail
            go_ret
            exact ⟨by simp, B6⟩

set_option maxRecDepth 100000 in
theorem contract (H : Type) (enc : TypeId × Value → H) (W : World) (base : Nat) (args : Array Value) (ds gs : List (DataW H)) (before : List MemPlace)
    (hval : ∀ (j : Nat) t v, Try.f3.params[j]? = some t → args[j]? = some v → Value.okWide Try.prog W .any base t v)
    (hW : DataW.Whole enc Try.prog Try.f3.params.toList Rows.cardOfSpec.vars false W args.toList ds gs before) (hk : Rows.uptoSmall H (ds ++ gs) = true) :
    Calls Try.prog 3 args W fun e W' => ∃ v, e = .returned v ∧ Rows.cardOfSpec.post enc Try.prog Try.f3 false true false false W args v W' := by
  have hW' := hW
  obtain ⟨p, q, hA0, hV, rfl, hfz, hnd⟩ := hW
  have hA : DataW.TrodAll enc Try.prog W 0 (fun _ => true) true Try.f3.params.toList args.toList ds p := hA0
  rw [Try.params3] at hA hval
  obtain ⟨v0, vs0, d0, ds0, p0, q0, hargs, rfl, rfl, h0, r0⟩ := trodAll_cons hA
  obtain ⟨v1, vs1, d1, ds1, p1, q1, rfl, rfl, rfl, h1, r1⟩ := trodAll_cons r0
  obtain ⟨rfl, rfl, rfl⟩ := trodAll_nil r1
  obtain rfl : args = #[v0, v1] := by cases args; simp_all
  obtain ⟨rfl, rfl⟩ := trodVars_none hV
  obtain ⟨a1, rfl, rfl, rfl, w1⟩ := open_string Try.underlying9 (hval 1 9 v1 rfl rfl) h1
  clear hA0
  simp only [List.append_nil] at hk
  have hk1 := of_decide_eq_true hk
  simp only [Rows.uptoBulkAll, Rows.uptoBulk] at hk1
  obtain ⟨m0, v0, ts0, rfl, w0, x0, lt0⟩ := Mo.open_msg (hval 0 24 v0 rfl rfl) h0 (by omega)
  have e1 : a1.data.toList.length = a1.size := by rw [Array.length_toList]; rfl
  refine (walk m0 v0 ts0 a1 W w0 x0 w1 (by omega)).mono fun e W' ⟨he, bel⟩ => ?_
  subst he
  exact ⟨_, rfl, _, _, _, [], _, [], hW', trodAll_mk1 (shut_bool Try.underlying4 _), (trodAll_cons_mk (Below.trod (by kernel_rfl) (by kernel_rfl) (of_decide_eq_true (by kernel_rfl)) h0 bel lt0) (trodAll_cons_mk (shut_string Try.underlying9 w1) trodAll_mk0)), rfl, bel.frame _, fun h => by cases h⟩

set_option maxRecDepth 100000 in
theorem lifted (os : Os) (started : os.Started) (H : Type) (enc : TypeId × Value → H) (F : Stop.Interp) :
    ReturnsInHanded {} Try.checked os 3 .any ((Rows.OpenSpec.upto Rows.cardOfSpec).pre6 enc Try.prog Try.f3 Rows.cardOfUptoRow.domain false) (((Rows.OpenSpec.upto Rows.cardOfSpec).at F).post enc Try.prog Try.f3 false true false false) := by
  refine returnsInHanded_of_cond (C := Try.checked) (s := Rows.OpenSpec.upto Rows.cardOfSpec) (k := Rows.uptoSmall) rfl own started (by kernel_rfl) Try.func3
    (OpenSpec.witness (enc := enc) (C := Try.checked) (s := Rows.OpenSpec.upto Rows.cardOfSpec) (k := Rows.uptoSmall) rfl false ⟨#[], #[.agg #[.string .empty, .slice none 0 0], .string .empty], []⟩ 8 (by kernel_rfl) (by kernel_rfl) (by kernel_rfl)
      (x := ([.agg [.lit (.string []), .nil], .lit (.string [])], [], [])) (by kernel_rfl) rfl (by kernel_rfl)) ?_
  intro W base args ds gs before hval hW _ hk _
  exact contract H enc W base args ds gs before hval hW hk

theorem proved : Rows.CardOfUptoSaid :=
  OpenClaim.holds_of_cond 3 Try.f3 rfl rfl rfl rfl rfl rfl rfl ⟨rfl, rfl, rfl, rfl, rfl⟩ rfl rfl rfl rfl rfl (by kernel_rfl) Try.func3 (by kernel_rfl)
    (of_decide_eq_true (by kernel_rfl)) (by unfold Func.isWrapper; first | (rw [if_pos (by decide +kernel)]; kernel_rfl) | (rw [if_neg (by decide +kernel)]; exact ⟨rfl, rfl⟩))
    (fun os started H enc _ F => lifted os started H enc F)
#print axioms proved
end Go.Proofs.Ytbekjlinnbmpgaa.cardOf
