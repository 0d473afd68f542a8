/- FrameBack: the law out of the contracts; the frame of the row. -/
import Derived.Test.YtfoddooehanemaaRows
import Derived.WalkKit
import Derived.ProofKit
import Derived.OpenShut
import Derived.ShutString
import Derived.ChangeOld
import Derived.Below
import Derived.JoinedCond
import Derived.Carry
import Derived.SizedLaws
import Derived.Test.YtfoddooehanemaaFj
import Derived.Test.YtfoddooehanemaaFw
import Derived.Test.YtfoddooehanemaaSg
import Derived.Test.YtfoddooehanemaaSb
namespace Go.Proofs.Ytfoddooehanemaa.frameBack
open Go.ChangeShapes Go.WideShapes Go.ChangeAt Go.RowKit
open Go.ChangeMaps (open_string shut_string)
set_option linter.unusedVariables false

theorem own : ownKnob Try.prog.godebug = none := by kernel_rfl

open Fa Fb Fm Ff Fg Fh Fk Fu Fv Fw
theorem lies_fr {w y x : World} {B : List Nat} {v : Value} {z : List Int} (h : Sl.Lies w v z) (hb : Below w.heap.size w y) (f : Fr B y x) (hB : ∀ q ∈ B, w.heap.size ≤ q) : Sl.Lies x v z :=
  Sl.lies_but h (Nat.le_refl _) fun k hk => (f.block k (Nat.lt_of_lt_of_le hk hb.size) (fun hm => by have := hB k hm; omega)).trans (hb.block k hk)
theorem below_fr {w y x : World} {B : List Nat} (hb : Below w.heap.size w y) (f : Fr B y x) (hB : ∀ q ∈ B, w.heap.size ≤ q) : Below w.heap.size w x :=
  ⟨f.os.trans hb.os, f.tape.trans hb.tape, f.output.trans hb.output, Nat.le_trans hb.size f.size, fun k hk => (f.block k (Nat.lt_of_lt_of_le hk hb.size) (fun hm => by have := hB k hm; omega)).trans (hb.block k hk)⟩
theorem rgt_of {h m : Nat} (h1 : 1 ≤ h) (h4 : h ≤ 4) (m1 : 1 ≤ m) (m9 : m ≤ 9999) : rgt (h : Int) (m : Int) = true := by
  simp [rgt]; omega
/-- the third list: its value, and what stands there -/
theorem sb_len {w : World} {v : Value} {z : Nat → Bool} {n : Nat} (h : Sb.Lies w v z n) : ∃ a c, v = .slice a n c ∧ n ≤ maxLen ∧ ∀ i, i < n → ∃ ad, a = some ad ∧ w.cell? (ad.add i) = some (.bool (z i)) := by
  rcases h with ⟨rfl, rfl⟩ | ⟨a, cap, rfl, h1, h2, h3⟩
  · exact ⟨_, _, rfl, Nat.zero_le _, fun i hi => absurd hi (by omega)⟩
  · exact ⟨_, _, rfl, by omega, fun i hi => ⟨a, rfl, h3 i hi⟩⟩
/-- what holds along the loop -/
structure LB (w wb wr : World) (g h m : Nat) (k : Nat) (S : ByteArray) (n : Nat) (want : List (List UInt8)) (wv : Value) : Prop where
  eq : run h m ⟨.hdr [], 0, []⟩ S.data.toList = ⟨.hdr [], n, want⟩
  sz : S.size ≤ k * 10007
  n : n ≤ k
  wl : want.length ≤ k
  own : wr.ownsRow wb.heap.size 9 1 wv want.length (strs want)
  bel : Below wb.heap.size wb wr
theorem wrp_empty (h m : Nat) (hr : rgt (h : Int) (m : Int) = true) : wrp h m ⟨#[]⟩ = (⟨#[]⟩, 142) := by
  rw [wrp, if_neg (by rw [hr]; decide), if_pos (show (⟨#[]⟩ : ByteArray).size = 0 from rfl)]
theorem wrp_long (h m : Nat) (hr : rgt (h : Int) (m : Int) = true) (s : ByteArray) (h0 : ¬ s.size = 0) (h1 : (m : Int) < (s.size : Int)) : wrp h m s = (⟨#[]⟩, 141) := by
  rw [wrp, if_neg (by rw [hr]; decide), if_neg h0, if_pos h1]
theorem wrp_ok (h m : Nat) (hr : rgt (h : Int) (m : Int) = true) (s : ByteArray) (h0 : ¬ s.size = 0) (h1 : ¬ (m : Int) < (s.size : Int)) : wrp h m s = (⟨(hb h s.size).toArray⟩ ++ s, 0) := by
  rw [wrp, if_neg (by rw [hr]; decide), if_neg h0, if_neg h1]; rfl
theorem ne_empty {s : ByteArray} (h0 : ¬ s.size = 0) : s.toList.isEmpty = false := by
  cases hl : s.toList.isEmpty with
  | false => rfl
  | true =>
    exfalso
    apply h0
    have := congrArg List.length (List.isEmpty_iff.1 hl)
    simpa [ByteArray.toList_eq] using this
/-- a round's first part: an idle sign, or none -/
structure LC (w wb wr : World) (g h m : Nat) (k : Nat) (S : ByteArray) (n : Nat) (want : List (List UInt8)) (wv : Value) : Prop where
  eq : run h m ⟨.hdr [], 0, []⟩ S.data.toList = ⟨.hdr [], n, want⟩
  sz : S.size ≤ k * 10007 + 4
  n : n ≤ k + 1
  wl : want.length ≤ k
  own : wr.ownsRow wb.heap.size 9 1 wv want.length (strs want)
  bel : Below wb.heap.size wb wr
theorem LB.none {w wb wr : World} {g h m k : Nat} {S : ByteArray} {n : Nat} {want : List (List UInt8)} {wv : Value} (J : LB w wb wr g h m k S n want wv) : LC w wb wr g h m k S n want wv :=
  ⟨J.eq, Nat.le_trans J.sz (Nat.le_add_right _ _), Nat.le_succ_of_le J.n, J.wl, J.own, J.bel⟩
theorem LB.sign {w wb wr : World} {g h m k : Nat} {S : ByteArray} {n : Nat} {want : List (List UInt8)} {wv : Value} (J : LB w wb wr g h m k S n want wv) (h1 : 1 ≤ h) (h4 : h ≤ 4) : LC w wb wr g h m k (S ++ ⟨(sg h).toArray⟩) (n + 1) want wv := by
  refine ⟨?_, ?_, by have := J.n; omega, J.wl, J.own, J.bel⟩
  · rw [cat_list, run_append, J.eq]
    exact run_sign h m h1 h4 n want
  · have := J.sz
    have h2 := sg_len h
    rw [ByteArray.size_append]
    have h3 : (⟨(sg h).toArray⟩ : ByteArray).size = (sg h).length := rfl
    omega
theorem LC.skip {w wb wr y : World} {g h m k : Nat} {S : ByteArray} {n : Nat} {want : List (List UInt8)} {wv : Value} (J : LC w wb wr g h m k S n want wv) (hb : Below wr.heap.size wr y) : LB w wb y g h m (k + 1) S n want wv :=
  ⟨J.eq, by have := J.sz; omega, J.n, by have := J.wl; omega, own_below J.own hb, Kb.keepB J.bel hb⟩
theorem LC.take {w wb wr y y2 : World} {g h m k : Nat} {S : ByteArray} {n : Nat} {want : List (List UInt8)} {wv wv' : Value} (J : LC w wb wr g h m k S n want wv) (h1 : 1 ≤ h) (h4 : h ≤ 4) (hm : m ≤ 9999) (M : ByteArray) (hM : ¬ M.size = 0) (hMm : M.size ≤ m) (hbe : Below wr.heap.size wr y) (own : y2.ownsRow wb.heap.size 9 1 wv' (want.length + 1) (strs want ++ [str M.data.toList])) (gr : y.grownBy y2 wv.ownBlock) : LB w wb y2 g h m (k + 1) (S ++ (⟨(hb h M.size).toArray⟩ ++ M)) n (want ++ [M.data.toList]) wv' := by
  have hl : M.data.toList.length = M.size := rfl
  refine ⟨?_, ?_, J.n, by have := J.wl; rw [List.length_append]; simp; omega, ?_, ?_⟩
  · rw [cat_list, run_append, J.eq, cat_list]
    have := run_frame h m h1 h4 hm n want M.data.toList (by omega) (by omega)
    rw [hl] at this
    exact this
  · have := J.sz
    rw [ByteArray.size_append, ByteArray.size_append]
    have h3 : (⟨(hb h M.size).toArray⟩ : ByteArray).size = (hb h M.size).length := rfl
    rw [h3, hb_len h _ h1 h4]
    have := wid_le h
    omega
  · rw [strs_snoc, List.length_append]; exact own
  · have hb2 := Kb.keepB J.bel hbe
    refine ⟨gr.os.trans hb2.os, gr.tape.trans hb2.tape, gr.output.trans hb2.output, Nat.le_trans hb2.size gr.size, fun q hq => ?_⟩
    rw [gr.block q (Nat.lt_of_lt_of_le hq hb2.size) (fun e => by have := (own_lo J.own q e.symm).1; omega)]
    exact hb2.block q hq
theorem bel_size {w y : World} {B : Nat} (h : Below B w y) : w.heap.size ≤ y.heap.size := h.size
set_option maxRecDepth 100000 in
set_option maxHeartbeats 6400000 in
theorem walk (a0 : Int) (a1 : Int) (v2 : Value) (z2 : List ByteArray) (v3 : Value) (z3 : Nat → Bool) (n3 : Nat) (v4 : Value) (z4 : List Int) (w : World) (w0 : (Lit.int .i64 a0).wf = true) (w1 : (Lit.int .i64 a1).wf = true) (w2 : Sg.Lies w v2 z2) (w3 : Sb.Lies w v3 z3 n3) (w4 : Sl.Lies w v4 z4) :
    Calls Try.prog 7 #[.int .i64 a0, .int .i64 a1, v2, v3, v4] w fun e w' => e = .returned (.bool true) ∧ Below w.heap.size w w' := by
  have b0 := bounds_i64 w0
  have b1 := bounds_i64 w1
  have pk0 := fun x => Pick.pick_any a0 4 x b0.1 b0.2 (by omega) (by omega)
  have pk1 := fun x => Pick.pick_any a1 9999 x b1.1 b1.2 (by omega) (by omega)
  obtain ⟨h, hh, h1, h4⟩ : ∃ h : Nat, 1 + Pick.pickOf a0 4 = (h : Int) ∧ 1 ≤ h ∧ h ≤ 4 := by
    have p1 := Pick.pick_lo a0 4 (by omega)
    have p2 := Pick.pick_hi a0 4 (by omega)
    exact ⟨(1 + Pick.pickOf a0 4).toNat, by omega, by omega, by omega⟩
  obtain ⟨m, hm, m1, m9⟩ : ∃ m : Nat, 1 + Pick.pickOf a1 9999 = (m : Int) ∧ 1 ≤ m ∧ m ≤ 9999 := by
    have p1 := Pick.pick_lo a1 9999 (by omega)
    have p2 := Pick.pick_hi a1 9999 (by omega)
    exact ⟨(1 + Pick.pickOf a1 9999).toNat, by omega, by omega, by omega⟩
  have hr := rgt_of h1 h4 m1 m9
  generalize Pick.pickOf a0 4 = P0 at *
  generalize Pick.pickOf a1 9999 = P1 at *
  have HR : Hid (1 ≤ h ∧ h ≤ 4 ∧ m ≤ 9999 ∧ rgt (h : Int) (m : Int) = true ∧ 1 ≤ m) := ⟨h1, h4, m9, hr, m1⟩
  obtain ⟨oa, ocap, rfl, ol1, HO'⟩ := w2
  obtain ⟨ba, bc, rfl, bl1, HB'⟩ := sb_len w3
  have HO : Hid (∀ i (h : i < z2.length), ∃ a : Addr, oa = some a ∧ w.cell? (a.add i) = some (.string z2[i]) ∧ z2[i].size ≤ maxLen) := HO'
  have HBo : Hid (∀ i, i < n3 → ∃ ad, ba = some ad ∧ w.cell? (ad.add i) = some (.bool (z3 i))) := HB'
  have HL4 : Hid (Sl.Lies w v4 z4) := w4
  have wr0 : IntKind.i64.wrap (h : Int) = (h : Int) := by rw [IntKind.wrap_i64]; omega
  have wr1 : IntKind.i64.wrap (m : Int) = (m : Int) := by rw [IntKind.wrap_i64]; omega
  have hq0 : (h : Int) ≤ 4 := by omega
  have hq1 : (m : Int) ≤ 9999 := by omega
  have hq2 : P0 ≤ 3 := by omega
  have hq3 : P1 ≤ 9998 := by omega
  have hq4 : 0 ≤ P0 := by omega
  have hq5 : 0 ≤ P1 := by omega
  clear h1 h4 m1 m9 hr b0 b1 w0 w1 w3 w4 HO' HB'
  go_enter Try.func7, Try.ntmps7
  go_wp2_with fail
  refine (Fj.examples_any _).mono ?_
  rintro e y0 ⟨rfl, B0⟩
  have HB0 : Hid (Below w.heap.size w y0) := B0
  have hs0 := B0.size
  clear B0
  go_wp2_with fail
  refine (pk0 _).mono ?_
  rintro e y ⟨rfl, hy⟩
  rw [hy]
  clear hy y pk0
  go_wp2_with fail
  refine (pk1 _).mono ?_
  rintro e y ⟨rfl, hy⟩
  rw [hy]
  clear hy y pk1
  go_wp2_with fail
  clear hh hm wr0 wr1 hq2 hq3 hq4 hq5
  refine (new_lie h m HR.out.2.2.2.1 _).mono ?_
  rintro e y1 ⟨rfl, La, B1⟩
  obtain ⟨g, hg⟩ : ∃ g, y0.heap.size = g := ⟨_, rfl⟩
  have HB1 : Hid (Below w.heap.size w y1) := Kb.keepB HB0.out B1
  have hg1 : g < y1.heap.size := by rw [← hg]; exact La.lt
  rw [hg] at La hs0 ⊢
  have HLa : Hid (Lie y1 g h m (.hdr []) 0 none) := La
  clear La B1 HB0 hg
  obtain ⟨is, hi, hi0, hi1, hi2⟩ := info_parts infoStr
  go_wp2_with fail
  go_loopw [16, 17, 18, 19] (fun sv wv nv iv wr => ∃ (S : ByteArray) (k n : Nat) (want : List (List UInt8)), sv = .string S ∧ iv = .int .i64 (k : Int) ∧ k ≤ 40 ∧ k ≤ z2.length ∧ nv = .int .i64 (n : Int) ∧ LB w y1 wr g h m k S n want wv) (fun _ _ _ iv _ => 41 - (intOf iv).toNat)
  case atStart =>
    exact ⟨⟨#[]⟩, 0, 0, [], rfl, rfl, by omega, by omega, rfl, rfl, Nat.zero_le _, Nat.le_refl _, Nat.zero_le _, own_nil _ _, Below.refl _ _⟩
  case round =>
    obtain ⟨S, k, n, want, rfl, rfl, hk, hkl, rfl, J⟩ := hrel
    have BWr : Below w.heap.size w wr := Kb.keepB HB1.out J.bel
    by_cases hc1 : k < z2.length
    · by_cases hc2 : k < 40
      · have q0 : (k : Int) < (z2.length : Int) := by omega
        have q1 : (k : Int) < 40 := by omega
        have q2 : (0 : Int) ≤ (k : Int) := by omega
        obtain ⟨oad, rfl, cM0, hMx⟩ := HO.out k hc1
        have cM := (BWr.cell (World.block_lt_of_cell? w _ cM0)).trans cM0
        clear cM0
        generalize z2[k] = M at *
        have hSz : S.size ≤ 400280 := by have := J.sz; omega
        have hnn : (n : Int) ≤ 40 := by have := J.n; omega
        have hgl := sg_len h
        have HK : Hid (k < z2.length ∧ k < 40) := ⟨hc1, hc2⟩
        by_cases hc3 : k < n3
        · have q3 : (k : Int) < (n3 : Int) := by omega
          obtain ⟨bad, rfl, cB0⟩ := HBo.out k hc3
          have cB := (BWr.cell (World.block_lt_of_cell? w _ cB0)).trans cB0
          clear cB0
          cases hzk : z3 k with
          | true =>
            rw [hzk] at cB
            have HC : Hid (LC w y1 wr g h m k (S ++ ⟨(sg h).toArray⟩) (n + 1) want u17) := J.sign HR.out.1 HR.out.2.1
            clear J BWr hc1 hc2 hk hkl hc3 hzk
            by_cases h0 : M.size = 0
            · obtain rfl := empty_of h0
              have hw := wrp_empty h m HR.out.2.2.2.1
              go_wp2_with fail
              refine (sign_any h HR.out.1 HR.out.2.1 _).mono ?_
              rintro e ys ⟨rfl, hys⟩
              rw [hys]
              clear hys ys
              go_wp2_with fail
              refine (wrap_any h m ⟨#[]⟩ hMx _).mono ?_
              rw [hw]
              rintro e y ⟨rfl, hy⟩
              have dM := (hy.cell (World.block_lt_of_cell? _ _ cM)).trans cM
              have HY : Hid (Below wr.heap.size wr y) := hy
              clear hy hw
              go_wp2_with fail
              refine ⟨⟨(S ++ ⟨(sg h).toArray⟩), k + 1, (n + 1), want, rfl, by simp, by have := HK.out; omega, by have := HK.out; omega, by simp, HC.out.skip HY.out⟩, ?_⟩
              simp only [intOf]
              have := HK.out
              omega
            · have hne := ne_empty h0
              by_cases h1 : (m : Int) < (M.size : Int)
              · have hw := wrp_long h m HR.out.2.2.2.1 M h0 h1
                go_wp2_with fail
                refine (sign_any h HR.out.1 HR.out.2.1 _).mono ?_
                rintro e ys ⟨rfl, hys⟩
                rw [hys]
                clear hys ys
                go_wp2_with fail
                refine (wrap_any h m M hMx _).mono ?_
                rw [hw]
                rintro e y ⟨rfl, hy⟩
                have dM := (hy.cell (World.block_lt_of_cell? _ _ cM)).trans cM
                have HY : Hid (Below wr.heap.size wr y) := hy
                clear hy hw
                go_wp2_with fail
                refine ⟨⟨(S ++ ⟨(sg h).toArray⟩), k + 1, (n + 1), want, rfl, by simp, by have := HK.out; omega, by have := HK.out; omega, by simp, HC.out.skip HY.out⟩, ?_⟩
                simp only [intOf]
                have := HK.out
                omega
              · have hw := wrp_ok h m HR.out.2.2.2.1 M h0 h1
                have h1b : (M.size : Int) ≤ (m : Int) := by omega
                have hMs : M.size ≤ 9999 := by have := HR.out; omega
                have hbl : (hb h M.size).length ≤ 4 := by rw [hb_len h _ HR.out.1 HR.out.2.1]; exact wid_le h
                have HM : Hid (¬ M.size = 0 ∧ M.size ≤ m) := ⟨h0, by omega⟩
                have HTK : Hid (∀ y y2 wv', Below wr.heap.size wr y → y2.ownsRow y1.heap.size 9 1 wv' (want.length + 1) (strs want ++ [str M.data.toList]) → y.grownBy y2 u17.ownBlock → LB w y1 y2 g h m (k + 1) ((S ++ ⟨(sg h).toArray⟩) ++ (⟨(hb h M.size).toArray⟩ ++ M)) (n + 1) (want ++ [M.data.toList]) wv') := fun y y2 wv' hy own gr => HC.out.take HR.out.1 HR.out.2.1 HR.out.2.2.1 M HM.out.1 HM.out.2 hy own gr
                have HWL : Hid (want.length ≤ 40) := by have := HC.out.wl; have := HK.out; show _ ≤ _; omega
                have HOW : Hid (wr.ownsRow y1.heap.size 9 1 u17 want.length (strs want)) := HC.out.own
                have HBS : Hid (y1.heap.size ≤ wr.heap.size) := HC.out.bel.size
                generalize hb h M.size = Z at *
                clear h1 HC
                go_wp2_with fail
                refine (sign_any h HR.out.1 HR.out.2.1 _).mono ?_
                rintro e ys ⟨rfl, hys⟩
                rw [hys]
                clear hys ys
                go_wp2_with fail
                refine (wrap_any h m M hMx _).mono ?_
                rw [hw]
                rintro e y ⟨rfl, hy⟩
                have dM := (hy.cell (World.block_lt_of_cell? _ _ cM)).trans cM
                have HY : Hid (Below wr.heap.size wr y) := hy
                clear hy hw
                go_wp2_with (at_builtin; refine wpList_append_lies _ rfl _ _ _ rfl y1.heap.size 9 is _ 1 16 Try.underlying39 hi hi0 hi1 hi2 rfl (by omega) u17 want.length (strs want) rfl (own_below (own_below HOW.out HY.out) (Kb.below_one y _)) ⟨y.heap.size, 0, none⟩ 1 1 [str M.data.toList] rfl rfl (new_cell1 y (str M.data.toList) 9) (by intro x hx; rw [List.mem_singleton.1 hx]; rfl) (by omega) (by have := HWL.out; unfold maxLen; omega) (by have := HWL.out; omega) (by have h8 := HBS.out; have h9 := HY.out.size; simp; omega) _ rfl ?_; intro g3 cap3 y3 own3 gr3 at3 lt3)
                refine ⟨⟨(S ++ ⟨(sg h).toArray⟩) ++ (⟨Z.toArray⟩ ++ M), k + 1, (n + 1), want ++ [M.data.toList], rfl, by simp, by have := HK.out; omega, by have := HK.out; omega, by simp, HTK.out _ y3 _ (Kb.keepB HY.out (Kb.below_one y _)) own3 gr3⟩, ?_⟩
                simp only [intOf]
                have := HK.out
                omega
          | false =>
            rw [hzk] at cB
            have HC : Hid (LC w y1 wr g h m k S n want u17) := J.none
            clear J BWr hc1 hc2 hk hkl hc3 hzk
            by_cases h0 : M.size = 0
            · obtain rfl := empty_of h0
              have hw := wrp_empty h m HR.out.2.2.2.1
              go_wp2_with fail
              refine (wrap_any h m ⟨#[]⟩ hMx _).mono ?_
              rw [hw]
              rintro e y ⟨rfl, hy⟩
              have dM := (hy.cell (World.block_lt_of_cell? _ _ cM)).trans cM
              have HY : Hid (Below wr.heap.size wr y) := hy
              clear hy hw
              go_wp2_with fail
              refine ⟨⟨S, k + 1, n, want, rfl, by simp, by have := HK.out; omega, by have := HK.out; omega, rfl, HC.out.skip HY.out⟩, ?_⟩
              simp only [intOf]
              have := HK.out
              omega
            · have hne := ne_empty h0
              by_cases h1 : (m : Int) < (M.size : Int)
              · have hw := wrp_long h m HR.out.2.2.2.1 M h0 h1
                go_wp2_with fail
                refine (wrap_any h m M hMx _).mono ?_
                rw [hw]
                rintro e y ⟨rfl, hy⟩
                have dM := (hy.cell (World.block_lt_of_cell? _ _ cM)).trans cM
                have HY : Hid (Below wr.heap.size wr y) := hy
                clear hy hw
                go_wp2_with fail
                refine ⟨⟨S, k + 1, n, want, rfl, by simp, by have := HK.out; omega, by have := HK.out; omega, rfl, HC.out.skip HY.out⟩, ?_⟩
                simp only [intOf]
                have := HK.out
                omega
              · have hw := wrp_ok h m HR.out.2.2.2.1 M h0 h1
                have h1b : (M.size : Int) ≤ (m : Int) := by omega
                have hMs : M.size ≤ 9999 := by have := HR.out; omega
                have hbl : (hb h M.size).length ≤ 4 := by rw [hb_len h _ HR.out.1 HR.out.2.1]; exact wid_le h
                have HM : Hid (¬ M.size = 0 ∧ M.size ≤ m) := ⟨h0, by omega⟩
                have HTK : Hid (∀ y y2 wv', Below wr.heap.size wr y → y2.ownsRow y1.heap.size 9 1 wv' (want.length + 1) (strs want ++ [str M.data.toList]) → y.grownBy y2 u17.ownBlock → LB w y1 y2 g h m (k + 1) (S ++ (⟨(hb h M.size).toArray⟩ ++ M)) n (want ++ [M.data.toList]) wv') := fun y y2 wv' hy own gr => HC.out.take HR.out.1 HR.out.2.1 HR.out.2.2.1 M HM.out.1 HM.out.2 hy own gr
                have HWL : Hid (want.length ≤ 40) := by have := HC.out.wl; have := HK.out; show _ ≤ _; omega
                have HOW : Hid (wr.ownsRow y1.heap.size 9 1 u17 want.length (strs want)) := HC.out.own
                have HBS : Hid (y1.heap.size ≤ wr.heap.size) := HC.out.bel.size
                generalize hb h M.size = Z at *
                clear h1 HC
                go_wp2_with fail
                refine (wrap_any h m M hMx _).mono ?_
                rw [hw]
                rintro e y ⟨rfl, hy⟩
                have dM := (hy.cell (World.block_lt_of_cell? _ _ cM)).trans cM
                have HY : Hid (Below wr.heap.size wr y) := hy
                clear hy hw
                go_wp2_with (at_builtin; refine wpList_append_lies _ rfl _ _ _ rfl y1.heap.size 9 is _ 1 16 Try.underlying39 hi hi0 hi1 hi2 rfl (by omega) u17 want.length (strs want) rfl (own_below (own_below HOW.out HY.out) (Kb.below_one y _)) ⟨y.heap.size, 0, none⟩ 1 1 [str M.data.toList] rfl rfl (new_cell1 y (str M.data.toList) 9) (by intro x hx; rw [List.mem_singleton.1 hx]; rfl) (by omega) (by have := HWL.out; unfold maxLen; omega) (by have := HWL.out; omega) (by have h8 := HBS.out; have h9 := HY.out.size; simp; omega) _ rfl ?_; intro g3 cap3 y3 own3 gr3 at3 lt3)
                refine ⟨⟨S ++ (⟨Z.toArray⟩ ++ M), k + 1, n, want ++ [M.data.toList], rfl, by simp, by have := HK.out; omega, by have := HK.out; omega, rfl, HTK.out _ y3 _ (Kb.keepB HY.out (Kb.below_one y _)) own3 gr3⟩, ?_⟩
                simp only [intOf]
                have := HK.out
                omega
        · have q3 : ¬ (k : Int) < (n3 : Int) := by omega
          have HC : Hid (LC w y1 wr g h m k S n want u17) := J.none
          clear J BWr hc1 hc2 hk hkl hc3
          by_cases h0 : M.size = 0
          · obtain rfl := empty_of h0
            have hw := wrp_empty h m HR.out.2.2.2.1
            go_wp2_with fail
            refine (wrap_any h m ⟨#[]⟩ hMx _).mono ?_
            rw [hw]
            rintro e y ⟨rfl, hy⟩
            have dM := (hy.cell (World.block_lt_of_cell? _ _ cM)).trans cM
            have HY : Hid (Below wr.heap.size wr y) := hy
            clear hy hw
            go_wp2_with fail
            refine ⟨⟨S, k + 1, n, want, rfl, by simp, by have := HK.out; omega, by have := HK.out; omega, rfl, HC.out.skip HY.out⟩, ?_⟩
            simp only [intOf]
            have := HK.out
            omega
          · have hne := ne_empty h0
            by_cases h1 : (m : Int) < (M.size : Int)
            · have hw := wrp_long h m HR.out.2.2.2.1 M h0 h1
              go_wp2_with fail
              refine (wrap_any h m M hMx _).mono ?_
              rw [hw]
              rintro e y ⟨rfl, hy⟩
              have dM := (hy.cell (World.block_lt_of_cell? _ _ cM)).trans cM
              have HY : Hid (Below wr.heap.size wr y) := hy
              clear hy hw
              go_wp2_with fail
              refine ⟨⟨S, k + 1, n, want, rfl, by simp, by have := HK.out; omega, by have := HK.out; omega, rfl, HC.out.skip HY.out⟩, ?_⟩
              simp only [intOf]
              have := HK.out
              omega
            · have hw := wrp_ok h m HR.out.2.2.2.1 M h0 h1
              have h1b : (M.size : Int) ≤ (m : Int) := by omega
              have hMs : M.size ≤ 9999 := by have := HR.out; omega
              have hbl : (hb h M.size).length ≤ 4 := by rw [hb_len h _ HR.out.1 HR.out.2.1]; exact wid_le h
              have HM : Hid (¬ M.size = 0 ∧ M.size ≤ m) := ⟨h0, by omega⟩
              have HTK : Hid (∀ y y2 wv', Below wr.heap.size wr y → y2.ownsRow y1.heap.size 9 1 wv' (want.length + 1) (strs want ++ [str M.data.toList]) → y.grownBy y2 u17.ownBlock → LB w y1 y2 g h m (k + 1) (S ++ (⟨(hb h M.size).toArray⟩ ++ M)) n (want ++ [M.data.toList]) wv') := fun y y2 wv' hy own gr => HC.out.take HR.out.1 HR.out.2.1 HR.out.2.2.1 M HM.out.1 HM.out.2 hy own gr
              have HWL : Hid (want.length ≤ 40) := by have := HC.out.wl; have := HK.out; show _ ≤ _; omega
              have HOW : Hid (wr.ownsRow y1.heap.size 9 1 u17 want.length (strs want)) := HC.out.own
              have HBS : Hid (y1.heap.size ≤ wr.heap.size) := HC.out.bel.size
              generalize hb h M.size = Z at *
              clear h1 HC
              go_wp2_with fail
              refine (wrap_any h m M hMx _).mono ?_
              rw [hw]
              rintro e y ⟨rfl, hy⟩
              have dM := (hy.cell (World.block_lt_of_cell? _ _ cM)).trans cM
              have HY : Hid (Below wr.heap.size wr y) := hy
              clear hy hw
              go_wp2_with (at_builtin; refine wpList_append_lies _ rfl _ _ _ rfl y1.heap.size 9 is _ 1 16 Try.underlying39 hi hi0 hi1 hi2 rfl (by omega) u17 want.length (strs want) rfl (own_below (own_below HOW.out HY.out) (Kb.below_one y _)) ⟨y.heap.size, 0, none⟩ 1 1 [str M.data.toList] rfl rfl (new_cell1 y (str M.data.toList) 9) (by intro x hx; rw [List.mem_singleton.1 hx]; rfl) (by omega) (by have := HWL.out; unfold maxLen; omega) (by have := HWL.out; omega) (by have h8 := HBS.out; have h9 := HY.out.size; simp; omega) _ rfl ?_; intro g3 cap3 y3 own3 gr3 at3 lt3)
              refine ⟨⟨S ++ (⟨Z.toArray⟩ ++ M), k + 1, n, want ++ [M.data.toList], rfl, by simp, by have := HK.out; omega, by have := HK.out; omega, rfl, HTK.out _ y3 _ (Kb.keepB HY.out (Kb.below_one y _)) own3 gr3⟩, ?_⟩
              simp only [intOf]
              have := HK.out
              omega
      · have q0 : (k : Int) < (z2.length : Int) := by omega
        have q1 : ¬ (k : Int) < 40 := by omega
        have HJ : Hid (LB w y1 wr g h m k S n want u17) := J
        have HBW : Hid (Below w.heap.size w wr) := BWr
        have hszr := J.bel.size
        have HK : Hid (k ≤ 40) := hk
        have HLr : Hid (Lie wr g h m (.hdr []) 0 none) := HLa.out.below J.bel
        have hSz : S.size ≤ 400280 := by have := J.sz; omega
        have fa := fed_any HLr.out HR.out.1 HR.out.2.1 HR.out.2.2.1 S (by omega) (by omega) v4 z4 (fun x hx => lies_fr HL4.out HBW.out hx (by intro q hq; simp only [Option.toList, List.mem_cons, List.not_mem_nil, or_false] at hq; omega))
        rw [HJ.out.eq] at fa
        clear J BWr hk hkl
        go_wp2_with fail
        refine fa.mono ?_
        rintro e y3 ⟨l, bba, rfl, ownL, La3, nba, f3, nla⟩
        rw [show ((errN (.hdr []) : Nat) : Int) = 0 from rfl]
        have ownW := own_lie HJ.out.own HLr.out f3 (by omega)
        have sm := same_eq ownL ownW (show want.length ≤ 8796093022208 by have := HJ.out.wl; have := HK.out; omega)
        have HLa3 : Hid (Lie y3 g h m (.hdr []) n bba) := La3
        have HBW3 : Hid (Below w.heap.size w y3) := below_fr HBW.out f3 (by intro q hq; simp only [Option.toList, List.mem_cons, List.not_mem_nil, or_false] at hq; omega)
        clear fa ownL ownW La3 nba f3 nla
        go_wp2_with fail
        refine sm.mono ?_
        rintro e y5 ⟨rfl, B5⟩
        have La5 := HLa3.out.below B5
        have HBW5 : Hid (Below w.heap.size w y5) := Kb.keepB HBW3.out B5
        clear B5 sm
        go_wp2_with fail
        refine (waits_any La5 HR.out.1 HR.out.2.1 HR.out.2.2.1).mono ?_
        rintro e y6 ⟨rfl, B6⟩
        rw [show ((waitN h (.hdr []) : Nat) : Int) = 0 from rfl]
        have La6 := La5.below B6
        have HBW6 : Hid (Below w.heap.size w y6) := Kb.keepB HBW5.out B6
        clear B6 La5
        go_wp2_with fail
        refine (idle_any La6).mono ?_
        rintro e y7 ⟨rfl, rfl⟩
        go_wp2_with fail
        go_ret
        exact ⟨rfl, HBW6.out⟩
    · have q0 : ¬ (k : Int) < (z2.length : Int) := by omega
      have HJ : Hid (LB w y1 wr g h m k S n want u17) := J
      have HBW : Hid (Below w.heap.size w wr) := BWr
      have hszr := J.bel.size
      have HK : Hid (k ≤ 40) := hk
      have HLr : Hid (Lie wr g h m (.hdr []) 0 none) := HLa.out.below J.bel
      have hSz : S.size ≤ 400280 := by have := J.sz; omega
      have fa := fed_any HLr.out HR.out.1 HR.out.2.1 HR.out.2.2.1 S (by omega) (by omega) v4 z4 (fun x hx => lies_fr HL4.out HBW.out hx (by intro q hq; simp only [Option.toList, List.mem_cons, List.not_mem_nil, or_false] at hq; omega))
      rw [HJ.out.eq] at fa
      clear J BWr hk hkl
      go_wp2_with fail
      refine fa.mono ?_
      rintro e y3 ⟨l, bba, rfl, ownL, La3, nba, f3, nla⟩
      rw [show ((errN (.hdr []) : Nat) : Int) = 0 from rfl]
      have ownW := own_lie HJ.out.own HLr.out f3 (by omega)
      have sm := same_eq ownL ownW (show want.length ≤ 8796093022208 by have := HJ.out.wl; have := HK.out; omega)
      have HLa3 : Hid (Lie y3 g h m (.hdr []) n bba) := La3
      have HBW3 : Hid (Below w.heap.size w y3) := below_fr HBW.out f3 (by intro q hq; simp only [Option.toList, List.mem_cons, List.not_mem_nil, or_false] at hq; omega)
      clear fa ownL ownW La3 nba f3 nla
      go_wp2_with fail
      refine sm.mono ?_
      rintro e y5 ⟨rfl, B5⟩
      have La5 := HLa3.out.below B5
      have HBW5 : Hid (Below w.heap.size w y5) := Kb.keepB HBW3.out B5
      clear B5 sm
      go_wp2_with fail
      refine (waits_any La5 HR.out.1 HR.out.2.1 HR.out.2.2.1).mono ?_
      rintro e y6 ⟨rfl, B6⟩
      rw [show ((waitN h (.hdr []) : Nat) : Int) = 0 from rfl]
      have La6 := La5.below B6
      have HBW6 : Hid (Below w.heap.size w y6) := Kb.keepB HBW5.out B6
      clear B6 La5
      go_wp2_with fail
      refine (idle_any La6).mono ?_
      rintro e y7 ⟨rfl, rfl⟩
      go_wp2_with fail
      go_ret
      exact ⟨rfl, HBW6.out⟩

set_option maxRecDepth 100000 in
theorem contract (H : Type) (enc : TypeId × Value → H) (W : World) (base : Nat) (args : Array Value) (ds gs : List (DataW H)) (before : List MemPlace)
    (hval : ∀ (j : Nat) t v, Try.f7.params[j]? = some t → args[j]? = some v → Value.okWide Try.prog W .any base t v)
    (hW : DataW.Whole enc Try.prog Try.f7.params.toList Rows.frameBackSpec.vars false W args.toList ds gs before) :
    Calls Try.prog 7 args W fun e W' => ∃ v, e = .returned v ∧ Rows.frameBackSpec.post enc Try.prog Try.f7 false true false false W args v W' := by
  have hW' := hW
  obtain ⟨p, q, hA0, hV, rfl, hfz, hnd⟩ := hW
  have hA : DataW.TrodAll enc Try.prog W 0 (fun _ => true) true Try.f7.params.toList args.toList ds p := hA0
  rw [Try.params7] at hA hval
  obtain ⟨v0, vs0, d0, ds0, p0, q0, hargs, rfl, rfl, h0, r0⟩ := trodAll_cons hA
  obtain ⟨v1, vs1, d1, ds1, p1, q1, rfl, rfl, rfl, h1, r1⟩ := trodAll_cons r0
  obtain ⟨v2, vs2, d2, ds2, p2, q2, rfl, rfl, rfl, h2, r2⟩ := trodAll_cons r1
  obtain ⟨v3, vs3, d3, ds3, p3, q3, rfl, rfl, rfl, h3, r3⟩ := trodAll_cons r2
  obtain ⟨v4, vs4, d4, ds4, p4, q4, rfl, rfl, rfl, h4, r4⟩ := trodAll_cons r3
  obtain ⟨rfl, rfl, rfl⟩ := trodAll_nil r4
  obtain rfl : args = #[v0, v1, v2, v3, v4] := by cases args; simp_all
  obtain ⟨rfl, rfl⟩ := trodVars_none hV
  obtain ⟨a0, rfl, rfl, rfl, w0⟩ := open_int Try.underlying3 (hval 0 3 v0 rfl rfl) h0
  obtain ⟨a1, rfl, rfl, rfl, w1⟩ := open_int Try.underlying3 (hval 1 3 v1 rfl rfl) h1
  obtain ⟨z2, w2, lt2, bulk2⟩ := Sg.open_sg (hval 2 39 v2 rfl rfl) h2
  obtain ⟨z3, n3, w3, lt3⟩ := Sb.open_sb (hval 3 64 v3 rfl rfl) h3
  obtain ⟨z4, w4, lt4, bulk4⟩ := Sl.open_sl (hval 4 60 v4 rfl rfl) h4
  clear hA0
  refine (walk a0 a1 v2 z2 v3 z3 n3 v4 z4 W w0 w1 w2 w3 w4).mono fun e W' ⟨he, bel⟩ => ?_
  subst he
  exact ⟨_, rfl, _, _, _, [], _, [], hW', trodAll_mk1 (shut_bool Try.underlying4 _), (trodAll_cons_mk (shut_int Try.underlying3 w0) (trodAll_cons_mk (shut_int Try.underlying3 w1) (trodAll_cons_mk (Below.trod (by kernel_rfl) (by kernel_rfl) (of_decide_eq_true (by kernel_rfl)) h2 bel lt2) (trodAll_cons_mk (Below.trod (by kernel_rfl) (by kernel_rfl) (of_decide_eq_true (by kernel_rfl)) h3 bel lt3) (trodAll_cons_mk (Below.trod (by kernel_rfl) (by kernel_rfl) (of_decide_eq_true (by kernel_rfl)) h4 bel lt4) trodAll_mk0))))), rfl, bel.frame _, fun h => by cases h⟩

set_option maxRecDepth 100000 in
theorem lifted (os : Os) (started : os.Started) (H : Type) (enc : TypeId × Value → H) :
    ReturnsInHanded {} Try.checked os 7 .any (Rows.frameBackSpec.pre6 enc Try.prog Try.f7 Rows.frameBackRow.domain false) (Rows.frameBackSpec.post enc Try.prog Try.f7 false true false false) := by
  refine returnsInHanded_of_change (C := Try.checked) own started (by kernel_rfl) Try.func7
    (ChangeSpec.witness6 (enc := enc) (C := Try.checked) false ⟨#[], #[.int .i64 0, .int .i64 0, .slice none 0 0, .slice none 0 0, .slice none 0 0], []⟩ 8 (by kernel_rfl) (by kernel_rfl) (by kernel_rfl) (by kernel_rfl)) ?_
  intro W base args ds gs before hval hW _ _
  exact contract H enc W base args ds gs before hval hW

theorem proved : Rows.FrameBackSaid :=
  OpenClaim.holds_of_wide 7 Try.f7 rfl rfl rfl rfl rfl rfl rfl ⟨rfl, rfl, rfl, rfl, rfl⟩ rfl rfl rfl rfl rfl (by kernel_rfl) Try.func7 (by kernel_rfl)
    (of_decide_eq_true (by kernel_rfl)) (by unfold Func.isWrapper; first | (rw [if_pos (by decide +kernel)]; kernel_rfl) | (rw [if_neg (by decide +kernel)]; exact ⟨rfl, rfl⟩))
    (fun os started H enc _ => lifted os started H enc)
#print axioms proved
end Go.Proofs.Ytfoddooehanemaa.frameBack
