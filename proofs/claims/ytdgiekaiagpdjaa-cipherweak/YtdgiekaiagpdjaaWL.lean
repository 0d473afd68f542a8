/- CipherWeak: the law out of the contracts; the frame of the row. -/
import Derived.Test.YtdgiekaiagpdjaaRows
import Derived.WalkKit
import Derived.ProofKit
import Derived.OpenShut
import Derived.ShutString
import Derived.ChangeOld
import Derived.Below
import Derived.JoinedCond
import Derived.Carry
import Derived.SizedLaws
import Derived.Test.YtdgiekaiagpdjaaWe
import Derived.Test.YtdgiekaiagpdjaaSb
namespace Go.Proofs.Ytdgiekaiagpdjaa.cipherWeak
open Go.ChangeShapes Go.WideShapes Go.ChangeAt Go.RowKit
open Go.ChangeMaps (open_string shut_string)
set_option linter.unusedVariables false

theorem own : ownKnob Try.prog.godebug = none := by kernel_rfl

set_option maxRecDepth 100000 in
set_option maxHeartbeats 1600000 in
theorem walk (a0 : Int) (v1 : Value) (z1 : Nat → Bool) (n1 : Nat) (a2 : ByteArray) (a3 : ByteArray) (a4 : Int) (w : World) (w0 : (Lit.int .i64 a0).wf = true) (w1 : Sb.Lies w v1 z1 n1) (w2 : a2.size ≤ maxLen) (w3 : a3.size ≤ maxLen) (w4 : (Lit.int .i64 a4).wf = true) :
    Calls Try.prog 3 #[.int .i64 a0, v1, .string a2, .string a3, .int .i64 a4] w fun e w' => e = .returned (.bool true) ∧ Below w.heap.size w w' := by
  obtain ⟨q, hq, PQ⟩ := We.pick_nat a0 w0 4 (by decide) (by decide)
  obtain ⟨p, hp, PP⟩ := We.pick_nat a4 w4 3 (by decide) (by decide)
  rw [show ((4 : Nat) : Int) = 4 from rfl] at PQ
  rw [show ((3 : Nat) : Int) = 3 from rfl] at PP
  obtain ⟨o1, cp1, rfl, m1, c1⟩ := We.shape w1
  have Hc1 : Hid (∀ i, i < n1 → ∃ a : Addr, o1 = some a ∧ w.cell? (a.add i) = some (.bool (z1 i))) := c1
  have KN := fun y => Ck.known_any y
  have WH := fun y => Fi.whole_any a2 20 (by decide) y (by have h := w2; unfold maxLen at h; exact h)
  have FI := fun y => Fi.fit_any a3 24 (by decide) y
  obtain ⟨K0, hK0⟩ : ∃ K0 : ByteArray, K0 = ⟨(We.wks q).toArray⟩ := ⟨_, rfl⟩
  have hlit : ∀ (W : World) (g : Nat) (t : TypeId), W.heap[g]? = some (.cells #[.string ⟨#[1, 1, 1, 1, 1, 1, 1, 1]⟩, .string ⟨#[254, 254, 254, 254, 254, 254, 254, 254]⟩, .string ⟨#[224, 224, 224, 224, 241, 241, 241, 241]⟩, .string ⟨#[31, 31, 31, 31, 14, 14, 14, 14]⟩] t) → W.cell? ⟨g, q, Option.none⟩ = some (.string K0) := fun W g t h => by rw [hK0]; exact We.lit_at W g q t hq h
  have k8 : K0.size = 8 := by rw [hK0]; show (We.wks q).toArray.size = 8; rw [List.size_toArray, We.wks_len]
  have kl : K0.data.toList = We.wks q := by rw [hK0]
  have i0 : (0 : Int) ≤ (q : Int) := by omega
  have i1 : (q : Int) < 4 := by omega
  have i2 : (0 : Int) ≤ (p : Int) := by omega
  have i3 : (p : Int) ≤ 2 := by omega
  have Hk8 : Hid (K0.size = 8 ∧ K0.data.toList = We.wks q) := ⟨k8, kl⟩
  have Hp : Hid (p < 3) := hp
  clear w0 w1 w2 w3 w4 c1 hK0 k8 kl hq hp
  go_enter Try.func3, Try.ntmps3
  go_wp2_with (first
    | (go_at_call 4; refine (KN _).mono ?_; rintro e x1 ⟨rfl, h1⟩; have hc := hlit (x1.alloc (Obj.cells #[.string ⟨#[1, 1, 1, 1, 1, 1, 1, 1]⟩, .string ⟨#[254, 254, 254, 254, 254, 254, 254, 254]⟩, .string ⟨#[224, 224, 224, 224, 241, 241, 241, 241]⟩, .string ⟨#[31, 31, 31, 31, 14, 14, 14, 14]⟩] 9)) x1.heap.size 9 (Cb.h1_0 x1 _); have h2 := Cb.below_one x1 (Obj.cells #[.string ⟨#[1, 1, 1, 1, 1, 1, 1, 1]⟩, .string ⟨#[254, 254, 254, 254, 254, 254, 254, 254]⟩, .string ⟨#[224, 224, 224, 224, 241, 241, 241, 241]⟩, .string ⟨#[31, 31, 31, 31, 14, 14, 14, 14]⟩] 9))
    | (go_at_call 5; refine (PQ _).mono ?_; rintro e x2 ⟨rfl, hx2⟩; rw [hx2]))
  have b2 := Cb.keepB h1 h2
  generalize x1.alloc (Obj.cells #[.string ⟨#[1, 1, 1, 1, 1, 1, 1, 1]⟩, .string ⟨#[254, 254, 254, 254, 254, 254, 254, 254]⟩, .string ⟨#[224, 224, 224, 224, 241, 241, 241, 241]⟩, .string ⟨#[31, 31, 31, 31, 14, 14, 14, 14]⟩] 9) = X2 at *
  have cv := run_bytes_of_string (P := Try.prog) X2 9 25 5 K0 Try.underlying9 Try.underlying25 Try.underlying5
  have rz := Pb.rw_zero K0 (grownCap X2 K0.size 0 5)
  generalize bytesRow K0 (grownCap X2 K0.size 0 5) = A0 at *
  generalize grownCap X2 K0.size 0 5 = C at *
  obtain ⟨n0, hn⟩ : ∃ n0, n0 = A0.size := ⟨_, rfl⟩
  rw [← hn] at cv
  have g0 : (X2.drew.alloc (.cells A0 5 (n0, n0 + 1))).heap[X2.heap.size]? = some (.cells A0 5 (n0, n0 + 1)) := Cb.h1_0 X2.drew _
  have b0 : Below X2.heap.size X2 (X2.drew.alloc (.cells A0 5 (n0, n0 + 1))) := ((Below.refl _ X2).drew).alloc (Nat.le_refl _) _
  generalize X2.drew.alloc (.cells A0 5 (n0, n0 + 1)) = W0 at *
  have B0 : Below w.heap.size w W0 := Cb.keepB b2 b0
  have hG : w.heap.size ≤ X2.heap.size := b2.size
  rw [cv]
  clear cv b0 b2 h1 h2 hc hlit
  generalize X2.heap.size = G at *
  have e8 := Hk8.out.1
  rw [e8]
  go_wp2
  go_loopw [14] (fun c wr => ∃ (i : Nat) (l : List UInt8) (A : Array Value), i ≤ 8 ∧ c = .int .i64 (i : Int) ∧ Pb.Rw K0 l A ∧ A.size = n0 ∧ wr.heap[G]? = some (.cells A 5 (n0, n0 + 1)) ∧ Below w.heap.size w wr) (fun c _ => 9 - (intOf c).toNat)
  case atStart => exact ⟨0, _, A0, Nat.zero_le _, rfl, rz, hn.symm, g0, B0⟩
  case round =>
    obtain ⟨i, l, A, hi, rfl, hA, hAs, hg, hb⟩ := hrel
    have hl : l.length = 8 := hA.1.trans e8
    clear rz g0 B0 hn
    have j0 : (0 : Int) ≤ (i : Int) := by omega
    by_cases hi8 : i < 8
    · by_cases hin : i < n1
      · have j1 : (i : Int) < 8 := by omega
        have j2 : (i : Int) < (n1 : Int) := by omega
        obtain ⟨a, rfl, hca⟩ := Hc1.out i hin
        have hcell : wr.cell? (a.add i) = some (.bool (z1 i)) := (hb.cell (World.block_lt_of_cell? w _ hca)).trans hca
        have hil : i < l.length := by omega
        have c0 : wr.cell? ⟨G, i, Option.none⟩ = some (.int .u8 (l[i].toNat : Int)) := by rw [cell_of_row wr _ i _ _ _ hg, hA.2.2.2 i hil]
        have f0 : wr.frozen? ⟨G, i, Option.none⟩ = false := by
          have h1 := hA.2.1
          have h2 : i < n0 := by omega
          simp [World.frozen?, hg]; omega
        obtain ⟨v, hv⟩ : ∃ v : UInt8, v = l[i] ^^^ 1 := ⟨_, rfl⟩
        have u1 : bits .xor .u8 (l[i].toNat : Int) 1 = (v.toNat : Int) := by rw [hv]; exact Od.xor1 l[i]
        have HR : Hid (Pb.Rw K0 (l.set i v) (A.setIfInBounds i (.int .u8 (v.toNat : Int)))) := by rw [hv]; exact Pb.rw_set K0 l A i hA hil
        have HA : Hid (Pb.Rw K0 l A) := hA
        have HG := Sm.setCell_heap hg i (.int .u8 (v.toNat : Int))
        have HB := Sm.below_setCell hb hG i (.int .u8 (v.toNat : Int))
        have hsz : (A.setIfInBounds i (.int .u8 (v.toNat : Int))).size = n0 := by simpa using hAs
        generalize hzi : z1 i = B at *
        clear hv hA hca hzi
        cases B with
        | true =>
          go_wp2
          exact ⟨⟨i + 1, _, _, hi8, by simp, HR.out, hsz, HG, HB⟩, by simp only [intOf]; omega⟩
        | false =>
          go_wp2
          exact ⟨⟨i + 1, _, _, hi8, by simp, HA.out, hAs, hg, hb⟩, by simp only [intOf]; omega⟩
      · have j1 : (i : Int) < 8 := by omega
        have j2 : ¬ (i : Int) < (n1 : Int) := by omega
        have RS := fun (yy : World) (hgy : yy.heap[G]? = some (.cells A 5 (n0, n0 + 1))) => Pb.rw_str (P := Try.prog) (src := 25) (dst := 9) (e := 5) (C := C) hA Try.underlying25 Try.underlying5 Try.underlying9 hgy
        rw [hl] at RS
        have kz : (⟨l.toArray⟩ : ByteArray).size = 8 := by show l.toArray.size = 8; simpa using hl
        have ka : Lo.Alk (⟨l.toArray⟩ : ByteArray).data.toList (We.wks q) := by rw [← Hk8.out.2]; simpa using hA.2.2.1
        generalize (⟨l.toArray⟩ : ByteArray) = kb at *
        have cs := RS _ hg
        clear hA hl hAs RS
        go_wp2_with (go_at_call 6; refine (WH _).mono ?_; rintro e y1 ⟨t, N, rfl, hN, hN2, hy1⟩; rw [hy1])
        obtain ⟨X, sX, U1, U2⟩ := We.twice kb t q N kz ka hN (by omega)
        have qX : ((X.size : Int) != (t.size : Int)) = false := by rw [sX]; simp
        have HN : Hid (t.size = 8 * N) := hN
        clear hN sX cs
        go_wp2_with (first
          | (go_at_call_of 7 (Value.string t); refine (U1 _).mono ?_; rintro e y2 ⟨rfl, d2⟩)
          | (go_at_call_of 7 (Value.string X); refine (U2 _).mono ?_; rintro e y3 ⟨rfl, d3⟩)
          | (go_at_call 8; refine (FI _).mono ?_; rintro e y4 ⟨L, rfl, hL, d4⟩)
          | (go_at_call 5; refine (PP _).mono ?_; rintro e y5 ⟨rfl, hy5⟩; rw [hy5]))
        have p3 := Hp.out
        have WK1 := fun u => Wk.weak_any kb u
        rw [We.key_weak kb q kz ka] at WK1
        have WK2 := fun u => Wk.weak_any (We.longB L kb (8 * p)) u
        rw [We.long_weak L kb p q hL kz p3 ka] at WK2
        have WK3 := fun u => Wk.weak_any ⟨#[16, 32, 97, 98, 99, 48, 64, 120]⟩ u
        rw [We.other_not] at WK3
        have lsz := We.long_size L kb p hL kz p3
        have WK4 := fun u => Wk.weak_any ((We.longB L kb (8 * p)).extract 0 23) u
        rw [We.short_not _ (by rw [ByteArray.size_extract, lsz]; rfl)] at WK4
        have t1 : (0 : Int) ≤ 8 * (p : Int) := by omega
        have t2 : 8 * (p : Int) ≤ (L.size : Int) := by omega
        have t3 : 8 * (p : Int) + 8 ≤ (L.size : Int) := by omega
        have t4 : 8 * (p : Int) ≤ 16 := by omega
        have t5 : (23 : Int) ≤ ((We.longB L kb (8 * p)).size : Int) := by omega
        have c1 : ¬ 9223372036854775807 < (L.extract 0 (8 * p)).size + kb.size := by rw [ByteArray.size_extract]; omega
        have c2 : ¬ 9223372036854775807 < (L.extract 0 (8 * p) ++ kb).size + (L.extract (8 * p + 8) L.size).size := by rw [ByteArray.size_append, ByteArray.size_extract, ByteArray.size_extract]; omega
        have HLB : Hid (L.extract 0 (8 * p) ++ kb ++ L.extract (8 * p + 8) L.size = We.longB L kb (8 * p)) := rfl
        clear hL lsz kz ka U1 U2 WH FI
        go_region
        rw [HLB.out]
        generalize We.longB L kb (8 * p) = LB at *
        clear HLB c1 c2
        go_wp2_with (first
          | (go_at_call_of 9 (Value.string kb); refine (WK1 _).mono ?_; rintro e z1 ⟨rfl, e1⟩)
          | (go_at_call_of 9 (Value.string LB); refine (WK2 _).mono ?_; rintro e z2 ⟨rfl, e2⟩)
          | (go_at_call_of 9 (Value.string (LB.extract 0 23)); refine (WK4 _).mono ?_; rintro e z4 ⟨rfl, e4⟩)
          | (go_at_call 9; refine (WK3 _).mono ?_; rintro e z3 ⟨rfl, e3⟩))
        go_ret
        exact ⟨by simp, Cb.keepB (Cb.keepB (Cb.keepB (Cb.keepB (Cb.keepB (Cb.keepB (Cb.keepB hb d2) d3) d4 |>.drew) e1) e2) e3) e4⟩
    · obtain rfl : i = 8 := by omega
      have j1 : ¬ ((8 : Nat) : Int) < 8 := by omega
      have RS := fun (yy : World) (hgy : yy.heap[G]? = some (.cells A 5 (n0, n0 + 1))) => Pb.rw_str (P := Try.prog) (src := 25) (dst := 9) (e := 5) (C := C) hA Try.underlying25 Try.underlying5 Try.underlying9 hgy
      rw [hl] at RS
      have kz : (⟨l.toArray⟩ : ByteArray).size = 8 := by show l.toArray.size = 8; simpa using hl
      have ka : Lo.Alk (⟨l.toArray⟩ : ByteArray).data.toList (We.wks q) := by rw [← Hk8.out.2]; simpa using hA.2.2.1
      generalize (⟨l.toArray⟩ : ByteArray) = kb at *
      have cs := RS _ hg
      clear hA hl hAs RS
      go_wp2_with (go_at_call 6; refine (WH _).mono ?_; rintro e y1 ⟨t, N, rfl, hN, hN2, hy1⟩; rw [hy1])
      obtain ⟨X, sX, U1, U2⟩ := We.twice kb t q N kz ka hN (by omega)
      have qX : ((X.size : Int) != (t.size : Int)) = false := by rw [sX]; simp
      have HN : Hid (t.size = 8 * N) := hN
      clear hN sX cs
      go_wp2_with (first
        | (go_at_call_of 7 (Value.string t); refine (U1 _).mono ?_; rintro e y2 ⟨rfl, d2⟩)
        | (go_at_call_of 7 (Value.string X); refine (U2 _).mono ?_; rintro e y3 ⟨rfl, d3⟩)
        | (go_at_call 8; refine (FI _).mono ?_; rintro e y4 ⟨L, rfl, hL, d4⟩)
        | (go_at_call 5; refine (PP _).mono ?_; rintro e y5 ⟨rfl, hy5⟩; rw [hy5]))
      have p3 := Hp.out
      have WK1 := fun u => Wk.weak_any kb u
      rw [We.key_weak kb q kz ka] at WK1
      have WK2 := fun u => Wk.weak_any (We.longB L kb (8 * p)) u
      rw [We.long_weak L kb p q hL kz p3 ka] at WK2
      have WK3 := fun u => Wk.weak_any ⟨#[16, 32, 97, 98, 99, 48, 64, 120]⟩ u
      rw [We.other_not] at WK3
      have lsz := We.long_size L kb p hL kz p3
      have WK4 := fun u => Wk.weak_any ((We.longB L kb (8 * p)).extract 0 23) u
      rw [We.short_not _ (by rw [ByteArray.size_extract, lsz]; rfl)] at WK4
      have t1 : (0 : Int) ≤ 8 * (p : Int) := by omega
      have t2 : 8 * (p : Int) ≤ (L.size : Int) := by omega
      have t3 : 8 * (p : Int) + 8 ≤ (L.size : Int) := by omega
      have t4 : 8 * (p : Int) ≤ 16 := by omega
      have t5 : (23 : Int) ≤ ((We.longB L kb (8 * p)).size : Int) := by omega
      have c1 : ¬ 9223372036854775807 < (L.extract 0 (8 * p)).size + kb.size := by rw [ByteArray.size_extract]; omega
      have c2 : ¬ 9223372036854775807 < (L.extract 0 (8 * p) ++ kb).size + (L.extract (8 * p + 8) L.size).size := by rw [ByteArray.size_append, ByteArray.size_extract, ByteArray.size_extract]; omega
      have HLB : Hid (L.extract 0 (8 * p) ++ kb ++ L.extract (8 * p + 8) L.size = We.longB L kb (8 * p)) := rfl
      clear hL lsz kz ka U1 U2 WH FI
      go_region
      rw [HLB.out]
      generalize We.longB L kb (8 * p) = LB at *
      clear HLB c1 c2
      go_wp2_with (first
        | (go_at_call_of 9 (Value.string kb); refine (WK1 _).mono ?_; rintro e z1 ⟨rfl, e1⟩)
        | (go_at_call_of 9 (Value.string LB); refine (WK2 _).mono ?_; rintro e z2 ⟨rfl, e2⟩)
        | (go_at_call_of 9 (Value.string (LB.extract 0 23)); refine (WK4 _).mono ?_; rintro e z4 ⟨rfl, e4⟩)
        | (go_at_call 9; refine (WK3 _).mono ?_; rintro e z3 ⟨rfl, e3⟩))
      go_ret
      exact ⟨by simp, Cb.keepB (Cb.keepB (Cb.keepB (Cb.keepB (Cb.keepB (Cb.keepB (Cb.keepB hb d2) d3) d4 |>.drew) e1) e2) e3) e4⟩

set_option maxRecDepth 100000 in
theorem contract (H : Type) (enc : TypeId × Value → H) (W : World) (base : Nat) (args : Array Value) (ds gs : List (DataW H)) (before : List MemPlace)
    (hval : ∀ (j : Nat) t v, Try.f3.params[j]? = some t → args[j]? = some v → Value.okWide Try.prog W .any base t v)
    (hW : DataW.Whole enc Try.prog Try.f3.params.toList Rows.cipherWeakSpec.vars false W args.toList ds gs before) :
    Calls Try.prog 3 args W fun e W' => ∃ v, e = .returned v ∧ Rows.cipherWeakSpec.post enc Try.prog Try.f3 false true false false W args v W' := by
  have hW' := hW
  obtain ⟨p, q, hA0, hV, rfl, hfz, hnd⟩ := hW
  have hA : DataW.TrodAll enc Try.prog W 0 (fun _ => true) true Try.f3.params.toList args.toList ds p := hA0
  rw [Try.params3] at hA hval
  obtain ⟨v0, vs0, d0, ds0, p0, q0, hargs, rfl, rfl, h0, r0⟩ := trodAll_cons hA
  obtain ⟨v1, vs1, d1, ds1, p1, q1, rfl, rfl, rfl, h1, r1⟩ := trodAll_cons r0
  obtain ⟨v2, vs2, d2, ds2, p2, q2, rfl, rfl, rfl, h2, r2⟩ := trodAll_cons r1
  obtain ⟨v3, vs3, d3, ds3, p3, q3, rfl, rfl, rfl, h3, r3⟩ := trodAll_cons r2
  obtain ⟨v4, vs4, d4, ds4, p4, q4, rfl, rfl, rfl, h4, r4⟩ := trodAll_cons r3
  obtain ⟨rfl, rfl, rfl⟩ := trodAll_nil r4
  obtain rfl : args = #[v0, v1, v2, v3, v4] := by cases args; simp_all
  obtain ⟨rfl, rfl⟩ := trodVars_none hV
  obtain ⟨a0, rfl, rfl, rfl, w0⟩ := open_int Try.underlying3 (hval 0 3 v0 rfl rfl) h0
  obtain ⟨z1, n1, w1, lt1⟩ := Sb.open_sb (hval 1 22 v1 rfl rfl) h1
  obtain ⟨a2, rfl, rfl, rfl, w2⟩ := open_string Try.underlying9 (hval 2 9 v2 rfl rfl) h2
  obtain ⟨a3, rfl, rfl, rfl, w3⟩ := open_string Try.underlying9 (hval 3 9 v3 rfl rfl) h3
  obtain ⟨a4, rfl, rfl, rfl, w4⟩ := open_int Try.underlying3 (hval 4 3 v4 rfl rfl) h4
  clear hA0
  refine (walk a0 v1 z1 n1 a2 a3 a4 W w0 w1 w2 w3 w4).mono fun e W' ⟨he, bel⟩ => ?_
  subst he
  exact ⟨_, rfl, _, _, _, [], _, [], hW', trodAll_mk1 (shut_bool Try.underlying4 _), (trodAll_cons_mk (shut_int Try.underlying3 w0) (trodAll_cons_mk (Below.trod (by kernel_rfl) (by kernel_rfl) (of_decide_eq_true (by kernel_rfl)) h1 bel lt1) (trodAll_cons_mk (shut_string Try.underlying9 w2) (trodAll_cons_mk (shut_string Try.underlying9 w3) (trodAll_cons_mk (shut_int Try.underlying3 w4) trodAll_mk0))))), rfl, bel.frame _, fun h => by cases h⟩

set_option maxRecDepth 100000 in
theorem lifted (os : Os) (started : os.Started) (H : Type) (enc : TypeId × Value → H) :
    ReturnsInHanded {} Try.checked os 3 .any (Rows.cipherWeakSpec.pre6 enc Try.prog Try.f3 Rows.cipherWeakRow.domain false) (Rows.cipherWeakSpec.post enc Try.prog Try.f3 false true false false) := by
  refine returnsInHanded_of_change (C := Try.checked) own started (by kernel_rfl) Try.func3
    (ChangeSpec.witness6 (enc := enc) (C := Try.checked) false ⟨#[], #[.int .i64 0, .slice none 0 0, .string .empty, .string .empty, .int .i64 0], []⟩ 8 (by kernel_rfl) (by kernel_rfl) (by kernel_rfl) (by kernel_rfl)) ?_
  intro W base args ds gs before hval hW _ _
  exact contract H enc W base args ds gs before hval hW

theorem proved : Rows.CipherWeakSaid :=
  OpenClaim.holds_of_wide 3 Try.f3 rfl rfl rfl rfl rfl rfl rfl ⟨rfl, rfl, rfl, rfl, rfl⟩ rfl rfl rfl rfl rfl (by kernel_rfl) Try.func3 (by kernel_rfl)
    (of_decide_eq_true (by kernel_rfl)) (by unfold Func.isWrapper; first | (rw [if_pos (by decide +kernel)]; kernel_rfl) | (rw [if_neg (by decide +kernel)]; exact ⟨rfl, rfl⟩))
    (fun os started H enc _ => lifted os started H enc)
#print axioms proved
end Go.Proofs.Ytdgiekaiagpdjaa.cipherWeak
