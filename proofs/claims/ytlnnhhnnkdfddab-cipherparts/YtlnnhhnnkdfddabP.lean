/- CipherParts: the law out of the contracts; the frame of the row. -/
import Derived.Test.YtlnnhhnnkdfddabRows
import Derived.WalkKit
import Derived.ProofKit
import Derived.OpenShut
import Derived.ShutString
import Derived.ChangeOld
import Derived.Below
import Derived.JoinedCond
import Derived.Carry
import Derived.Test.YtlnnhhnnkdfddabSb
import Derived.Test.YtlnnhhnnkdfddabPa
import Derived.Test.YtlnnhhnnkdfddabPb
namespace Go.Proofs.Ytlnnhhnnkdfddab.cipherParts
open Go.ChangeShapes Go.WideShapes Go.ChangeAt Go.RowKit
open Go.ChangeMaps (open_string shut_string)
set_option linter.unusedVariables false

theorem own : ownKnob Try.prog.godebug = none := by kernel_rfl

set_option maxRecDepth 100000 in
set_option maxHeartbeats 1600000 in
theorem walk (a0 : ByteArray) (a1 : ByteArray) (a2 : ByteArray) (v3 : Value) (z3 : Nat → Bool) (n3 : Nat) (w : World) (w0 : a0.size ≤ maxLen) (w1 : a1.size ≤ maxLen) (w2 : a2.size ≤ maxLen) (w3 : Sb.Lies w v3 z3 n3) :
    Calls Try.prog 4 #[.string a0, .string a1, .string a2, v3] w fun e w' => e = .returned (.bool true) ∧ Below w.heap.size w w' := by
  have F1 : ∀ u, Calls Try.prog 8 #[.string a0, .int .i64 8] u fun e w' => ∃ r : ByteArray, e = .returned (.string r) ∧ r.size = 8 ∧ Below u.heap.size u w' := fun u => Fi.fit_any a0 8 (by decide) u
  have F2 : ∀ u, Calls Try.prog 8 #[.string a1, .int .i64 8] u fun e w' => ∃ r : ByteArray, e = .returned (.string r) ∧ r.size = 8 ∧ Below u.heap.size u w' := fun u => Fi.fit_any a1 8 (by decide) u
  have WH := fun u => Fi.whole_any a2 20 (by decide) u (by have := w2; unfold maxLen at this; omega)
  go_enter Try.func4, Try.ntmps4
  go_wp2_with (first
    | (go_at_call 7; refine (Ck.known_any _).mono ?_; rintro e y1 ⟨rfl, h1⟩)
    | (go_at_call_of 8 (Value.string a0); refine (F1 _).mono ?_; rintro e y2 ⟨a, rfl, ha, h2⟩; clear F1)
    | (go_at_call_of 8 (Value.string a1); refine (F2 _).mono ?_; rintro e y3 ⟨c, rfl, hc, h3⟩; clear F2)
    | (go_at_call 10; refine (WH _).mono ?_; rintro e u ⟨t, N, rfl, hN, hN2, hu⟩; rw [hu]; obtain ⟨X, Y, Z, zX, zY, U1, U2, U3, U4, U5, U6, U7⟩ := Pa.parts_all a c t N ha hc hN (by omega); have HU : Hid (∀ k : ByteArray, k.size = 16 → Lo.Alk k.data.toList (a ++ c).data.toList → ∀ u, Calls Try.prog 11 #[.string k, .string t] u (Ul.RetS Z u)) := U7; have U8 := U7 (a ++ c) (by rw [Pa.sz_app]; omega) (fun _ => rfl); have HAC : Hid ((a ++ c).size = 16) := (by rw [Pa.sz_app]; omega : (a ++ c).size = 16); have s1 : ¬ 9223372036854775807 < a.size + a.size := (by omega); have s2 : ¬ 9223372036854775807 < a.size + a.size + c.size := (by omega); have s3 : ¬ 9223372036854775807 < a.size + c.size := (by omega); have s4 : ¬ 9223372036854775807 < a.size + c.size + c.size := (by omega); have s5 : ¬ 9223372036854775807 < a.size + c.size + a.size := (by omega); clear U7 WH hN hN2 ha hc)
    | (go_at_call_of 11 (Value.string (a ++ a ++ c)); refine (U4 _).mono ?_; rintro e y7 ⟨rfl, h7⟩)
    | (go_at_call_of 11 (Value.string (a ++ c ++ c)); refine (U5 _).mono ?_; rintro e y8 ⟨rfl, h8⟩)
    | (go_at_call_of 11 (Value.string (a ++ c ++ a)); refine (U6 _).mono ?_; rintro e y9 ⟨rfl, h9⟩)
    | (go_at_call_of 11 (Value.string (a ++ a)); refine (U3 _).mono ?_; rintro e y6 ⟨rfl, h6⟩)
    | (go_at_call_of 11 (Value.string (a ++ c)); refine (U8 _).mono ?_; rintro e y10 ⟨rfl, h10⟩)
    | (go_at_call_of 11 (Value.string a); refine (U1 _).mono ?_; rintro e y4 ⟨rfl, h4⟩)
    | (go_at_call_of 11 (Value.string c); refine (U2 _).mono ?_; rintro e y5 ⟨rfl, h5⟩))
  have cv := run_bytes_of_string (P := Try.prog) y10 9 29 5 (a ++ c) Try.underlying9 Try.underlying29 Try.underlying5
  have rz := Pb.rw_zero (a ++ c) (grownCap y10 (a ++ c).size 0 5)
  generalize bytesRow (a ++ c) (grownCap y10 (a ++ c).size 0 5) = A0 at *
  generalize grownCap y10 (a ++ c).size 0 5 = C at *
  rw [HAC.out] at cv
  have hz : A0.size = A0.size := rfl
  generalize hn : A0.size = n0 at cv
  have g0 : (y10.drew.alloc (.cells A0 5 (n0, n0 + 1))).heap[y10.heap.size]? = some (.cells A0 5 (n0, n0 + 1)) := Cb.h1_0 y10.drew _
  have b0 : Below y10.heap.size y10 (y10.drew.alloc (.cells A0 5 (n0, n0 + 1))) := ((Below.refl _ y10).drew).alloc (Nat.le_refl _) _
  generalize y10.drew.alloc (.cells A0 5 (n0, n0 + 1)) = W0 at *
  have b10 : Below w.heap.size w y10 := Cb.keepB (Cb.keepB (Cb.keepB (Cb.keepB (Cb.keepB (Cb.keepB (Cb.keepB (Cb.keepB (Cb.keepB h1 h2) h3) h4) h5) h6) h7) h8) h9) h10
  clear U1 U2 U3 U4 U5 U6 h1 h2 h3 h4 h5 h6 h7 h8 h9 h10 zX zY hz
  have hl : (a ++ c).data.toList.length = 16 := by rw [Bl.len_size]; exact HAC.out
  have HL : Hid ((a ++ c).data.toList.length = 16) := hl
  clear hl
  have w4 := Sb.lies_below w3 b10
  clear w3
  rw [cv]
  clear cv
  rcases w4 with ⟨rfl, rfl⟩ | ⟨ad, cp, rfl, hcp, hcm, hce⟩
  · go_wp2
    go_loopw [16] (fun cI wr => ∃ (j : Nat) (l : List UInt8) (A : Array Value), j ≤ 16 ∧ cI = .int .i64 (j : Int) ∧ Pb.Rw (a ++ c) l A ∧ A.size = n0 ∧ wr.heap[y10.heap.size]? = some (.cells A 5 (n0, n0 + 1)) ∧ Below y10.heap.size y10 wr) (fun cI _ => 17 - (intOf cI).toNat)
    case atStart => exact ⟨0, _, A0, Nat.zero_le _, rfl, rz, hn, g0, b0⟩
    case round =>
      obtain ⟨j, l, A, hj, rfl, hA, hAs, hg, hb⟩ := hrel
      have q0 : (0 : Int) ≤ (j : Int) := by omega
      have q2 : ¬ (j : Int) < 0 := by omega
      by_cases h16 : j < 16
      · have q1 : (j : Int) < 16 := by omega
        have hl16 : l.length = 16 := hA.1.trans HAC.out
        have cs := Pb.rw_str (P := Try.prog) (src := 29) (dst := 9) (e := 5) (C := C) hA Try.underlying29 Try.underlying5 Try.underlying9 hg
        have RS := fun (yy : World) (hgy : yy.heap[y10.heap.size]? = some (.cells A 5 (n0, n0 + 1))) => Pb.rw_str (P := Try.prog) (src := 29) (dst := 9) (e := 5) (C := C) hA Try.underlying29 Try.underlying5 Try.underlying9 hgy
        rw [hl16] at cs RS
        have kz : (⟨l.toArray⟩ : ByteArray).size = 16 := by show l.toArray.size = 16; simpa using hl16
        have ka : Lo.Alk (⟨l.toArray⟩ : ByteArray).data.toList (a ++ c).data.toList := by simpa using hA.2.2.1
        generalize (⟨l.toArray⟩ : ByteArray) = kb at *
        have OD := fun u => Od.odd_any (a ++ c) (by rw [HAC.out]; decide) u
        have pz : (⟨(Od.oddL (a ++ c).data.toList).toArray⟩ : ByteArray).size = 16 := by
          show (Od.oddL (a ++ c).data.toList).toArray.size = 16
          rw [List.size_toArray, Od.oddL_len]; exact HL.out
        have pa : Lo.Alk (⟨(Od.oddL (a ++ c).data.toList).toArray⟩ : ByteArray).data.toList (a ++ c).data.toList := by
          have := Pa.alike_odd (a ++ c).data.toList
          simpa using this
        generalize (⟨(Od.oddL (a ++ c).data.toList).toArray⟩ : ByteArray) = pp at *
        obtain ⟨Q, W, KA⟩ := Pa.keys_all (a ++ c) HAC.out
        obtain ⟨C1, W1⟩ := KA (a ++ c) HAC.out (fun _ => rfl)
        obtain ⟨C2, W2⟩ := KA kb kz ka
        obtain ⟨C3, W3⟩ := KA pp pz pa
        have U9 := HU.out kb kz ka
        have U10 := HU.out pp pz pa
        have bb := Cb.keepB b10 hb
        clear KA HU kz ka pz pa hA hl16 HL HAC rz g0 b0 b10
        go_wp2_with (first
          | (go_at_call 13; refine (OD _).mono ?_; rintro e x1 ⟨rfl, j1⟩; have bb := Cb.keepB bb j1; have hg := Cb.kept j1 hg; have cs := RS _ hg)
          | (go_at_call_of 14 (Value.string (a ++ c)); refine (C1 _).mono ?_; rintro e x2 ⟨rfl, j2⟩; have bb := Cb.keepB bb j2; have hg := Cb.kept j2 hg; have cs := RS _ hg)
          | (go_at_call_of 14 (Value.string kb); refine (C2 _).mono ?_; rintro e x3 ⟨rfl, j3⟩; have bb := Cb.keepB bb j3; have hg := Cb.kept j3 hg; have cs := RS _ hg)
          | (go_at_call_of 14 (Value.string pp); refine (C3 _).mono ?_; rintro e x4 ⟨rfl, j4⟩; have bb := Cb.keepB bb j4; have hg := Cb.kept j4 hg; have cs := RS _ hg)
          | (go_at_call_of 15 (Value.string (a ++ c)); refine (W1 _).mono ?_; rintro e x5 ⟨rfl, j5⟩; have bb := Cb.keepB bb j5; have hg := Cb.kept j5 hg; have cs := RS _ hg)
          | (go_at_call_of 15 (Value.string kb); refine (W2 _).mono ?_; rintro e x6 ⟨rfl, j6⟩; have bb := Cb.keepB bb j6; have hg := Cb.kept j6 hg; have cs := RS _ hg)
          | (go_at_call_of 11 (Value.string kb); refine (U9 _).mono ?_; rintro e x7 ⟨rfl, j7⟩; have bb := Cb.keepB bb j7; have hg := Cb.kept j7 hg; have cs := RS _ hg)
          | (go_at_call_of 11 (Value.string pp); refine (U10 _).mono ?_; rintro e x8 ⟨rfl, j8⟩; have bb := Cb.keepB bb j8; have hg := Cb.kept j8 hg; have cs := RS _ hg)
          | (go_at_call_of 11 (Value.string (a ++ c)); refine (U8 _).mono ?_; rintro e x9 ⟨rfl, j9⟩; have bb := Cb.keepB bb j9; have hg := Cb.kept j9 hg; have cs := RS _ hg))
        go_ret
        exact ⟨rfl, bb⟩
      · have q1 : ¬ (j : Int) < 16 := by omega
        have hl16 : l.length = 16 := hA.1.trans HAC.out
        have cs := Pb.rw_str (P := Try.prog) (src := 29) (dst := 9) (e := 5) (C := C) hA Try.underlying29 Try.underlying5 Try.underlying9 hg
        have RS := fun (yy : World) (hgy : yy.heap[y10.heap.size]? = some (.cells A 5 (n0, n0 + 1))) => Pb.rw_str (P := Try.prog) (src := 29) (dst := 9) (e := 5) (C := C) hA Try.underlying29 Try.underlying5 Try.underlying9 hgy
        rw [hl16] at cs RS
        have kz : (⟨l.toArray⟩ : ByteArray).size = 16 := by show l.toArray.size = 16; simpa using hl16
        have ka : Lo.Alk (⟨l.toArray⟩ : ByteArray).data.toList (a ++ c).data.toList := by simpa using hA.2.2.1
        generalize (⟨l.toArray⟩ : ByteArray) = kb at *
        have OD := fun u => Od.odd_any (a ++ c) (by rw [HAC.out]; decide) u
        have pz : (⟨(Od.oddL (a ++ c).data.toList).toArray⟩ : ByteArray).size = 16 := by
          show (Od.oddL (a ++ c).data.toList).toArray.size = 16
          rw [List.size_toArray, Od.oddL_len]; exact HL.out
        have pa : Lo.Alk (⟨(Od.oddL (a ++ c).data.toList).toArray⟩ : ByteArray).data.toList (a ++ c).data.toList := by
          have := Pa.alike_odd (a ++ c).data.toList
          simpa using this
        generalize (⟨(Od.oddL (a ++ c).data.toList).toArray⟩ : ByteArray) = pp at *
        obtain ⟨Q, W, KA⟩ := Pa.keys_all (a ++ c) HAC.out
        obtain ⟨C1, W1⟩ := KA (a ++ c) HAC.out (fun _ => rfl)
        obtain ⟨C2, W2⟩ := KA kb kz ka
        obtain ⟨C3, W3⟩ := KA pp pz pa
        have U9 := HU.out kb kz ka
        have U10 := HU.out pp pz pa
        have bb := Cb.keepB b10 hb
        clear KA HU kz ka pz pa hA hl16 HL HAC rz g0 b0 b10
        go_wp2_with (first
          | (go_at_call 13; refine (OD _).mono ?_; rintro e x1 ⟨rfl, j1⟩; have bb := Cb.keepB bb j1; have hg := Cb.kept j1 hg; have cs := RS _ hg)
          | (go_at_call_of 14 (Value.string (a ++ c)); refine (C1 _).mono ?_; rintro e x2 ⟨rfl, j2⟩; have bb := Cb.keepB bb j2; have hg := Cb.kept j2 hg; have cs := RS _ hg)
          | (go_at_call_of 14 (Value.string kb); refine (C2 _).mono ?_; rintro e x3 ⟨rfl, j3⟩; have bb := Cb.keepB bb j3; have hg := Cb.kept j3 hg; have cs := RS _ hg)
          | (go_at_call_of 14 (Value.string pp); refine (C3 _).mono ?_; rintro e x4 ⟨rfl, j4⟩; have bb := Cb.keepB bb j4; have hg := Cb.kept j4 hg; have cs := RS _ hg)
          | (go_at_call_of 15 (Value.string (a ++ c)); refine (W1 _).mono ?_; rintro e x5 ⟨rfl, j5⟩; have bb := Cb.keepB bb j5; have hg := Cb.kept j5 hg; have cs := RS _ hg)
          | (go_at_call_of 15 (Value.string kb); refine (W2 _).mono ?_; rintro e x6 ⟨rfl, j6⟩; have bb := Cb.keepB bb j6; have hg := Cb.kept j6 hg; have cs := RS _ hg)
          | (go_at_call_of 11 (Value.string kb); refine (U9 _).mono ?_; rintro e x7 ⟨rfl, j7⟩; have bb := Cb.keepB bb j7; have hg := Cb.kept j7 hg; have cs := RS _ hg)
          | (go_at_call_of 11 (Value.string pp); refine (U10 _).mono ?_; rintro e x8 ⟨rfl, j8⟩; have bb := Cb.keepB bb j8; have hg := Cb.kept j8 hg; have cs := RS _ hg)
          | (go_at_call_of 11 (Value.string (a ++ c)); refine (U8 _).mono ?_; rintro e x9 ⟨rfl, j9⟩; have bb := Cb.keepB bb j9; have hg := Cb.kept j9 hg; have cs := RS _ hg))
        go_ret
        exact ⟨rfl, bb⟩
  · go_wp2
    go_loopw [16] (fun cI wr => ∃ (j : Nat) (l : List UInt8) (A : Array Value), j ≤ 16 ∧ cI = .int .i64 (j : Int) ∧ Pb.Rw (a ++ c) l A ∧ A.size = n0 ∧ wr.heap[y10.heap.size]? = some (.cells A 5 (n0, n0 + 1)) ∧ Below y10.heap.size y10 wr) (fun cI _ => 17 - (intOf cI).toNat)
    case atStart => exact ⟨0, _, A0, Nat.zero_le _, rfl, rz, hn, g0, b0⟩
    case round =>
      obtain ⟨j, l, A, hj, rfl, hA, hAs, hg, hb⟩ := hrel
      have q0 : (0 : Int) ≤ (j : Int) := by omega
      by_cases h16 : j < 16
      · by_cases hn3 : j < n3
        · have q1 : (j : Int) < 16 := by omega
          have q2 : (j : Int) < (n3 : Int) := by omega
          have cL : wr.cell? (ad.add j) = some (.bool (z3 j)) := (hb.cell (World.block_lt_of_cell? y10 _ (hce j hn3))).trans (hce j hn3)
          have hjl : j < l.length := by rw [hA.1, HAC.out]; exact h16
          have c0 : wr.cell? ⟨y10.heap.size, j, none⟩ = some (.int .u8 (l[j].toNat : Int)) := by rw [cell_of_row wr _ j _ _ _ hg, hA.2.2.2 j hjl]
          have f0 : wr.frozen? ⟨y10.heap.size, j, none⟩ = false := by
            have := hA.2.1
            have := HAC.out
            simp [World.frozen?, hg]; omega
          have u1 := Od.xor1 l[j]
          have HR : Hid (Pb.Rw (a ++ c) (l.set j (l[j] ^^^ 1)) (A.setIfInBounds j (.int .u8 ((l[j] ^^^ 1).toNat : Int)))) := Pb.rw_set _ l A j hA hjl
          have hsz : (A.setIfInBounds j (.int .u8 ((l[j] ^^^ 1).toNat : Int))).size = n0 := by simpa using hAs
          have HG := Sm.setCell_heap hg j (.int .u8 ((l[j] ^^^ 1).toNat : Int))
          have HB := Sm.below_setCell hb (Nat.le_refl y10.heap.size) j (.int .u8 ((l[j] ^^^ 1).toNat : Int))
          generalize l.set j (l[j] ^^^ 1) = l2 at *
          generalize (l[j] ^^^ 1).toNat = v at *
          generalize l[j].toNat = x at *
          cases hzj : z3 j
          · rw [hzj] at cL
            clear HR HG HB hsz
            go_wp2
            exact ⟨⟨j + 1, l, A, h16, by simp, hA, hAs, hg, hb⟩, by simp only [intOf]; omega⟩
          · rw [hzj] at cL
            clear hA hb
            go_wp2
            exact ⟨⟨j + 1, _, _, h16, by simp, HR.out, hsz, HG, HB⟩, by simp only [intOf]; omega⟩
        · have q1 : (j : Int) < 16 := by omega
          have q2 : ¬ (j : Int) < (n3 : Int) := by omega
          have hl16 : l.length = 16 := hA.1.trans HAC.out
          have cs := Pb.rw_str (P := Try.prog) (src := 29) (dst := 9) (e := 5) (C := C) hA Try.underlying29 Try.underlying5 Try.underlying9 hg
          have RS := fun (yy : World) (hgy : yy.heap[y10.heap.size]? = some (.cells A 5 (n0, n0 + 1))) => Pb.rw_str (P := Try.prog) (src := 29) (dst := 9) (e := 5) (C := C) hA Try.underlying29 Try.underlying5 Try.underlying9 hgy
          rw [hl16] at cs RS
          have kz : (⟨l.toArray⟩ : ByteArray).size = 16 := by show l.toArray.size = 16; simpa using hl16
          have ka : Lo.Alk (⟨l.toArray⟩ : ByteArray).data.toList (a ++ c).data.toList := by simpa using hA.2.2.1
          generalize (⟨l.toArray⟩ : ByteArray) = kb at *
          have OD := fun u => Od.odd_any (a ++ c) (by rw [HAC.out]; decide) u
          have pz : (⟨(Od.oddL (a ++ c).data.toList).toArray⟩ : ByteArray).size = 16 := by
            show (Od.oddL (a ++ c).data.toList).toArray.size = 16
            rw [List.size_toArray, Od.oddL_len]; exact HL.out
          have pa : Lo.Alk (⟨(Od.oddL (a ++ c).data.toList).toArray⟩ : ByteArray).data.toList (a ++ c).data.toList := by
            have := Pa.alike_odd (a ++ c).data.toList
            simpa using this
          generalize (⟨(Od.oddL (a ++ c).data.toList).toArray⟩ : ByteArray) = pp at *
          obtain ⟨Q, W, KA⟩ := Pa.keys_all (a ++ c) HAC.out
          obtain ⟨C1, W1⟩ := KA (a ++ c) HAC.out (fun _ => rfl)
          obtain ⟨C2, W2⟩ := KA kb kz ka
          obtain ⟨C3, W3⟩ := KA pp pz pa
          have U9 := HU.out kb kz ka
          have U10 := HU.out pp pz pa
          have bb := Cb.keepB b10 hb
          clear KA HU kz ka pz pa hA hl16 HL HAC rz g0 b0 b10
          go_wp2_with (first
            | (go_at_call 13; refine (OD _).mono ?_; rintro e x1 ⟨rfl, j1⟩; have bb := Cb.keepB bb j1; have hg := Cb.kept j1 hg; have cs := RS _ hg)
            | (go_at_call_of 14 (Value.string (a ++ c)); refine (C1 _).mono ?_; rintro e x2 ⟨rfl, j2⟩; have bb := Cb.keepB bb j2; have hg := Cb.kept j2 hg; have cs := RS _ hg)
            | (go_at_call_of 14 (Value.string kb); refine (C2 _).mono ?_; rintro e x3 ⟨rfl, j3⟩; have bb := Cb.keepB bb j3; have hg := Cb.kept j3 hg; have cs := RS _ hg)
            | (go_at_call_of 14 (Value.string pp); refine (C3 _).mono ?_; rintro e x4 ⟨rfl, j4⟩; have bb := Cb.keepB bb j4; have hg := Cb.kept j4 hg; have cs := RS _ hg)
            | (go_at_call_of 15 (Value.string (a ++ c)); refine (W1 _).mono ?_; rintro e x5 ⟨rfl, j5⟩; have bb := Cb.keepB bb j5; have hg := Cb.kept j5 hg; have cs := RS _ hg)
            | (go_at_call_of 15 (Value.string kb); refine (W2 _).mono ?_; rintro e x6 ⟨rfl, j6⟩; have bb := Cb.keepB bb j6; have hg := Cb.kept j6 hg; have cs := RS _ hg)
            | (go_at_call_of 11 (Value.string kb); refine (U9 _).mono ?_; rintro e x7 ⟨rfl, j7⟩; have bb := Cb.keepB bb j7; have hg := Cb.kept j7 hg; have cs := RS _ hg)
            | (go_at_call_of 11 (Value.string pp); refine (U10 _).mono ?_; rintro e x8 ⟨rfl, j8⟩; have bb := Cb.keepB bb j8; have hg := Cb.kept j8 hg; have cs := RS _ hg)
            | (go_at_call_of 11 (Value.string (a ++ c)); refine (U8 _).mono ?_; rintro e x9 ⟨rfl, j9⟩; have bb := Cb.keepB bb j9; have hg := Cb.kept j9 hg; have cs := RS _ hg))
          go_ret
          exact ⟨rfl, bb⟩
      · have q1 : ¬ (j : Int) < 16 := by omega
        have hl16 : l.length = 16 := hA.1.trans HAC.out
        have cs := Pb.rw_str (P := Try.prog) (src := 29) (dst := 9) (e := 5) (C := C) hA Try.underlying29 Try.underlying5 Try.underlying9 hg
        have RS := fun (yy : World) (hgy : yy.heap[y10.heap.size]? = some (.cells A 5 (n0, n0 + 1))) => Pb.rw_str (P := Try.prog) (src := 29) (dst := 9) (e := 5) (C := C) hA Try.underlying29 Try.underlying5 Try.underlying9 hgy
        rw [hl16] at cs RS
        have kz : (⟨l.toArray⟩ : ByteArray).size = 16 := by show l.toArray.size = 16; simpa using hl16
        have ka : Lo.Alk (⟨l.toArray⟩ : ByteArray).data.toList (a ++ c).data.toList := by simpa using hA.2.2.1
        generalize (⟨l.toArray⟩ : ByteArray) = kb at *
        have OD := fun u => Od.odd_any (a ++ c) (by rw [HAC.out]; decide) u
        have pz : (⟨(Od.oddL (a ++ c).data.toList).toArray⟩ : ByteArray).size = 16 := by
          show (Od.oddL (a ++ c).data.toList).toArray.size = 16
          rw [List.size_toArray, Od.oddL_len]; exact HL.out
        have pa : Lo.Alk (⟨(Od.oddL (a ++ c).data.toList).toArray⟩ : ByteArray).data.toList (a ++ c).data.toList := by
          have := Pa.alike_odd (a ++ c).data.toList
          simpa using this
        generalize (⟨(Od.oddL (a ++ c).data.toList).toArray⟩ : ByteArray) = pp at *
        obtain ⟨Q, W, KA⟩ := Pa.keys_all (a ++ c) HAC.out
        obtain ⟨C1, W1⟩ := KA (a ++ c) HAC.out (fun _ => rfl)
        obtain ⟨C2, W2⟩ := KA kb kz ka
        obtain ⟨C3, W3⟩ := KA pp pz pa
        have U9 := HU.out kb kz ka
        have U10 := HU.out pp pz pa
        have bb := Cb.keepB b10 hb
        clear KA HU kz ka pz pa hA hl16 HL HAC rz g0 b0 b10
        go_wp2_with (first
          | (go_at_call 13; refine (OD _).mono ?_; rintro e x1 ⟨rfl, j1⟩; have bb := Cb.keepB bb j1; have hg := Cb.kept j1 hg; have cs := RS _ hg)
          | (go_at_call_of 14 (Value.string (a ++ c)); refine (C1 _).mono ?_; rintro e x2 ⟨rfl, j2⟩; have bb := Cb.keepB bb j2; have hg := Cb.kept j2 hg; have cs := RS _ hg)
          | (go_at_call_of 14 (Value.string kb); refine (C2 _).mono ?_; rintro e x3 ⟨rfl, j3⟩; have bb := Cb.keepB bb j3; have hg := Cb.kept j3 hg; have cs := RS _ hg)
          | (go_at_call_of 14 (Value.string pp); refine (C3 _).mono ?_; rintro e x4 ⟨rfl, j4⟩; have bb := Cb.keepB bb j4; have hg := Cb.kept j4 hg; have cs := RS _ hg)
          | (go_at_call_of 15 (Value.string (a ++ c)); refine (W1 _).mono ?_; rintro e x5 ⟨rfl, j5⟩; have bb := Cb.keepB bb j5; have hg := Cb.kept j5 hg; have cs := RS _ hg)
          | (go_at_call_of 15 (Value.string kb); refine (W2 _).mono ?_; rintro e x6 ⟨rfl, j6⟩; have bb := Cb.keepB bb j6; have hg := Cb.kept j6 hg; have cs := RS _ hg)
          | (go_at_call_of 11 (Value.string kb); refine (U9 _).mono ?_; rintro e x7 ⟨rfl, j7⟩; have bb := Cb.keepB bb j7; have hg := Cb.kept j7 hg; have cs := RS _ hg)
          | (go_at_call_of 11 (Value.string pp); refine (U10 _).mono ?_; rintro e x8 ⟨rfl, j8⟩; have bb := Cb.keepB bb j8; have hg := Cb.kept j8 hg; have cs := RS _ hg)
          | (go_at_call_of 11 (Value.string (a ++ c)); refine (U8 _).mono ?_; rintro e x9 ⟨rfl, j9⟩; have bb := Cb.keepB bb j9; have hg := Cb.kept j9 hg; have cs := RS _ hg))
        go_ret
        exact ⟨rfl, bb⟩

theorem contract (H : Type) (enc : TypeId × Value → H) (W : World) (base : Nat) (args : Array Value) (ds gs : List (DataW H)) (before : List MemPlace)
    (hval : ∀ (j : Nat) t v, Try.f4.params[j]? = some t → args[j]? = some v → Value.okWide Try.prog W .any base t v)
    (hW : DataW.Whole enc Try.prog Try.f4.params.toList Rows.cipherPartsSpec.vars false W args.toList ds gs before) :
    Calls Try.prog 4 args W fun e W' => ∃ v, e = .returned v ∧ Rows.cipherPartsSpec.post enc Try.prog Try.f4 false true false false W args v W' := by
  have hW' := hW
  obtain ⟨p, q, hA0, hV, rfl, hfz, hnd⟩ := hW
  have hA : DataW.TrodAll enc Try.prog W 0 (fun _ => true) true Try.f4.params.toList args.toList ds p := hA0
  rw [Try.params4] at hA hval
  obtain ⟨v0, vs0, d0, ds0, p0, q0, hargs, rfl, rfl, h0, r0⟩ := trodAll_cons hA
  obtain ⟨v1, vs1, d1, ds1, p1, q1, rfl, rfl, rfl, h1, r1⟩ := trodAll_cons r0
  obtain ⟨v2, vs2, d2, ds2, p2, q2, rfl, rfl, rfl, h2, r2⟩ := trodAll_cons r1
  obtain ⟨v3, vs3, d3, ds3, p3, q3, rfl, rfl, rfl, h3, r3⟩ := trodAll_cons r2
  obtain ⟨rfl, rfl, rfl⟩ := trodAll_nil r3
  obtain rfl : args = #[v0, v1, v2, v3] := by cases args; simp_all
  obtain ⟨rfl, rfl⟩ := trodVars_none hV
  obtain ⟨a0, rfl, rfl, rfl, w0⟩ := open_string Try.underlying9 (hval 0 9 v0 rfl rfl) h0
  obtain ⟨a1, rfl, rfl, rfl, w1⟩ := open_string Try.underlying9 (hval 1 9 v1 rfl rfl) h1
  obtain ⟨a2, rfl, rfl, rfl, w2⟩ := open_string Try.underlying9 (hval 2 9 v2 rfl rfl) h2
  obtain ⟨z3, n3, w3, lt3⟩ := Sb.open_sb (hval 3 28 v3 rfl rfl) h3
  clear hA0
  refine (walk a0 a1 a2 v3 z3 n3 W w0 w1 w2 w3).mono fun e W' ⟨he, bel⟩ => ?_
  subst he
  exact ⟨_, rfl, _, _, _, [], _, [], hW', trodAll_mk1 (shut_bool Try.underlying4 _), (trodAll_cons_mk (shut_string Try.underlying9 w0) (trodAll_cons_mk (shut_string Try.underlying9 w1) (trodAll_cons_mk (shut_string Try.underlying9 w2) (trodAll_cons_mk (Below.trod (by kernel_rfl) (by kernel_rfl) (of_decide_eq_true (by kernel_rfl)) h3 bel lt3) trodAll_mk0)))), rfl, bel.frame _, fun h => by cases h⟩

set_option maxRecDepth 100000 in
theorem lifted (os : Os) (started : os.Started) (H : Type) (enc : TypeId × Value → H) :
    ReturnsInHanded {} Try.checked os 4 .any (Rows.cipherPartsSpec.pre6 enc Try.prog Try.f4 Rows.cipherPartsRow.domain false) (Rows.cipherPartsSpec.post enc Try.prog Try.f4 false true false false) := by
  refine returnsInHanded_of_change (C := Try.checked) own started (by kernel_rfl) Try.func4
    (ChangeSpec.witness6 (enc := enc) (C := Try.checked) false ⟨#[], #[.string .empty, .string .empty, .string .empty, .slice none 0 0], []⟩ 8 (by kernel_rfl) (by kernel_rfl) (by kernel_rfl) (by kernel_rfl)) ?_
  intro W base args ds gs before hval hW _ _
  exact contract H enc W base args ds gs before hval hW

theorem proved : Rows.CipherPartsSaid :=
  OpenClaim.holds_of_wide 4 Try.f4 rfl rfl rfl rfl rfl rfl rfl ⟨rfl, rfl, rfl, rfl, rfl⟩ rfl rfl rfl rfl rfl (by kernel_rfl) Try.func4 (by kernel_rfl)
    (of_decide_eq_true (by kernel_rfl)) (by unfold Func.isWrapper; first | (rw [if_pos (by decide +kernel)]; kernel_rfl) | (rw [if_neg (by decide +kernel)]; exact ⟨rfl, rfl⟩))
    (fun os started H enc _ => lifted os started H enc)
#print axioms proved
end Go.Proofs.Ytlnnhhnnkdfddab.cipherParts
