/- FramePieces: the law out of the contracts; the frame of the row. -/
import Derived.Test.YtfoddooehanemaaRows
import Derived.WalkKit
import Derived.ProofKit
import Derived.OpenShut
import Derived.ShutString
import Derived.ChangeOld
import Derived.Below
import Derived.JoinedCond
import Derived.Carry
import Derived.SizedLaws
import Derived.Test.YtfoddooehanemaaFj
import Derived.Test.YtfoddooehanemaaFv
namespace Go.Proofs.Ytfoddooehanemaa.framePieces
open Go.ChangeShapes Go.WideShapes Go.ChangeAt Go.RowKit
open Go.ChangeMaps (open_string shut_string)
set_option linter.unusedVariables false

theorem own : ownKnob Try.prog.godebug = none := by kernel_rfl

open Fa Fb Fm Ff Fg Fk Fu Fv
theorem lies_fr {w y x : World} {B : List Nat} {v : Value} {z : List Int} (h : Sl.Lies w v z) (hb : Below w.heap.size w y) (f : Fr B y x) (hB : ∀ q ∈ B, w.heap.size ≤ q) : Sl.Lies x v z :=
  Sl.lies_but h (Nat.le_refl _) fun k hk => (f.block k (Nat.lt_of_lt_of_le hk hb.size) (fun hm => by have := hB k hm; omega)).trans (hb.block k hk)
theorem below_fr {w y x : World} {B : List Nat} (hb : Below w.heap.size w y) (f : Fr B y x) (hB : ∀ q ∈ B, w.heap.size ≤ q) : Below w.heap.size w x :=
  ⟨f.os.trans hb.os, f.tape.trans hb.tape, f.output.trans hb.output, Nat.le_trans hb.size f.size, fun k hk => (f.block k (Nat.lt_of_lt_of_le hk hb.size) (fun hm => by have := hB k hm; omega)).trans (hb.block k hk)⟩
theorem err_brk {st : St} (h : errN st ≠ 0) : ∃ e, st = .brk e := by
  cases st with
  | hdr l => exact absurd rfl h
  | bod n l => exact absurd rfl h
  | brk e => exact ⟨e, rfl⟩
theorem rgt_of {h m : Nat} (h1 : 1 ≤ h) (h4 : h ≤ 4) (m1 : 1 ≤ m) (m9 : m ≤ 9999) : rgt (h : Int) (m : Int) = true := by
  simp [rgt]; omega
set_option maxRecDepth 100000 in
set_option maxHeartbeats 6400000 in
theorem walk (a0 : Int) (a1 : Int) (a2 : ByteArray) (v3 : Value) (z3 : List Int) (v4 : Value) (z4 : List Int) (w : World) (w0 : (Lit.int .i64 a0).wf = true) (w1 : (Lit.int .i64 a1).wf = true) (w2 : a2.size ≤ maxLen) (w3 : Sl.Lies w v3 z3) (w4 : Sl.Lies w v4 z4) (k2 : a2.size ≤ 1048576) (k3 : z3.length ≤ 1048576) (k4 : z4.length ≤ 1048576) :
    Calls Try.prog 6 #[.int .i64 a0, .int .i64 a1, .string a2, v3, v4] w fun e w' => e = .returned (.bool true) ∧ Below w.heap.size w w' := by
  have b0 := bounds_i64 w0
  have b1 := bounds_i64 w1
  have pk0 := fun x => Pick.pick_any a0 4 x b0.1 b0.2 (by omega) (by omega)
  have pk1 := fun x => Pick.pick_any a1 9999 x b1.1 b1.2 (by omega) (by omega)
  obtain ⟨h, hh, h1, h4⟩ : ∃ h : Nat, 1 + Pick.pickOf a0 4 = (h : Int) ∧ 1 ≤ h ∧ h ≤ 4 := by
    have p1 := Pick.pick_lo a0 4 (by omega)
    have p2 := Pick.pick_hi a0 4 (by omega)
    exact ⟨(1 + Pick.pickOf a0 4).toNat, by omega, by omega, by omega⟩
  obtain ⟨m, hm, m1, m9⟩ : ∃ m : Nat, 1 + Pick.pickOf a1 9999 = (m : Int) ∧ 1 ≤ m ∧ m ≤ 9999 := by
    have p1 := Pick.pick_lo a1 9999 (by omega)
    have p2 := Pick.pick_hi a1 9999 (by omega)
    exact ⟨(1 + Pick.pickOf a1 9999).toNat, by omega, by omega, by omega⟩
  have hr := rgt_of h1 h4 m1 m9
  have hp0 : -9223372036854775808 ≤ 1 + Pick.pickOf a0 4 ∧ 1 + Pick.pickOf a0 4 ≤ 9223372036854775807 := by omega
  generalize Pick.pickOf a0 4 = P0 at *
  generalize Pick.pickOf a1 9999 = P1 at *
  have HR : Hid (1 ≤ h ∧ h ≤ 4 ∧ m ≤ 9999 ∧ rgt (h : Int) (m : Int) = true) := ⟨h1, h4, m9, hr⟩
  have HS : Hid (a2.size ≤ 1048576) := k2
  have HL3 : Hid (Sl.Lies w v3 z3) := w3
  have HL4 : Hid (Sl.Lies w v4 z4) := w4
  have wr0 : IntKind.i64.wrap (h : Int) = (h : Int) := by rw [IntKind.wrap_i64]; omega
  have wr1 : IntKind.i64.wrap (m : Int) = (m : Int) := by rw [IntKind.wrap_i64]; omega
  have hq0 : (h : Int) ≤ 4 := by omega
  have hq1 : (m : Int) ≤ 9999 := by omega
  have hq2 : P0 ≤ 3 := by omega
  have hq3 : P1 ≤ 9998 := by omega
  have hq4 : 0 ≤ P0 := by omega
  have hq5 : 0 ≤ P1 := by omega
  clear h1 h4 m1 m9 hr b0 b1 w0 w1 w2 w3 w4 k2 hp0
  go_enter Try.func6, Try.ntmps6
  go_wp2_with fail
  refine (Fj.examples_any _).mono ?_
  rintro e y0 ⟨rfl, B0⟩
  have HB0 : Hid (Below w.heap.size w y0) := B0
  have hs0 := B0.size
  clear B0
  go_wp2_with fail
  refine (pk0 _).mono ?_
  rintro e y ⟨rfl, hy⟩
  rw [hy]
  clear hy y pk0
  go_wp2_with fail
  refine (pk1 _).mono ?_
  rintro e y ⟨rfl, hy⟩
  rw [hy]
  clear hy y pk1
  go_wp2_with fail
  clear hh hm wr0 wr1 hq0 hq1 hq2 hq3 hq4 hq5
  refine (new_lie h m HR.out.2.2.2 _).mono ?_
  rintro e y1 ⟨rfl, La, B1⟩
  have HLa : Hid (Lie y1 y0.heap.size h m (.hdr []) 0 none) := La
  have HB1 : Hid (Below y0.heap.size y0 y1) := B1
  clear La B1
  go_wp2_with fail
  refine (new_lie h m HR.out.2.2.2 _).mono ?_
  rintro e y2 ⟨rfl, Lb, B2⟩
  obtain ⟨ga, hga⟩ : ∃ ga, y0.heap.size = ga := ⟨_, rfl⟩
  obtain ⟨gb, hgb⟩ : ∃ gb, y1.heap.size = gb := ⟨_, rfl⟩
  have La2 := HLa.out.below B2
  have BW2 : Below w.heap.size w y2 := Kb.keepB (Kb.keepB HB0.out HB1.out) B2
  have hab : ga < gb := by rw [← hga, ← hgb]; exact HLa.out.lt
  have hb2 : gb < y2.heap.size := by rw [← hgb]; exact Lb.lt
  rw [hga] at La2 hs0 ⊢
  rw [hgb] at Lb ⊢
  clear HLa HB1 HB0 B2 hga hgb
  obtain ⟨F, hF⟩ : ∃ F, run h m ⟨.hdr [], 0, []⟩ a2.data.toList = F := ⟨_, rfl⟩
  have hcn := run_cnt h m a2.data.toList ⟨.hdr [], 0, []⟩
  rw [hF] at hcn
  have HC : Hid (F.idle ≤ a2.size ∧ F.out.length ≤ a2.size) := by
    have h2 : a2.data.toList.length = a2.size := rfl
    simp only [List.length_nil, h2] at hcn
    exact ⟨by omega, by omega⟩
  have fa := fed_any La2 HR.out.1 HR.out.2.1 HR.out.2.2.1 a2 (by have := HS.out; omega) (by have := HS.out; omega) v3 z3 (fun x hx => lies_fr HL3.out BW2 hx (by intro q hq; simp only [Option.toList, List.mem_cons, List.not_mem_nil, or_false] at hq; omega))
  rw [hF] at fa
  have HF : Hid (run h m ⟨.hdr [], 0, []⟩ a2.data.toList = F) := hF
  have HLb : Hid (Lie y2 gb h m (.hdr []) 0 none) := Lb
  have HBW : Hid (Below w.heap.size w y2) := BW2
  clear hcn hF Lb La2 BW2
  go_wp2_with fail
  refine fa.mono ?_
  rintro e y3 ⟨l, bba, rfl, ownL, La3, nba, f3, nla⟩
  clear fa
  have Lb3 := HLb.out.fr f3 (by simp; omega) (fun q hq => (by cases hq))
  have BW3 := below_fr HBW.out f3 (by intro q hq; simp only [Option.toList, List.mem_cons, List.not_mem_nil, or_false] at hq; omega)
  have hb3 : y2.heap.size ≤ y3.heap.size := f3.size
  have hbb : ∀ q, bba = some q → y2.heap.size ≤ q := fun q hq => (nba q hq).elim (fun h => by cases h) id
  have fb := fed_any Lb3 HR.out.1 HR.out.2.1 HR.out.2.2.1 a2 (by have := HS.out; omega) (by have := HS.out; omega) v4 z4 (fun x hx => lies_fr HL4.out BW3 hx (by intro q hq; simp only [Option.toList, List.mem_cons, List.not_mem_nil, or_false] at hq; omega))
  rw [HF.out] at fb
  have HLa : Hid (Lie y3 ga h m F.st F.idle bba) := La3
  have HLb3 : Hid (Lie y3 gb h m (.hdr []) 0 none) := Lb3
  have HBW3 : Hid (Below w.heap.size w y3) := BW3
  have HOL : Hid (y3.ownsRow y2.heap.size 9 1 l F.out.length (strs F.out)) := ownL
  have HBB : Hid (∀ q, bba = some q → y2.heap.size ≤ q) := hbb
  have HBA : Hid (∀ q, bba = some q → q < y3.heap.size) := fun q hq => (La3.blt q hq).1
  clear La3 Lb3 BW3 ownL hbb nba f3 nla HLb HBW
  go_wp2_with fail
  refine fb.mono ?_
  rintro e y4 ⟨m2, bbb, rfl, ownM, Lb4, nbb, f4, nlb⟩
  clear fb
  have hb4 : y3.heap.size ≤ y4.heap.size := f4.size
  have La4 := HLa.out.fr f4 (by simp; omega) (fun q hq => by have := HBB.out q hq; simp; omega)
  have BW4 := below_fr HBW3.out f4 (by intro q hq; simp only [Option.toList, List.mem_cons, List.not_mem_nil, or_false] at hq; omega)
  have ownL4 := own_lie HOL.out HLb3.out f4 (by omega)
  have hbbb : ∀ q, bbb = some q → y3.heap.size ≤ q := fun q hq => (nbb q hq).elim (fun h => by cases h) id
  have sm := same_eq ownL4 ownM (by have := HC.out; have := HS.out; omega)
  have HLa4 : Hid (Lie y4 ga h m F.st F.idle bba) := La4
  have HLb4 : Hid (Lie y4 gb h m F.st F.idle bbb) := Lb4
  have HBW4 : Hid (Below w.heap.size w y4) := BW4
  have HOL4 : Hid (y4.ownsRow y2.heap.size 9 1 l F.out.length (strs F.out)) := ownL4
  have HBBB : Hid (∀ q, bbb = some q → y3.heap.size ≤ q) := hbbb
  clear HLa HLb3 HBW3 HOL La4 Lb4 BW4 ownL4 hbbb nbb f4 nlb ownM
  go_wp2_with fail
  refine sm.mono ?_
  rintro e y5 ⟨rfl, B5⟩
  have La5 := HLa4.out.below B5
  have HLb5 : Hid (Lie y5 gb h m F.st F.idle bbb) := HLb4.out.below B5
  have HOL5 : Hid (y5.ownsRow y2.heap.size 9 1 l F.out.length (strs F.out)) := own_below HOL4.out B5
  have HBW5 : Hid (Below w.heap.size w y5) := Kb.keepB HBW4.out B5
  have hb5 : y4.heap.size ≤ y5.heap.size := B5.size
  clear B5 sm HLa4 HLb4 HOL4 HBW4
  go_wp2_with fail
  refine (waits_any La5 HR.out.1 HR.out.2.1 HR.out.2.2.1).mono ?_
  rintro e y6 ⟨rfl, B6⟩
  have HLa6 : Hid (Lie y6 ga h m F.st F.idle bba) := La5.below B6
  have Lb6 := HLb5.out.below B6
  have HOL6 : Hid (y6.ownsRow y2.heap.size 9 1 l F.out.length (strs F.out)) := own_below HOL5.out B6
  have HBW6 : Hid (Below w.heap.size w y6) := Kb.keepB HBW5.out B6
  have hb6 : y5.heap.size ≤ y6.heap.size := B6.size
  clear B6 La5 HLb5 HOL5 HBW5
  go_wp2_with fail
  refine (waits_any Lb6 HR.out.1 HR.out.2.1 HR.out.2.2.1).mono ?_
  rintro e y7 ⟨rfl, B7⟩
  have La7 := HLa6.out.below B7
  have HLb7 : Hid (Lie y7 gb h m F.st F.idle bbb) := Lb6.below B7
  have HOL7 : Hid (y7.ownsRow y2.heap.size 9 1 l F.out.length (strs F.out)) := own_below HOL6.out B7
  have HBW7 : Hid (Below w.heap.size w y7) := Kb.keepB HBW6.out B7
  have hb7 : y6.heap.size ≤ y7.heap.size := B7.size
  clear B7 Lb6 HLa6 HOL6 HBW6
  go_wp2_with fail
  refine (idle_any La7).mono ?_
  rintro e y ⟨rfl, hy⟩
  rw [hy]
  clear hy y
  have HLa7 : Hid (Lie y7 ga h m F.st F.idle bba) := La7
  clear La7
  go_wp2_with fail
  refine (idle_any HLb7.out).mono ?_
  rintro e y ⟨rfl, hy⟩
  rw [hy]
  clear hy y
  obtain ⟨C, y8, cvb, hC, B8, hsz8, hin8⟩ := conv_bytes y7 a2
  have FD := feed_at HLa7.out B8 HR.out.1 HR.out.2.1 HR.out.2.2.1 C a2.data.toList a2.size rfl hC hin8 hsz8 (by have := HS.out; have := HC.out; omega) (by have := HS.out; omega)
  obtain ⟨G, hG⟩ : ∃ G, run h m ⟨F.st, F.idle, []⟩ a2.data.toList = G := ⟨_, rfl⟩
  rw [hG] at FD
  have HG : Hid (run h m ⟨F.st, F.idle, []⟩ a2.data.toList = G) := hG
  have HB8 : Hid (Below y7.heap.size y7 y8) := B8
  have hb8 : y7.heap.size ≤ y8.heap.size := B8.size
  clear hG B8 hin8 hsz8 hC
  go_wp2_with fail
  refine FD.mono ?_
  rintro e y9 ⟨more, bbm, rfl, ownMo, La9, nbm, f9, nlm⟩
  clear FD cvb
  have hfr9 : ∀ q ∈ ga :: bba.toList, q = ga ∨ y2.heap.size ≤ q := by
    intro q hq
    rcases List.mem_cons.1 hq with h | h
    · exact .inl h
    · exact .inr (HBB.out q (by simpa using h))
  have Lb9 := (HLb7.out.below HB8.out).fr f9 (fun hm => by rcases hfr9 _ hm with h | h <;> omega) (fun q hq hm => by
    have h1 := HBBB.out q hq
    rcases List.mem_cons.1 hm with h | h
    · omega
    · have h2 := HBA.out q (by simpa using h)
      omega)
  have ownL9 := own_lie (own_below HOL7.out HB8.out) (HLa7.out.below HB8.out) f9 (by omega)
  have BW9 := below_fr (Kb.keepB HBW7.out HB8.out) f9 (fun q hq => by rcases hfr9 _ hq with h | h <;> omega)
  have hb9 : y8.heap.size ≤ y9.heap.size := f9.size
  have hcg := run_cnt h m a2.data.toList ⟨F.st, F.idle, []⟩
  have hci := run_idle h m F.st F.idle [] a2.data.toList
  rw [HG.out] at hcg hci
  have HGI : Hid (F.idle ≤ G.idle ∧ G.idle ≤ F.idle + a2.size ∧ F.idle ≤ a2.size) := by
    refine ⟨?_, ?_, HC.out.1⟩
    · rw [hci]; simp
    · have h2 : a2.data.toList.length = a2.size := rfl
      rw [h2] at hcg
      exact hcg.1
  have HLa9 : Hid (Lie y9 ga h m G.st G.idle bbm) := La9
  have HLb9 : Hid (Lie y9 gb h m F.st F.idle bbb) := Lb9
  have HO9 : Hid (y9.ownsRow y2.heap.size 9 1 l F.out.length (strs F.out)) := ownL9
  have HW9 : Hid (Below w.heap.size w y9) := BW9
  have HNL : Hid (G.out = [] → more = .slice none 0 0) := nlm
  have HMO : Hid (y9.ownsRow y8.heap.size 9 1 more G.out.length (strs G.out)) := ownMo
  clear ownL9 BW9 hcg hci La9 Lb9 nlm ownMo nbm f9 hfr9 HLa7 HLb7 HOL7 HBW7 HB8
  by_cases herr : errN F.st = 0
  · have q1 : ((errN F.st : Int) != 0) = false := by simp [herr]
    obtain ⟨ma, mc, rfl, _⟩ := own_form HMO.out
    go_wp2_with fail
    refine (reset_any HLa9.out).mono ?_
    rintro e y11 ⟨rfl, La11, f11⟩
    have Lb11 := HLb9.out.fr f11 (by simp; omega) (fun q hq => by have := HBBB.out q hq; simp; omega)
    have own11 := own_fr1 HO9.out f11 (by omega)
    have BW11 := below_fr HW9.out f11 (by intro q hq; simp only [List.mem_cons, List.not_mem_nil, or_false] at hq; omega)
    have hb11 := f11.size
    have HLb11 : Hid (Lie y11 gb h m F.st F.idle bbb) := Lb11
    have HO11 : Hid (y11.ownsRow y2.heap.size 9 1 l F.out.length (strs F.out)) := own11
    have HW11 : Hid (Below w.heap.size w y11) := BW11
    clear Lb11 own11 BW11 f11
    go_wp2_with fail
    refine (waits_any La11 HR.out.1 HR.out.2.1 HR.out.2.2.1).mono ?_
    rintro e y12 ⟨rfl, B12⟩
    rw [show ((waitN h (.hdr []) : Nat) : Int) = 0 from rfl]
    have La12 := La11.below B12
    have HLb12 : Hid (Lie y12 gb h m F.st F.idle bbb) := HLb11.out.below B12
    have HO12 : Hid (y12.ownsRow y2.heap.size 9 1 l F.out.length (strs F.out)) := own_below HO11.out B12
    have HW12 : Hid (Below w.heap.size w y12) := Kb.keepB HW11.out B12
    have hb12 := B12.size
    clear La11 B12 HLb11 HO11 HW11
    go_wp2_with fail
    refine (idle_any La12).mono ?_
    rintro e y ⟨rfl, hy⟩
    rw [hy]
    clear hy y
    have HLa12 : Hid (Lie y12 ga h m (.hdr []) G.idle none) := La12
    clear La12
    go_wp2_with fail
    refine (idle_any HLb12.out).mono ?_
    rintro e y ⟨rfl, hy⟩
    rw [hy]
    clear hy y
    have fc := fed_any HLa12.out HR.out.1 HR.out.2.1 HR.out.2.2.1 a2 (by have := HS.out; have := HGI.out; omega) (by have := HS.out; omega) v4 z4 (fun x hx => lies_fr HL4.out HW12.out hx (by intro q hq; simp only [Option.toList, List.mem_cons, List.not_mem_nil, or_false] at hq; omega))
    rw [run_idle, HF.out] at fc
    have i1 : (F.idle : Int) ≤ (G.idle : Int) := by have := HGI.out; omega
    have i2 : (G.idle : Int) ≤ 4611686018427387904 := by have := HS.out; have := HGI.out; omega
    go_wp2_with fail
    refine fc.mono ?_
    rintro e y13 ⟨ag, bb13, rfl, ownA, La13, nb13, f13, nl13⟩
    clear fc
    have own13 := own_lie HO12.out HLa12.out f13 (by omega)
    have HW13 : Hid (Below w.heap.size w y13) := below_fr HW12.out f13 (by intro q hq; simp only [Option.toList, List.mem_cons, List.not_mem_nil, or_false] at hq; omega)
    have sm := same_eq own13 ownA (by have := HC.out; have := HS.out; omega)
    clear own13 ownA La13 nb13 f13 nl13 HLa12 HLb12 HO12 HW12
    go_wp2_with fail
    refine sm.mono ?_
    rintro e y14 ⟨rfl, B14⟩
    go_wp2_with fail
    go_ret
    exact ⟨rfl, Kb.keepB HW13.out B14⟩
  · have q1 : ((errN F.st : Int) != 0) = true := by simp; omega
    obtain ⟨ee, hee⟩ := err_brk herr
    have hGb : G = ⟨.brk ee, F.idle, []⟩ := by rw [← HG.out, hee, run_brk]
    have q2 : errN G.st = errN F.st := by rw [hGb, hee]
    have q3 : waitN h G.st = 0 := by rw [hGb]; rfl
    obtain rfl := HNL.out (by rw [hGb])
    have Q2 : Hid (errN G.st = errN F.st) := q2
    have Q3 : Hid (waitN h G.st = 0) := q3
    clear q2 q3 hGb hee herr
    rw [Q2.out]
    go_wp2_with fail
    refine (waits_any HLa9.out HR.out.1 HR.out.2.1 HR.out.2.2.1).mono ?_
    rintro e y10 ⟨rfl, B10⟩
    rw [Q3.out]
    have hb10 := B10.size
    have HLa10 : Hid (Lie y10 ga h m G.st G.idle bbm) := HLa9.out.below B10
    have HLb10 : Hid (Lie y10 gb h m F.st F.idle bbb) := HLb9.out.below B10
    have HO10 : Hid (y10.ownsRow y2.heap.size 9 1 l F.out.length (strs F.out)) := own_below HO9.out B10
    have HW10 : Hid (Below w.heap.size w y10) := Kb.keepB HW9.out B10
    clear B10 HLa9 HLb9 HO9 HW9
    go_wp2_with fail
    refine (reset_any HLa10.out).mono ?_
    rintro e y11 ⟨rfl, La11, f11⟩
    have Lb11 := HLb10.out.fr f11 (by simp; omega) (fun q hq => by have := HBBB.out q hq; simp; omega)
    have own11 := own_fr1 HO10.out f11 (by omega)
    have BW11 := below_fr HW10.out f11 (by intro q hq; simp only [List.mem_cons, List.not_mem_nil, or_false] at hq; omega)
    have hb11 := f11.size
    have HLb11 : Hid (Lie y11 gb h m F.st F.idle bbb) := Lb11
    have HO11 : Hid (y11.ownsRow y2.heap.size 9 1 l F.out.length (strs F.out)) := own11
    have HW11 : Hid (Below w.heap.size w y11) := BW11
    clear Lb11 own11 BW11 f11
    go_wp2_with fail
    refine (waits_any La11 HR.out.1 HR.out.2.1 HR.out.2.2.1).mono ?_
    rintro e y12 ⟨rfl, B12⟩
    rw [show ((waitN h (.hdr []) : Nat) : Int) = 0 from rfl]
    have La12 := La11.below B12
    have HLb12 : Hid (Lie y12 gb h m F.st F.idle bbb) := HLb11.out.below B12
    have HO12 : Hid (y12.ownsRow y2.heap.size 9 1 l F.out.length (strs F.out)) := own_below HO11.out B12
    have HW12 : Hid (Below w.heap.size w y12) := Kb.keepB HW11.out B12
    have hb12 := B12.size
    clear La11 B12 HLb11 HO11 HW11
    go_wp2_with fail
    refine (idle_any La12).mono ?_
    rintro e y ⟨rfl, hy⟩
    rw [hy]
    clear hy y
    have HLa12 : Hid (Lie y12 ga h m (.hdr []) G.idle none) := La12
    clear La12
    go_wp2_with fail
    refine (idle_any HLb12.out).mono ?_
    rintro e y ⟨rfl, hy⟩
    rw [hy]
    clear hy y
    have fc := fed_any HLa12.out HR.out.1 HR.out.2.1 HR.out.2.2.1 a2 (by have := HS.out; have := HGI.out; omega) (by have := HS.out; omega) v4 z4 (fun x hx => lies_fr HL4.out HW12.out hx (by intro q hq; simp only [Option.toList, List.mem_cons, List.not_mem_nil, or_false] at hq; omega))
    rw [run_idle, HF.out] at fc
    have i1 : (F.idle : Int) ≤ (G.idle : Int) := by have := HGI.out; omega
    have i2 : (G.idle : Int) ≤ 4611686018427387904 := by have := HS.out; have := HGI.out; omega
    go_wp2_with fail
    refine fc.mono ?_
    rintro e y13 ⟨ag, bb13, rfl, ownA, La13, nb13, f13, nl13⟩
    clear fc
    have own13 := own_lie HO12.out HLa12.out f13 (by omega)
    have HW13 : Hid (Below w.heap.size w y13) := below_fr HW12.out f13 (by intro q hq; simp only [Option.toList, List.mem_cons, List.not_mem_nil, or_false] at hq; omega)
    have sm := same_eq own13 ownA (by have := HC.out; have := HS.out; omega)
    clear own13 ownA La13 nb13 f13 nl13 HLa12 HLb12 HO12 HW12
    go_wp2_with fail
    refine sm.mono ?_
    rintro e y14 ⟨rfl, B14⟩
    go_wp2_with fail
    go_ret
    exact ⟨rfl, Kb.keepB HW13.out B14⟩

set_option maxRecDepth 100000 in
theorem contract (H : Type) (enc : TypeId × Value → H) (W : World) (base : Nat) (args : Array Value) (ds gs : List (DataW H)) (before : List MemPlace)
    (hval : ∀ (j : Nat) t v, Try.f6.params[j]? = some t → args[j]? = some v → Value.okWide Try.prog W .any base t v)
    (hW : DataW.Whole enc Try.prog Try.f6.params.toList Rows.framePiecesSpec.vars false W args.toList ds gs before) (hk : Rows.uptoSmall H (ds ++ gs) = true) :
    Calls Try.prog 6 args W fun e W' => ∃ v, e = .returned v ∧ Rows.framePiecesSpec.post enc Try.prog Try.f6 false true false false W args v W' := by
  have hW' := hW
  obtain ⟨p, q, hA0, hV, rfl, hfz, hnd⟩ := hW
  have hA : DataW.TrodAll enc Try.prog W 0 (fun _ => true) true Try.f6.params.toList args.toList ds p := hA0
  rw [Try.params6] at hA hval
  obtain ⟨v0, vs0, d0, ds0, p0, q0, hargs, rfl, rfl, h0, r0⟩ := trodAll_cons hA
  obtain ⟨v1, vs1, d1, ds1, p1, q1, rfl, rfl, rfl, h1, r1⟩ := trodAll_cons r0
  obtain ⟨v2, vs2, d2, ds2, p2, q2, rfl, rfl, rfl, h2, r2⟩ := trodAll_cons r1
  obtain ⟨v3, vs3, d3, ds3, p3, q3, rfl, rfl, rfl, h3, r3⟩ := trodAll_cons r2
  obtain ⟨v4, vs4, d4, ds4, p4, q4, rfl, rfl, rfl, h4, r4⟩ := trodAll_cons r3
  obtain ⟨rfl, rfl, rfl⟩ := trodAll_nil r4
  obtain rfl : args = #[v0, v1, v2, v3, v4] := by cases args; simp_all
  obtain ⟨rfl, rfl⟩ := trodVars_none hV
  obtain ⟨a0, rfl, rfl, rfl, w0⟩ := open_int Try.underlying3 (hval 0 3 v0 rfl rfl) h0
  obtain ⟨a1, rfl, rfl, rfl, w1⟩ := open_int Try.underlying3 (hval 1 3 v1 rfl rfl) h1
  obtain ⟨a2, rfl, rfl, rfl, w2⟩ := open_string Try.underlying9 (hval 2 9 v2 rfl rfl) h2
  obtain ⟨z3, w3, lt3, bulk3⟩ := Sl.open_sl (hval 3 60 v3 rfl rfl) h3
  obtain ⟨z4, w4, lt4, bulk4⟩ := Sl.open_sl (hval 4 60 v4 rfl rfl) h4
  clear hA0
  simp only [List.append_nil] at hk
  have hk1 := of_decide_eq_true hk
  simp only [Rows.uptoBulkAll, Rows.uptoBulk] at hk1
  have e2 : a2.data.toList.length = a2.size := by rw [Array.length_toList]; rfl
  have e3 := bulk3
  have e4 := bulk4
  refine (walk a0 a1 a2 v3 z3 v4 z4 W w0 w1 w2 w3 w4 (by omega) (by omega) (by omega)).mono fun e W' ⟨he, bel⟩ => ?_
  subst he
  exact ⟨_, rfl, _, _, _, [], _, [], hW', trodAll_mk1 (shut_bool Try.underlying4 _), (trodAll_cons_mk (shut_int Try.underlying3 w0) (trodAll_cons_mk (shut_int Try.underlying3 w1) (trodAll_cons_mk (shut_string Try.underlying9 w2) (trodAll_cons_mk (Below.trod (by kernel_rfl) (by kernel_rfl) (of_decide_eq_true (by kernel_rfl)) h3 bel lt3) (trodAll_cons_mk (Below.trod (by kernel_rfl) (by kernel_rfl) (of_decide_eq_true (by kernel_rfl)) h4 bel lt4) trodAll_mk0))))), rfl, bel.frame _, fun h => by cases h⟩

set_option maxRecDepth 100000 in
theorem lifted (os : Os) (started : os.Started) (H : Type) (enc : TypeId × Value → H) (F : Stop.Interp) :
    ReturnsInHanded {} Try.checked os 6 .any ((Rows.OpenSpec.upto Rows.framePiecesSpec).pre6 enc Try.prog Try.f6 Rows.framePiecesUptoRow.domain false) (((Rows.OpenSpec.upto Rows.framePiecesSpec).at F).post enc Try.prog Try.f6 false true false false) := by
  refine returnsInHanded_of_cond (C := Try.checked) (s := Rows.OpenSpec.upto Rows.framePiecesSpec) (k := Rows.uptoSmall) rfl own started (by kernel_rfl) Try.func6
    (OpenSpec.witness (enc := enc) (C := Try.checked) (s := Rows.OpenSpec.upto Rows.framePiecesSpec) (k := Rows.uptoSmall) rfl false ⟨#[], #[.int .i64 0, .int .i64 0, .string .empty, .slice none 0 0, .slice none 0 0], []⟩ 8 (by kernel_rfl) (by kernel_rfl) (by kernel_rfl)
      (x := ([.lit (.int .i64 0), .lit (.int .i64 0), .lit (.string []), .nil, .nil], [], [])) (by kernel_rfl) rfl (by kernel_rfl)) ?_
  intro W base args ds gs before hval hW _ hk _
  exact contract H enc W base args ds gs before hval hW hk

theorem proved : Rows.FramePiecesUptoSaid :=
  OpenClaim.holds_of_cond 6 Try.f6 rfl rfl rfl rfl rfl rfl rfl ⟨rfl, rfl, rfl, rfl, rfl⟩ rfl rfl rfl rfl rfl (by kernel_rfl) Try.func6 (by kernel_rfl)
    (of_decide_eq_true (by kernel_rfl)) (by unfold Func.isWrapper; first | (rw [if_pos (by decide +kernel)]; kernel_rfl) | (rw [if_neg (by decide +kernel)]; exact ⟨rfl, rfl⟩))
    (fun os started H enc _ F => lifted os started H enc F)
#print axioms proved
end Go.Proofs.Ytfoddooehanemaa.framePieces
