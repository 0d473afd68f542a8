/- Frames: the document's New, Feed, Waits, Idle, Reset. -/
import Derived.Test.YtfoddooehanemaaDb
import Derived.Test.YtfoddooehanemaaFi
namespace Go.Proofs.Ytfoddooehanemaa.Dc
set_option linter.unusedVariables false
set_option linter.unusedSimpArgs false
open Go.RowKit Lib0 Kb Fa Fb Fc Fm Fe Ff Fg Fk Fu Fv Da Db
theorem newr_bad (h m : Int) (hr : rgt h m = false) (w : World) : Calls Try.prog 10 #[.int .i64 h, .int .i64 m] w fun e' w' => e' = .returned (.tuple #[.pointer none, .int .i64 1]) ∧ w' = w := by
  have p := fun w => Fi.rightr_any h m w
  rw [hr] at p
  go_enter Try.func10, Try.ntmps10
  go_wp2_with (go_at_call 34; refine (p _).mono ?_; rintro e y ⟨rfl, hy⟩; rw [hy]; clear hy y)
  go_ret2
  exact ⟨rfl, rfl⟩
set_option maxRecDepth 100000 in
theorem newr_any (h m : Nat) (hr : rgt (h : Int) (m : Int) = true) (w : World) : Calls Try.prog 10 #[.int .i64 (h : Int), .int .i64 (m : Int)] w fun e' w' => e' = .returned (.tuple #[.pointer (some ⟨w.heap.size, 0, none⟩), .int .i64 0]) ∧ Dm w' w.heap.size h m ⟨#[]⟩ 0 0 ∧ Below w.heap.size w w' := by
  have p := fun w => Fi.rightr_any h m w
  rw [hr] at p
  go_enter Try.func10, Try.ntmps10
  go_wp2_with (go_at_call 34; refine (p _).mono ?_; rintro e y ⟨rfl, hy⟩; rw [hy]; clear hy y)
  go_ret2
  exact ⟨rfl, h1_0 w _, below_one w _⟩
section
variable {w : World} {g h m : Nat} {S : ByteArray} {t i : Nat}
set_option maxRecDepth 100000 in
theorem waitsr_any (D : Dm w g h m S t i) (h1 : 1 ≤ h) (h4 : h ≤ 4) (hm : m ≤ 9999) (hs : S.size ≤ 8796093022000) :
    Calls Try.prog 19 #[.pointer (some ⟨g, 0, none⟩)] w fun e' w' => e' = .returned (.int .i64 (waitN h (Fnl h m S).st : Int)) ∧ Below w.heap.size w w' := by
  have p := cutr_any D h1 h4 hm hs
  obtain ⟨F, hF⟩ : ∃ F, Fnl h m S = F := ⟨_, rfl⟩
  rw [hF] at p ⊢
  have hsI : (S.size : Int) ≤ 8796093022000 := by omega
  have HD : Hid (Dm w g h m S t i) := D
  have hg := D.lt
  clear D hF
  go_enter Try.func19, Try.ntmps19
  go_wp2_with fail
  refine p.mono ?_
  rintro e y ⟨v, q, rfl, own, hq, hqs, hb⟩
  have c2 : y.cell? ⟨g, 2, none⟩ = some (.string S) := (HD.out.below hb hg).ce 2
  have HB : Hid (Below w.heap.size w y) := hb
  clear p own hb
  by_cases he : errN F.st = 0
  · have q1 : ((errN F.st : Int) != 0) = false := by simp [he]
    have HQ : Hid (q + waitN h F.st = S.size) := hq he
    have q2 : (q : Int) ≤ (S.size : Int) := by omega
    clear hq he
    go_wp2_with fail
    go_ret
    exact ⟨by apply Lib0.ret_int; have := HQ.out; omega, HB.out⟩
  · have q1 : ((errN F.st : Int) != 0) = true := by simp; omega
    obtain ⟨k, hk⟩ : ∃ k, F.st = .brk k := by
      cases hst : F.st with
      | hdr l => rw [hst] at he; exact absurd rfl he
      | bod n l => rw [hst] at he; exact absurd rfl he
      | brk e => exact ⟨e, rfl⟩
    have HW : Hid (waitN h F.st = 0) := by show _ = _; rw [hk]; rfl
    clear hq he hk
    go_wp2_with fail
    go_ret
    exact ⟨by rw [HW.out]; rfl, HB.out⟩
set_option maxRecDepth 100000 in
theorem idler_any (D : Dm w g h m S t i) (h1 : 1 ≤ h) (h4 : h ≤ 4) (hm : m ≤ 9999) (hs : S.size ≤ 8796093022000) (hi : i ≤ 4611686018427387904) :
    Calls Try.prog 21 #[.pointer (some ⟨g, 0, none⟩)] w fun e' w' => e' = .returned (.int .i64 ((i + (Fnl h m S).idle : Nat) : Int)) ∧ Below w.heap.size w w' := by
  have p := cutr_any D h1 h4 hm hs
  have hc := run_cnt h m S.data.toList ⟨.hdr [], 0, []⟩
  obtain ⟨F, hF⟩ : ∃ F, Fnl h m S = F := ⟨_, rfl⟩
  rw [show run h m ⟨.hdr [], 0, []⟩ S.data.toList = F from hF] at hc
  rw [hF] at p ⊢
  have hsI : (F.idle : Int) ≤ 8796093022000 := by have h2 : S.data.toList.length = S.size := rfl; simp only [h2] at hc; omega
  have hiI : (i : Int) ≤ 4611686018427387904 := by omega
  have HD : Hid (Dm w g h m S t i) := D
  have hg := D.lt
  clear D hF hc
  go_enter Try.func21, Try.ntmps21
  go_wp2_with fail
  refine p.mono ?_
  rintro e y ⟨v, q, rfl, own, hq, hqs, hb⟩
  have c4 : y.cell? ⟨g, 4, none⟩ = some (.int .i64 (i : Int)) := (HD.out.below hb hg).ce 4
  have HB : Hid (Below w.heap.size w y) := hb
  clear p own hb hq
  go_wp2_with fail
  go_ret
  exact ⟨by apply Lib0.ret_int; simp, HB.out⟩
set_option maxRecDepth 100000 in
theorem resetr_any (D : Dm w g h m S t i) (h1 : 1 ≤ h) (h4 : h ≤ 4) (hm : m ≤ 9999) (hs : S.size ≤ 8796093022000) (hi : i ≤ 4611686018427387904) :
    Calls Try.prog 17 #[.pointer (some ⟨g, 0, none⟩)] w fun e' w' => e' = .returned (.tuple #[]) ∧ Dm w' g h m ⟨#[]⟩ 0 (i + (Fnl h m S).idle) ∧ Fr [g] w w' := by
  have p := idler_any D h1 h4 hm hs hi
  obtain ⟨I, hI⟩ : ∃ I, i + (Fnl h m S).idle = I := ⟨_, rfl⟩
  rw [hI] at p ⊢
  have HD : Hid (Dm w g h m S t i) := D
  have hg := D.lt
  clear D hI
  go_enter Try.func17, Try.ntmps17
  go_wp2_with fail
  refine p.mono ?_
  rintro e y ⟨rfl, hb⟩
  have Dy := HD.out.below hb hg
  have c4 : y.cell? ⟨g, 4, none⟩ = some (.int .i64 (i : Int)) := Dy.ce 4
  have f4 := Dy.fz 4
  have D1 : Dm (y.setCell ⟨g, 4, none⟩ (.int .i64 (I : Int))) g h m S t I := setCell_heap Dy 4 _
  have c2 : (y.setCell ⟨g, 4, none⟩ (.int .i64 (I : Int))).cell? ⟨g, 2, none⟩ = some (.string S) := D1.ce 2
  have f2 := D1.fz 2
  have D2 : Dm ((y.setCell ⟨g, 4, none⟩ (.int .i64 (I : Int))).setCell ⟨g, 2, none⟩ (.string ⟨#[]⟩)) g h m ⟨#[]⟩ t I := setCell_heap D1 2 _
  have c3 : ((y.setCell ⟨g, 4, none⟩ (.int .i64 (I : Int))).setCell ⟨g, 2, none⟩ (.string ⟨#[]⟩)).cell? ⟨g, 3, none⟩ = some (.int .i64 (t : Int)) := D2.ce 3
  have f3 := D2.fz 3
  have H3 : Hid (Dm (((y.setCell ⟨g, 4, none⟩ (.int .i64 (I : Int))).setCell ⟨g, 2, none⟩ (.string ⟨#[]⟩)).setCell ⟨g, 3, none⟩ (.int .i64 ((0 : Nat) : Int))) g h m ⟨#[]⟩ 0 I) := setCell_heap D2 3 _
  have HF : Hid (Fr [g] w y) := Fr.of hb
  clear p hb Dy D1 D2
  go_wp2_with fail
  go_end0
  exact ⟨rfl, H3.out, ((HF.out.set (.inl (by simp)) _ _).set (.inl (by simp)) _ _).set (.inl (by simp)) _ _⟩
end
end Go.Proofs.Ytfoddooehanemaa.Dc
