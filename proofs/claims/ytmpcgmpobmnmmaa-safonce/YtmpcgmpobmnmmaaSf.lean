/- New, Gone, Answer, giveUp. -/
import Derived.Test.YtmpcgmpobmnmmaaSd
import Derived.Test.YtmpcgmpobmnmmaaSe
namespace Go.Proofs.Ytmpcgmpobmnmmaa.Sf
set_option linter.unusedVariables false
set_option linter.unusedSimpArgs false
open Go.RowKit Go.Maps Lib0 Kb Xp Za Ze Sa Sb Sc Sd Se
attribute [local go_sem] Oper.semAt_some
def newS (m r t : Int) : St := ⟨m, r, t, [], 0, false, 0, [], 0⟩
theorem ok_new {m r t : Int} (h1 : 1 ≤ m) (h2 : m ≤ 10000) (h3 : 1 ≤ r) (h4 : r ≤ 100000) (h5 : 1 ≤ t) (h6 : t ≤ 100) : Ok (newS m r t) := by
  constructor <;> simp [newS] <;> omega
set_option maxRecDepth 100000 in
theorem within_any (n m : Int) (w : World) (h1 : 1 ≤ n) (h2 : n ≤ m) : Calls Try.prog 29 #[.int .i64 n, .int .i64 m] w fun e w' => e = .returned (.bool true) ∧ w' = w := by
  go_enter Try.func29, Try.ntmps29
  go_wp2_with fail
  go_ret
  exact ⟨rfl, rfl⟩
set_option maxRecDepth 100000 in
theorem new_any (m r t : Int) (w : World) (h1 : 1 ≤ m) (h2 : m ≤ 10000) (h3 : 1 ≤ r) (h4 : r ≤ 100000) (h5 : 1 ≤ t) (h6 : t ≤ 100) : Calls Try.prog 8 #[.int .i64 m, .int .i64 r, .int .i64 t] w fun e w' => e = .returned (.tuple #[.pointer (some ⟨w.heap.size, 0, none⟩), .int .i64 0]) ∧ Sq w' w.heap.size w.heap.size (newS m r t) ∧ Below w.heap.size w w' := by
  have HW : Hid (∀ n m, 1 ≤ n → n ≤ m → ∀ x, Calls Try.prog 29 #[.int .i64 n, .int .i64 m] x fun e w' => e = .returned (.bool true) ∧ w' = x) := fun n m a b x => within_any n m x a b
  have HE : Hid (Sq (w.alloc (.cells (qcs (newS m r t) (.slice none 0 0) (.slice none 0 0)) tQ)) w.heap.size w.heap.size (newS m r t)) := ⟨.slice none 0 0, .slice none 0 0, [], h1_0 _ _, World.ownsRow_nil _ _ _ _, rfl, (fun z hz => by cases hz), World.ownsRow_nil _ _ _ _, Nat.le_refl _, (below_one w _).size⟩
  have HB : Hid (Below w.heap.size w (w.alloc (.cells (qcs (newS m r t) (.slice none 0 0) (.slice none 0 0)) tQ))) := below_one _ _
  go_enter Try.func8, Try.ntmps8
  go_wp2_with (go_at_call 29; refine (HW.out _ _ (by assumption) (by assumption) _).mono ?_; rintro e x ⟨rfl, rfl⟩)
  go_ret2
  exact ⟨rfl, HE.out, HB.out⟩
def goneS (S : St) : St := { S with gone := [] }
set_option maxRecDepth 100000 in
theorem gone_any {w : World} {base g : Nat} {S : St} (h : Sq w base g S) : Calls Try.prog 23 #[.pointer (some ⟨g, 0, none⟩)] w fun e w' => ∃ vg, e = .returned vg ∧ w'.ownsRow base tI 1 vg S.gone.length (S.gone.map iv) ∧ PQ w base g (goneS S) w' := by
  obtain ⟨vw, vg, zs, h⟩ := h
  obtain ⟨-, -, -, -, -, -, -, c7, -⟩ := h.cells
  have f7 := h.frz 7
  have HE : Hid ((w.setCell ⟨g, 7, none⟩ (.slice none 0 0)).ownsRow base tI 1 vg S.gone.length (S.gone.map iv) ∧ PQ w base g (goneS S) (w.setCell ⟨g, 7, none⟩ (.slice none 0 0))) := by
    have K := Kq.set (Kq.refl w) h.blk (o := 7) (.slice none 0 0)
    have hne : ∀ (t : TypeId) (sz : Nat) (v : Value) (n : Nat) (xs : List Value), t ≠ tQ → w.ownsRow base t sz v n xs → (w.setCell ⟨g, 7, none⟩ (.slice none 0 0)).ownsRow base t sz v n xs := fun t sz v n xs ht ho => own_keep ho fun b hb2 => setCell_ne (p := ⟨g, 7, none⟩) (fun e => by
      obtain ⟨c, hc⟩ := own_ty ho hb2
      exact ty_ne h.blk hc (fun e2 => ht e2.symm) e) _
    refine ⟨hne _ _ _ _ _ (by decide) h.gon, ⟨vw, .slice none 0 0, zs, ?_, hne _ _ _ _ _ (by decide) h.row, h.eq, fun z hz => (h.ads z hz).keep K, World.ownsRow_nil _ _ _ _, h.low, ?_⟩, K, (Below.refl _ _).setCell h.low _⟩
    · rw [setCell_heap h.blk]; rfl
    · rw [setCell_size]; exact h.bas
  obtain ⟨o, cp, rfl, -⟩ := own_form h.gon
  clear h
  go_enter Try.func23, Try.ntmps23
  go_wp2_with fail
  go_ret
  exact ⟨_, rfl, HE.out⟩
/-- nothing is under way -/
theorem answer_idle {w : World} {base g : Nat} {S : St} (h : Sq w base g S) (hw : S.way = false) (n : Int) : Calls Try.prog 25 #[.pointer (some ⟨g, 0, none⟩), .int .i64 n] w fun e w' => e = .returned (.bool false) ∧ PQ w base g S w' := by
  have HS : Hid (Sq w base g S) := h
  obtain ⟨vw, vg, zs, h⟩ := h
  obtain ⟨-, -, -, -, -, c5, -⟩ := h.cells
  rw [hw] at c5
  clear h hw
  go_enter Try.func25, Try.ntmps25
  go_wp2_with fail
  go_ret
  exact ⟨rfl, PQ.of HS.out (Below.refl _ _)⟩
theorem first_cells {w : World} {base g : Nat} {S : St} {vw vg : Value} {zs : List ZA} {a : Av} {L : List Av} (h : Qm w base g S vw vg zs) (hL : S.L = a :: L) : ∃ rb cap k, vw = .slice (some ⟨rb, 0, none⟩) (L.length + 1) cap ∧ w.cell? ⟨rb, 0, none⟩ = some (.pointer (some ⟨k, 0, none⟩)) ∧ w.cell? ⟨k, 1, none⟩ = some (.int .i64 a.no) ∧ Ad w base k a := by
  cases zs with
  | nil => have := h.eq; rw [hL] at this; cases this
  | cons z zs =>
  have e := h.eq
  rw [hL] at e
  injection e with e1 e2
  rcases h.row.2 with ⟨-, h0⟩ | ⟨rb, cap, cur, rfl, hbase, hg, hcap, hml, hcs, htk⟩
  · simp at h0
  have had := h.ads z (List.mem_cons_self ..)
  rw [show z.2 = a from e1] at had
  refine ⟨rb, cap, z.1, by rw [← e2]; simp, ?_, had.cell, had⟩
  have := h.row.cells (g := rb) rfl 0 (ptr z.1) rfl
  exact this
set_option maxRecDepth 100000 in
set_option maxHeartbeats 1600000 in
/-- the first one is under way -/
theorem answer_way {w : World} {base g : Nat} {S : St} (h : Sq w base g S) (ok : Ok S) (hw : S.way = true) (a : Av) (L : List Av) (hL : S.L = a :: L) (n : Int) : Calls Try.prog 25 #[.pointer (some ⟨g, 0, none⟩), .int .i64 n] w fun e w' => e = .returned (.bool (a.no == n)) ∧ PQ w base g (if a.no == n then outS S else S) w' := by
  have HS : Hid (Sq w base g S) := h
  have HT : Hid (Calls Try.prog 48 #[.pointer (some ⟨g, 0, none⟩)] w fun e w' => e = .returned (.tuple #[]) ∧ PQ w base g (outS S) w') := takeOut_any h ok (by rw [hL]; simp)
  obtain ⟨vw, vg, zs, h⟩ := h
  obtain ⟨-, -, -, c3, -, c5, -⟩ := h.cells
  obtain ⟨rb, cap, k, rfl, d0, d1, -⟩ := first_cells h hL
  rw [hw] at c5
  generalize L.length = N at c3
  obtain ⟨no, hno⟩ : ∃ no, a.no = no := ⟨_, rfl⟩
  rw [hno] at d1 ⊢
  clear h hw ok hL hno
  by_cases e : no = n
  · have q : (no != n) = false := by simp [e]
    have HR : Hid ((no == n) = true) := by simp [Hid, e]
    rw [HR.out]
    clear e HR
    go_enter Try.func25, Try.ntmps25
    go_wp2_with (go_at_call 48; refine HT.out.mono ?_; rintro e x ⟨rfl, hx⟩)
    go_ret
    exact ⟨rfl, hx⟩
  · have q : (no != n) = true := by simp [e]
    have HR : Hid ((no == n) = false) := by simp [Hid, e]
    rw [HR.out]
    clear e HR HT
    go_enter Try.func25, Try.ntmps25
    go_wp2_with fail
    go_ret
    exact ⟨rfl, PQ.of HS.out (Below.refl _ _)⟩
end Go.Proofs.Ytmpcgmpobmnmmaa.Sf
