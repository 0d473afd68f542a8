/- The reader: a text. -/
import Derived.Test.YtgidjfhlooggkaaGg
import Derived.Test.YtgidjfhlooggkaaShelf
import Derived.BigQuiet
namespace Go.Proofs.Ytgidjfhlooggkaa.Gh
set_option linter.unusedVariables false
set_option linter.unusedSimpArgs false
open Go.RowKit Kb Ga Gb Gc Gd Ge Gf Gg
theorem isAgg_str (y : World) : (isAgg 9).run Try.prog y = .ok false y := Try.isAgg9 y
set_option maxRecDepth 100000 in
theorem clone_any (s : ByteArray) (w : World) (hs : s.size ≤ 281474976710656) : Calls Try.prog 60 #[.string s] w fun e w' => e = .returned (.string s) ∧ Below w.heap.size w w' := by
  go_enter Try.func60, Try.ntmps60
  go_wp2_with fail
  refine (Try.stringslite_Clone s _ hs).mono ?_
  rintro _ x ⟨rfl, hx⟩
  go_wp2_with fail
  go_ret
  exact ⟨rfl, hx⟩
set_option maxRecDepth 100000 in
theorem text_bad {w : World} {g k : Nat} {s : ByteArray} {e d b : Int} (h : Rd w g s (k : Int) e d b) (n : Int) (hn : ¬ n ≤ e - (k : Int)) (h1 : (k : Int) ≤ 1048576) (h2 : 0 ≤ e) (h3 : e ≤ 1048576) :
    Calls Try.prog 95 #[.pointer (some ⟨g, 0, none⟩), .int .i64 n] w fun x w' => x = .panicked (up 10 e) ∧ w.grownBy w' (some g) := by
  go_enter Try.func95, Try.ntmps95
  go_wp2_with fail
  refine (want_bad h n (by omega) (by omega) h1 h2 h3).mono ?_
  rintro _ x ⟨rfl, hg⟩
  exact ⟨rfl, rfl, hg⟩
set_option maxRecDepth 100000 in
theorem text_ok {w : World} {g k n : Nat} {s : ByteArray} {e d b : Int} (h : Rd w g s (k : Int) e d b) (hn : (n : Int) ≤ e - (k : Int)) (h3 : e ≤ 1048576) (hs : e ≤ (s.size : Int)) (hs2 : s.size ≤ 1048576) :
    Calls Try.prog 95 #[.pointer (some ⟨g, 0, none⟩), .int .i64 (n : Int)] w fun x w' => x = .returned (.string (s.extract k (k + n))) ∧ Lft w g s ((k + n : Nat) : Int) e d b w' := by
  go_enter Try.func95, Try.ntmps95
  go_wp2_with fail
  refine (want_ok h n hn (by omega) (by omega) (by omega) h3).mono ?_
  rintro _ x ⟨rfl, hl⟩
  obtain ⟨⟨c0, c1, c2, c3, c4⟩, fz⟩ := hl.1.at
  have f1 := fz 1
  have hl2 := hl.then (left_set1 hl.1 ((k : Int) + (n : Int)))
  clear fz c2 c3 c4
  go_wp2_with fail
  clear c0 c1 f1
  generalize x.setCell { block := g, off := 1 } (Value.int IntKind.i64 ((k : Int) + (n : Int))) = y at *
  obtain ⟨⟨d0, d1, _, _, _⟩, _⟩ := hl2.1.at
  have k0 : (k : Int) + (n : Int) - (n : Int) = (k : Int) := by omega
  have k1 : (k : Int) + (n : Int) ≤ (s.size : Int) := by omega
  have hgl : g < y.heap.size := (Array.getElem?_eq_some_iff.1 hl2.1).1
  clear hl h
  have cl := fun z => clone_any (s.extract k (k + n)) z (by rw [ByteArray.size_extract]; omega)
  refine Ql.region_cl (by kernel_rfl) (by kernel_rfl) ?_
  repeat (first | go_big_quiet_skip | (go_big_quiet_want; go_big_quiet_op; first | go_big_quiet_on | (refine ⟨_, fun _ _ => rfl, ?_⟩; go_big_quiet_on) | (refine ⟨_, fun _ _ => ⟨rfl, rfl⟩, ?_⟩; go_big_quiet_on)) | (refine wpQuiet_step (fun K hK => ?_); first
    | (refine Ql.q_cell (by rfl) 3 _ rfl g 1 rfl _ d1 hgl (fun y => Try.isAgg3 y) (hK _ ?_); clear hK K; simp only [Act.put, List.setIfInBounds_toArray, List.set_cons_succ, List.set_cons_zero])
    | (refine Ql.q_cell (by rfl) 9 _ rfl g 0 rfl _ d0 hgl (fun y => Try.isAgg9 y) (hK _ ?_); clear hK K; simp only [Act.put, List.setIfInBounds_toArray, List.set_cons_succ, List.set_cons_zero])
    | (go_simp; apply Exists.intro; refine ⟨fun y hy => ?_, hK _ ?_⟩; (first | (go_at_call 60; exact Ql.cl_of hy (cl _))); clear hK K)
    | fail))
  refine wpQuiet_nil ?_
  intro y1 hy1
  go_wp2_with fail
  go_ret
  refine ⟨rfl, ?_⟩
  rw [show ((k + n : Nat) : Int) = (k : Int) + (n : Int) by omega]
  exact hl2.then ⟨hl2.1.next hy1, gr_below hy1 _⟩
end Go.Proofs.Ytgidjfhlooggkaa.Gh
