/- Tracks: the program's ReadTrack. -/
import Derived.Test.YtbekjlinnbmpgaaKu
namespace Go.Proofs.Ytbekjlinnbmpgaa.Kx
set_option linter.unusedVariables false
open Go.RowKit Lib0 Kp Kb Kd Kt Ks Kw Ku
abbrev em : ByteArray := ⟨#[]⟩
def trkV (a b c d : ByteArray) : Array Value := #[.string a, .string b, .string c, .string d]
/-- what ReadTrack answers -/
def rtP (s : ByteArray) : Eds → Array Value × Int × Int
  | .ok (p, x, v) => (trkV (s.extract 0 p) (um (s.extract (p + 1) x)) (um (s.extract x v)) (s.extract v s.size), 0, 0)
  | .error k => (trkV em em em em, 52, k)
def rt (s : ByteArray) : Array Value × Int × Int := if 37 < s.size then (trkV em em em em, 52, 37) else rtP s (tr s)
def rtV (s : ByteArray) : Value := .tuple #[.agg (rt s).1, .int .i64 (rt s).2.1, .int .i64 (rt s).2.2]
theorem trk_size (a b c d : Value) : (Try.prog.info? 35).map (·.size) = some (#[a, b, c, d] : Array Value).size := by kernel_rfl
theorem ext_le {s : ByteArray} {a b : Nat} (hs : s.size ≤ 37) : (s.extract a b).size ≤ 4194304 := by rw [ByteArray.size_extract]; omega
theorem svc_ok {s : ByteArray} {p x p' x' v' : Nat} (h : svcS s p x = .ok (p', x', v')) : p' = p ∧ x' = x ∧ x ≤ v' ∧ v' ≤ s.size := by
  have key : ∀ v k, endK s p x v k = .ok (p', x', v') → p' = p ∧ x' = x ∧ v' = v := by
    intro v k h
    unfold endK at h
    split at h
    · simp only [Except.ok.injEq, Prod.mk.injEq] at h; omega
    · cases h
  unfold svcS at h
  split at h
  · rename_i h1; have := tk_lt h1; have := key _ _ h; omega
  · split at h
    · cases h
    · split at h
      · cases h
      · split at h
        · cases h
        · rename_i h1 h2 h3 h4
          simp only [Bool.not_eq_false] at h4
          have := tk_lt h4; have := key _ _ h; omega
theorem tr_ok {s : ByteArray} {p x v : Nat} (h : tr s = .ok (p, x, v)) : p = pan s ∧ p + 1 ≤ x ∧ x ≤ v ∧ v ≤ s.size := by
  have n9 : ∀ {q k : Nat}, nineS s q k = .ok (p, x, v) → p = q ∧ k + 1 = x ∧ x ≤ v ∧ v ≤ s.size := by
    intro q k h
    unfold nineS at h
    split at h
    · have := svc_ok h; omega
    · cases h
  have n3 : ∀ {q k : Nat}, threeS s q k = .ok (p, x, v) → p = q ∧ k + 1 = x ∧ x ≤ v ∧ v ≤ s.size := by
    intro q k h
    unfold threeS at h
    split at h
    · have := svc_ok h; omega
    · cases h
  unfold tr at h
  split at h
  · cases h
  · split at h
    · unfold expS at h
      split at h
      · have := svc_ok h; omega
      · split at h
        · cases h
        · split at h
          · cases h
          · split at h
            · have := n9 h; omega
            · split at h
              · have := n3 h; omega
              · cases h
    · cases h
theorem held4 {x : World} {b : Nat} {u v z t : Value} {ty : TypeId} (hx : x.heap[b]? = some (Obj.cells #[u, v, z, t] ty)) :
    (x.cell? ⟨b, 0, none⟩ = some u ∧ x.cell? ⟨b, 1, none⟩ = some v ∧ x.cell? ⟨b, 2, none⟩ = some z ∧ x.cell? ⟨b, 3, none⟩ = some t) ∧ (x.frozen? ⟨b, 0, none⟩ = false ∧ x.frozen? ⟨b, 1, none⟩ = false ∧ x.frozen? ⟨b, 2, none⟩ = false ∧ x.frozen? ⟨b, 3, none⟩ = false) := by
  refine ⟨⟨?_, ?_, ?_, ?_⟩, ⟨?_, ?_, ?_, ?_⟩⟩ <;> simp [World.cell?, World.frozen?, hx]
theorem kept1 {x : World} {g : Nat} {o : Obj} (h : x.heap[g]? = some o) (a : Obj) : (x.alloc a).heap[g]? = some o := (Below.heap_alloc _ a _ (Array.getElem?_eq_some_iff.1 h).1).trans h
theorem set4 {x : World} {g : Nat} {u v z t : Value} {ty : TypeId} (h : x.heap[g]? = some (Obj.cells #[u, v, z, t] ty)) (a b c d : Value) :
    ((((x.setCell ⟨g, 0, none⟩ a).setCell ⟨g, 1, none⟩ b).setCell ⟨g, 2, none⟩ c).setCell ⟨g, 3, none⟩ d).heap[g]? = some (Obj.cells #[a, b, c, d] ty) :=
  setCell_heap (setCell_heap (setCell_heap (setCell_heap h 0 a) 1 b) 2 c) 3 d
theorem below4 {B : Nat} {w0 x : World} (h : Below B w0 x) {g : Nat} (hg : B ≤ g) (a b c d : Value) :
    Below B w0 ((((x.setCell ⟨g, 0, none⟩ a).setCell ⟨g, 1, none⟩ b).setCell ⟨g, 2, none⟩ c).setCell ⟨g, 3, none⟩ d) :=
  below_setCell (below_setCell (below_setCell (below_setCell h hg 0 a) hg 1 b) hg 2 c) hg 3 d
set_option maxRecDepth 100000 in
set_option maxHeartbeats 3200000 in
theorem read_long (s : ByteArray) (w : World) (hs : (37 : Int) < s.size) :
    Calls Try.prog 13 #[.string s] w fun e w' => e = .returned (rtV s) ∧ Below w.heap.size w w' := by
  have HV : Hid (rtV s = .tuple #[.agg (trkV em em em em), .int .i64 52, .int .i64 37]) := by show _ = _; rw [rtV, rt, if_pos (by omega)]
  rw [HV.out]
  have m0 := h1_0 w (Obj.cells #[.string em, .string em, .string em, .string em] 35)
  go_enter Try.func13, Try.ntmps13
  go_wp2
  exact bodyPost_ret (v := .tuple #[.agg (trkV em em em em), .int .i64 52, .int .i64 37]) (res_row_tmp2 (fn := Try.f13) (p := 2) (u := 3) (u2 := 4) rfl _ _ w.heap.size 35 _ _ _ rfl m0 Try.underlying35 rfl (trk_size _ _ _ _)) rfl ⟨rfl, below_one w _⟩
set_option maxRecDepth 100000 in
set_option maxHeartbeats 3200000 in
theorem read_bad (s : ByteArray) (k : Nat) (w : World) (hs : s.size ≤ 37) (HT : Hid (tr s = .error k)) :
    Calls Try.prog 13 #[.string s] w fun e w' => e = .returned (rtV s) ∧ Below w.heap.size w w' := by
  have HV : Hid (rtV s = .tuple #[.agg (trkV em em em em), .int .i64 52, .int .i64 (k : Int)]) := by show _ = _; rw [rtV, rt, if_neg (by omega), HT.out]; rfl
  rw [HV.out]
  have p := fun y => walk_any s y hs
  rw [HT.out, wkR] at p
  have q1 : ¬ (37 : Int) < s.size := by omega
  have m0 := h1_0 w (Obj.cells #[.string em, .string em, .string em, .string em] 35)
  have b0 := below_one w (Obj.cells #[.string em, .string em, .string em, .string em] 35)
  obtain ⟨r, Hr⟩ : ∃ r, Hid (w.heap.size = r) := ⟨_, rfl⟩
  rw [Hr.out] at m0 b0 ⊢
  go_enter Try.func13, Try.ntmps13
  go_wp2_with fail
  rw [Hr.out]
  refine (p _).mono ?_
  rintro ee y ⟨rfl, hy⟩
  have hw : w.heap.size = r := Hr.out
  have m1 := kept1 (kept hy m0) (Obj.cells #[.int .i64 0, .int .i64 0, .int .i64 0] 52)
  have b1 : Below r w (y.alloc (Obj.cells #[.int .i64 0, .int .i64 0, .int .i64 0] 52)) := by
    rw [← Hr.out] at b0 ⊢
    exact keepB (keepB b0 hy) (below_one y _)
  clear hw hy m0 b0
  obtain ⟨⟨c0, c1, c2, c3⟩, ⟨f0, f1, f2, f3⟩⟩ := held4 m1
  go_wp2
  have m2 := set4 m1 (.string em) (.string em) (.string em) (.string em)
  have b2 := below4 b1 (Nat.le_refl r) (.string em) (.string em) (.string em) (.string em)
  exact bodyPost_ret (v := .tuple #[.agg (trkV em em em em), .int .i64 52, .int .i64 (k : Int)]) (res_row_tmp2 (fn := Try.f13) (p := 2) (u := 3) (u2 := 4) rfl _ _ r 35 _ _ _ rfl m2 Try.underlying35 rfl (trk_size _ _ _ _)) rfl ⟨rfl, b2⟩
set_option maxRecDepth 100000 in
set_option maxHeartbeats 3200000 in
theorem read_good (s : ByteArray) (p x v : Nat) (w : World) (hs : s.size ≤ 37) (HT : Hid (tr s = .ok (p, x, v))) :
    Calls Try.prog 13 #[.string s] w fun e w' => e = .returned (rtV s) ∧ Below w.heap.size w w' := by
  have HV : Hid (rtV s = .tuple #[.agg (trkV (s.extract 0 p) (um (s.extract (p + 1) x)) (um (s.extract x v)) (s.extract v s.size)), .int .i64 0, .int .i64 0]) := by show _ = _; rw [rtV, rt, if_neg (by omega), HT.out]; rfl
  rw [HV.out]
  have hk := tr_ok HT.out
  obtain ⟨P1, HP1, hp1⟩ : ∃ P1 : Nat, Hid (p + 1 = P1) ∧ (p : Int) + 1 = P1 := ⟨p + 1, rfl, by omega⟩
  have a1 : (p : Int) ≤ s.size := by omega
  have a2 : (P1 : Int) ≤ x := by have := HP1.out; omega
  have a3 : (x : Int) ≤ v := by omega
  have a4 : (v : Int) ≤ s.size := by omega
  have a5 : (x : Int) ≤ s.size := by omega
  have a6 : IntKind.i64.wrap (P1 : Int) = (P1 : Int) := wrap_i64 _ (by omega) (by omega)
  clear hk
  have pw := fun y => walk_any s y hs
  rw [HT.out, wkR] at pw
  have pc := fun (X : ByteArray) (y : World) (h : X.size ≤ 4194304) => clone_any X y h
  have pu := fun (X : ByteArray) (y : World) (h : X.size ≤ 4194304) => unless_any X y h
  have q1 : ¬ (37 : Int) < s.size := by omega
  have m0 := h1_0 w (Obj.cells #[.string em, .string em, .string em, .string em] 35)
  have b0 := below_one w (Obj.cells #[.string em, .string em, .string em, .string em] 35)
  obtain ⟨r, Hr⟩ : ∃ r, Hid (w.heap.size = r) := ⟨_, rfl⟩
  rw [HP1.out]
  rw [Hr.out] at m0 b0 ⊢
  go_enter Try.func13, Try.ntmps13
  go_wp2_with fail
  rw [Hr.out]
  refine (pw _).mono ?_
  rintro ee y ⟨rfl, hy⟩
  have m1 := kept1 (kept hy m0) (Obj.cells #[.int .i64 (p : Int), .int .i64 (x : Int), .int .i64 (v : Int)] 52)
  have n1 := h1_0 y (Obj.cells #[.int .i64 (p : Int), .int .i64 (x : Int), .int .i64 (v : Int)] 52)
  have b1 : Below r w (y.alloc (Obj.cells #[.int .i64 (p : Int), .int .i64 (x : Int), .int .i64 (v : Int)] 52)) := by
    rw [← Hr.out] at b0 ⊢
    exact keepB (keepB b0 hy) (below_one y _)
  clear hy m0 b0
  go_wp2_with fail
  generalize y.alloc (Obj.cells #[.int .i64 (p : Int), .int .i64 (x : Int), .int .i64 (v : Int)] 52) = W at *
  generalize y.heap.size = E at *
  clear y
  obtain ⟨c0, c1, c2, f0, f1, f2⟩ := held3 n1
  have hE : E < W.heap.size := (Array.getElem?_eq_some_iff.1 n1).1
  refine Qt.region_tail 26 2 (C := Ql.Cl W) (by kernel_rfl) rfl (by kernel_rfl) (by kernel_rfl) (by kernel_rfl) ((Below.refl _ _).drew) ?_
  repeat (refine wpQuiet_step (fun K hK => ?_); first
    | (go_simp; refine hK _ ?_; clear hK K)
    | (go_simp; refine ⟨_, fun _ _ => rfl, hK _ ?_⟩; clear hK K)
    | (go_simp; refine ⟨_, fun _ _ => ⟨rfl, rfl⟩, hK _ ?_⟩; clear hK K)
    | (refine Ql.q_cell (by rfl) 3 _ rfl E 0 rfl _ c0 hE (fun y => isAgg_int y) (hK _ ?_); clear hK K)
    | (refine Ql.q_cell (by rfl) 3 _ rfl E 1 rfl _ c1 hE (fun y => isAgg_int y) (hK _ ?_); clear hK K)
    | (refine Ql.q_cell (by rfl) 3 _ rfl E 2 rfl _ c2 hE (fun y => isAgg_int y) (hK _ ?_); clear hK K)
    | (go_simp; apply Exists.intro; refine ⟨fun y hy => ?_, hK _ ?_⟩; (first | (go_at_call 22; exact Ql.cl_of hy (pc _ y (ext_le hs))) | (go_at_call 27; exact Ql.cl_of hy (pu _ y (ext_le hs)))); clear hK K))
  refine wpQuiet_nil ?_
  intro y hy
  have m2 := kept hy m1
  have b2 : Below r w y := b1.trans (hy.mono (by have := (Array.getElem?_eq_some_iff.1 m1).1; omega))
  clear hy c0 c1 c2 f0 f1 f2 m1 b1
  obtain ⟨⟨c0, c1, c2, c3⟩, ⟨f0, f1, f2, f3⟩⟩ := held4 m2
  go_wp2
  have m3 := set4 m2 (.string (s.extract 0 p)) (.string (um (s.extract P1 x))) (.string (um (s.extract x v))) (.string (s.extract v s.size))
  have b3 := below4 b2 (Nat.le_refl r) (.string (s.extract 0 p)) (.string (um (s.extract P1 x))) (.string (um (s.extract x v))) (.string (s.extract v s.size))
  exact bodyPost_ret (v := .tuple #[.agg (trkV (s.extract 0 p) (um (s.extract P1 x)) (um (s.extract x v)) (s.extract v s.size)), .int .i64 0, .int .i64 0]) (res_row_tmp2 (fn := Try.f13) (p := 2) (u := 3) (u2 := 4) rfl _ _ r 35 _ _ _ rfl m3 Try.underlying35 rfl (trk_size _ _ _ _)) rfl ⟨rfl, b3⟩
theorem read_any (s : ByteArray) (w : World) :
    Calls Try.prog 13 #[.string s] w fun e w' => e = .returned (rtV s) ∧ Below w.heap.size w w' := by
  by_cases h : 37 < s.size
  · exact read_long s w (by omega)
  · match hT : tr s with
    | .ok (p, x, v) => exact read_good s p x v w (by omega) hT
    | .error k => exact read_bad s k w (by omega) hT
end Go.Proofs.Ytbekjlinnbmpgaa.Kx
