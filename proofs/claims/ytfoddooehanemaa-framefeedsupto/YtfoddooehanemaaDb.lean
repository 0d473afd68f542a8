/- Frames: the document's cut. -/
import Derived.Test.YtfoddooehanemaaDa
import Derived.Test.YtfoddooehanemaaFw
namespace Go.Proofs.Ytfoddooehanemaa.Db
set_option linter.unusedVariables false
set_option linter.unusedSimpArgs false
open Go.RowKit Lib0 Kb Fa Fb Fc Fm Fe Ff Fg Fk Fu Fv Da
/-- the document's Stream -/
def Dm (w : World) (g h m : Nat) (S : ByteArray) (t i : Nat) : Prop := w.heap[g]? = some (.cells #[.int .i64 (h : Int), .int .i64 (m : Int), .string S, .int .i64 (t : Int), .int .i64 (i : Int), .bool false] 72)
section
variable {w y : World} {g h m : Nat} {S : ByteArray} {t i : Nat}
theorem Dm.lt (D : Dm w g h m S t i) : g < w.heap.size := (Array.getElem?_eq_some_iff.1 D).1
theorem Dm.ce (D : Dm w g h m S t i) (o : Nat) : w.cell? ⟨g, o, none⟩ = (#[.int .i64 (h : Int), .int .i64 (m : Int), .string S, .int .i64 (t : Int), .int .i64 (i : Int), .bool false] : Array Value)[o]? := by
  unfold World.cell?; rw [show w.heap[g]? = _ from D]; rfl
theorem Dm.fz (D : Dm w g h m S t i) (o : Nat) : w.frozen? ⟨g, o, none⟩ = false := by
  unfold World.frozen?; rw [show w.heap[g]? = _ from D]; simp
theorem Dm.keep (D : Dm w g h m S t i) (k : y.heap[g]? = w.heap[g]?) : Dm y g h m S t i := k.trans D
theorem Dm.below {B : Nat} (D : Dm w g h m S t i) (k : Below B w y) (hB : g < B) : Dm y g h m S t i := D.keep (k.block g hB)
end
theorem tell_takeL (h m : Nat) (l : List UInt8) : tell h m (l.take (wid h)) = tell h m l := by
  unfold tell num
  by_cases h2 : h = 2
  · rw [show wid h = 4 by rw [wid, if_pos h2]]
    simp only [if_pos h2]
    rw [at_take l 4 0 (by decide), at_take l 4 1 (by decide), at_take l 4 2 (by decide), at_take l 4 3 (by decide)]
  · rw [show wid h = 2 by rw [wid, if_neg h2]]
    simp only [if_neg h2]
    rw [at_take _ 2 0 (by decide), at_take _ 2 1 (by decide)]
/-- a whole header is read off the stream -/
theorem run_head (h m i : Nat) (out : List (List UInt8)) (r : List UInt8) (hr : wid h ≤ r.length) : run h m ⟨.hdr [], i, out⟩ r = run h m (if (tell h m r).2 ≠ 0 then ⟨.brk (tell h m r).2, i, out⟩ else if (tell h m r).1 = 0 then ⟨.hdr [], i + 1, out⟩ else ⟨.bod (tell h m r).1 [], i, out⟩) (r.drop (wid h)) := by
  conv => lhs; rw [← List.take_append_drop (wid h) r]
  rw [run_append, run_hdr_full h m i out (r.take (wid h)) [] (by rw [List.length_take]; simp; omega) (wid_pos h), List.nil_append]
  unfold opn
  rw [tell_takeL]
theorem ext_list (s : ByteArray) (a b : Nat) (hb : b ≤ s.size) (hab : a ≤ b) : (s.extract a b).data.toList = (s.data.toList.drop a).take (b - a) := by
  simp only [ByteArray.data_extract, Array.toList_extract, List.extract_eq_take_drop]
/-- what comes of a stream -/
def Fnl (h m : Nat) (S : ByteArray) : M := run h m ⟨.hdr [], 0, []⟩ S.data.toList
def PostC (w : World) (h : Nat) (S : ByteArray) (F : M) (e : Ending) (w' : World) : Prop :=
  ∃ v p, e = .returned (.tuple #[v, .int .i64 (F.idle : Int), .int .i64 ((p : Nat) : Int), .int .i64 (errN F.st : Int)]) ∧ w'.ownsRow w.heap.size 9 1 v F.out.length (strs F.out) ∧ (errN F.st = 0 → p + waitN h F.st = S.size) ∧ p ≤ S.size ∧ Below w.heap.size w w'
theorem own_grow_below {w y y2 : World} {B n : Nat} {v : Value} {xs : List Value} (hb : Below B w y) (o : y.ownsRow B 9 1 v n xs) (gr : y.grownBy y2 v.ownBlock) (hB : B ≤ y.heap.size) : Below B w y2 :=
  ⟨gr.os.trans hb.os, gr.tape.trans hb.tape, gr.output.trans hb.output, Nat.le_trans hb.size gr.size, fun k hk => (gr.block k (by omega) (fun e => by have := (own_lo o k e.symm).1; omega)).trans (hb.block k hk)⟩
theorem res4 {P : Program} {fn : Func} {a b c d : Tmp} (h : fn.results = #[.tmp a, .tmp b, .tmp c, .tmp d]) (tmps : Array Value) (w : World) : (results fn tmps).run P w = .ok (.tuple #[tmps.getD a undef, tmps.getD b undef, tmps.getD c undef, tmps.getD d undef]) w := by
  simp only [results, h]
  simp [Result.andThen]
set_option maxRecDepth 100000 in
set_option maxHeartbeats 6400000 in
theorem cutr_any {w : World} {g h m : Nat} {S : ByteArray} {t i : Nat} (D : Dm w g h m S t i) (h1 : 1 ≤ h) (h4 : h ≤ 4) (hm : m ≤ 9999) (hs : S.size ≤ 8796093022000) :
    Calls Try.prog 39 #[.pointer (some ⟨g, 0, none⟩)] w (PostC w h S (Fnl h m S)) := by
  have HD : Hid (Dm w g h m S t i) := D
  have hgl := D.lt
  have c0 : w.cell? ⟨g, 0, none⟩ = some (.int .i64 (h : Int)) := D.ce 0
  have pw := fun w => widthr_any h h1 h4 w
  have HR : Hid (1 ≤ h ∧ h ≤ 4 ∧ m ≤ 9999 ∧ S.size ≤ 8796093022000) := ⟨h1, h4, hm, hs⟩
  have hw4 := wid_int h
  have hw1 : (1 : Int) ≤ (wid h : Int) := by have := wid_pos h; omega
  obtain ⟨W, HW⟩ : ∃ W, Hid (wid h = W) := ⟨_, rfl⟩
  rw [HW.out] at hw4 hw1 pw
  obtain ⟨is, hi, hi0, hi1, hi2⟩ := info_parts infoStr
  have hsI : (S.size : Int) ≤ 8796093022000 := by omega
  obtain ⟨F, HF⟩ : ∃ F, Hid (Fnl h m S = F) := ⟨_, rfl⟩
  rw [HF.out]
  clear D h1 h4 hs
  go_enter Try.func39, Try.ntmps39
  go_wp2_with fail
  refine (pw _).mono ?_
  rintro e y ⟨rfl, hy⟩
  rw [hy]
  clear hy y pw c0
  go_wp2_with fail
  go_loopw [6, 7, 8] (fun lv dv av wr => ∃ (p n : Nat) (out : List (List UInt8)), av = .int .i64 (p : Int) ∧ dv = .int .i64 (n : Int) ∧ p ≤ S.size ∧ n ≤ p ∧ out.length ≤ p ∧ F = run h m ⟨.hdr [], n, out⟩ (S.data.toList.drop p) ∧ wr.ownsRow w.heap.size 9 1 lv out.length (strs out) ∧ Below w.heap.size w wr) (fun _ _ av _ => S.size - (intOf av).toNat)
  case atStart =>
    exact ⟨0, 0, [], rfl, rfl, Nat.zero_le _, Nat.le_refl _, Nat.le_refl _, HF.out.symm, own_nil _ _, Below.refl _ _⟩
  case round =>
    obtain ⟨p, n, out, rfl, rfl, hp, hnp, hop, hF, own, bel⟩ := hrel
    have Dr := HD.out.below bel hgl
    have d0 : wr.cell? ⟨g, 0, none⟩ = some (.int .i64 (h : Int)) := Dr.ce 0
    have d1 : wr.cell? ⟨g, 1, none⟩ = some (.int .i64 (m : Int)) := Dr.ce 1
    have d2 : wr.cell? ⟨g, 2, none⟩ = some (.string S) := Dr.ce 2
    have hrl : (S.data.toList.drop p).length = S.size - p := by rw [List.length_drop]; rfl
    obtain ⟨r, Hr⟩ : ∃ r, Hid (S.data.toList.drop p = r) := ⟨_, rfl⟩
    rw [Hr.out] at hF hrl
    have HF2 : Hid (F = run h m ⟨.hdr [], n, out⟩ r) := hF
    have HL : Hid (r.length = S.size - p) := hrl
    have HO : Hid (wr.ownsRow w.heap.size 9 1 u6 out.length (strs out)) := own
    have HB : Hid (Below w.heap.size w wr) := bel
    have HP : Hid (p ≤ S.size ∧ n ≤ p ∧ out.length ≤ p) := ⟨hp, hnp, hop⟩
    have hpI : (p : Int) ≤ (S.size : Int) := by omega
    have hnI : (n : Int) ≤ 8796093022000 := by omega
    have hglr : g < wr.heap.size := Nat.lt_of_lt_of_le hgl bel.size
    clear hF hrl own bel Dr hp hnp hop
    by_cases hc : p + W ≤ S.size
    · have q0 : (p : Int) + (W : Int) ≤ (S.size : Int) := by omega
      have LN := fun x => lengthr_any h HR.out.1 HR.out.2.1 (S.extract p S.size) (by rw [HW.out, ByteArray.size_extract]; omega) x
      rw [ext_list S p S.size (Nat.le_refl _) HP.out.1, Hr.out, List.take_of_length_le (by rw [HL.out]; exact Nat.le_refl _)] at LN
      have HRH := run_head h m n out r (by rw [HW.out, HL.out]; omega)
      cases hn : num h r with
      | none =>
        have htn : tell h m r = (0, 140) := by unfold tell; rw [hn]
        rw [htn] at HRH
        have H3 : Hid (F = ⟨.brk 140, n, out⟩) := by
          show _ = _
          rw [HF2.out, HRH, if_pos (by decide), run_brk]
        rw [hn, show lenN none = (0, 140) from rfl] at LN
        clear HRH htn hn
        go_wp2_with fail
        go_region_held3 (fun x => x.cell? ⟨g, 0, none⟩ = some (.int .i64 (h : Int)) ∧ x.cell? ⟨g, 2, none⟩ = some (.string S) ∧ Below wr.heap.size wr x) (refine ⟨?_, ?_, ?_⟩ <;> first | assumption | exact (Below.refl _ _).drew | (go_keep; done))
          (first | (go_at_call 48; refine (LN _).mono ?_; rintro e y ⟨rfl, hy0⟩; have hS := And.right (And.right (by assumption)); have hy := Kb.keepB hS hy0; clear hS hy0; have y0 := (hy.cell (p := ⟨g, 0, none⟩) hglr).trans d0; have y2 := (hy.cell (p := ⟨g, 2, none⟩) hglr).trans d2))
        have y1 := (hy.cell (p := ⟨g, 1, none⟩) hglr).trans d1
        have HY : Hid (Below wr.heap.size wr y) := hy
        have HBY : Hid (Below w.heap.size w y) := Kb.keepB HB.out hy
        have HOY : Hid (y.ownsRow w.heap.size 9 1 u6 out.length (strs out)) := own_below HO.out hy
        clear hy LN d0 d1 d2
        go_wp2_with fail
        refine bodyPost_ret (res4 rfl _ _) rfl ?_
        rw [H3.out]
        exact ⟨u6, p, rfl, HOY.out, fun hx => absurd (show (140 : Nat) = 0 from hx) (by decide), HP.out.1, HBY.out⟩
      | some k =>
        rw [hn, show lenN (some k) = (k, 0) from rfl] at LN
        by_cases hmk : m < k
        · have htn : tell h m r = (0, 141) := by unfold tell; rw [hn]; simp only; rw [if_pos hmk]
          rw [htn] at HRH
          have H3 : Hid (F = ⟨.brk 141, n, out⟩) := by
            show _ = _
            rw [HF2.out, HRH, if_pos (by decide), run_brk]
          have q1 : (m : Int) < (k : Int) := by omega
          clear HRH htn hn
          go_wp2_with fail
          go_region_held3 (fun x => x.cell? ⟨g, 0, none⟩ = some (.int .i64 (h : Int)) ∧ x.cell? ⟨g, 2, none⟩ = some (.string S) ∧ Below wr.heap.size wr x) (refine ⟨?_, ?_, ?_⟩ <;> first | assumption | exact (Below.refl _ _).drew | (go_keep; done))
            (first | (go_at_call 48; refine (LN _).mono ?_; rintro e y ⟨rfl, hy0⟩; have hS := And.right (And.right (by assumption)); have hy := Kb.keepB hS hy0; clear hS hy0; have y0 := (hy.cell (p := ⟨g, 0, none⟩) hglr).trans d0; have y2 := (hy.cell (p := ⟨g, 2, none⟩) hglr).trans d2))
          have y1 := (hy.cell (p := ⟨g, 1, none⟩) hglr).trans d1
          have HY : Hid (Below wr.heap.size wr y) := hy
          have HBY : Hid (Below w.heap.size w y) := Kb.keepB HB.out hy
          have HOY : Hid (y.ownsRow w.heap.size 9 1 u6 out.length (strs out)) := own_below HO.out hy
          clear hy LN d0 d1 d2
          go_wp2_with fail
          refine bodyPost_ret (res4 rfl _ _) rfl ?_
          rw [H3.out]
          exact ⟨u6, p, rfl, HOY.out, fun hx => absurd (show (141 : Nat) = 0 from hx) (by decide), HP.out.1, HBY.out⟩
        · have htn : tell h m r = (k, 0) := by unfold tell; rw [hn]; simp only; rw [if_neg hmk]
          rw [htn, if_neg (by simp)] at HRH
          have q1 : ¬ (m : Int) < (k : Int) := by omega
          have q1b : (k : Int) ≤ 9999 := by omega
          have hdl : (r.drop (wid h)).length = S.size - p - W := by rw [List.length_drop, HL.out, HW.out]
          have hde : r.drop (wid h) = S.data.toList.drop (p + W) := by rw [← Hr.out, HW.out, List.drop_drop]
          by_cases hk0 : k = 0
          · subst hk0
            rw [if_pos rfl, hde] at HRH
            have H3 : Hid (F = run h m ⟨.hdr [], n + 1, out⟩ (S.data.toList.drop (p + W))) := HF2.out.trans HRH
            have q2 : ¬ (S.size : Int) < (p : Int) + (W : Int) := by omega
            clear HRH htn hn hdl hde
            go_wp2_with fail
            go_region_held3 (fun x => x.cell? ⟨g, 0, none⟩ = some (.int .i64 (h : Int)) ∧ x.cell? ⟨g, 2, none⟩ = some (.string S) ∧ Below wr.heap.size wr x) (refine ⟨?_, ?_, ?_⟩ <;> first | assumption | exact (Below.refl _ _).drew | (go_keep; done))
              (first | (go_at_call 48; refine (LN _).mono ?_; rintro e y ⟨rfl, hy0⟩; have hS := And.right (And.right (by assumption)); have hy := Kb.keepB hS hy0; clear hS hy0; have y0 := (hy.cell (p := ⟨g, 0, none⟩) hglr).trans d0; have y2 := (hy.cell (p := ⟨g, 2, none⟩) hglr).trans d2))
            have y1 := (hy.cell (p := ⟨g, 1, none⟩) hglr).trans d1
            have HY : Hid (Below wr.heap.size wr y) := hy
            have HBY : Hid (Below w.heap.size w y) := Kb.keepB HB.out hy
            have HOY : Hid (y.ownsRow w.heap.size 9 1 u6 out.length (strs out)) := own_below HO.out hy
            clear hy LN d0 d1 d2
            go_wp2_with fail
            refine ⟨⟨p + W, n + 1, out, by simp, by simp, hc, by have := HP.out; have := HW.out; have := wid_pos h; omega, by have := HP.out; omega, H3.out, HOY.out, HBY.out⟩, ?_⟩
            simp only [intOf]
            have := HW.out
            have := wid_pos h
            omega
          · rw [if_neg hk0, hde] at HRH
            rw [hde] at hdl
            by_cases hsh : p + W + k ≤ S.size
            · have H3 : Hid (F = run h m ⟨.hdr [], n, out ++ [(S.extract (p + W) (p + W + k)).data.toList]⟩ (S.data.toList.drop (p + W + k))) := by
                show _ = _
                rw [HF2.out, HRH]
                conv => lhs; rw [← List.take_append_drop k (S.data.toList.drop (p + W))]
                rw [run_append, run_bod_full h m k n out _ [] (by rw [List.length_take, hdl]; simp; omega) (by simp; omega), List.nil_append, List.drop_drop, ext_list S (p + W) (p + W + k) hsh (by omega), Nat.add_sub_cancel_left]
              have q2 : ¬ (S.size : Int) < (p : Int) + (W : Int) + (k : Int) := by omega
              have q3 : (p : Int) + (W : Int) ≤ (p : Int) + (W : Int) + (k : Int) := by omega
              have q4 : (p : Int) + (W : Int) + (k : Int) ≤ (S.size : Int) := by omega
              have q5 : (0 : Int) ≤ (p : Int) + (W : Int) := by omega
              have q6 : ((k : Int) == 0) = false := by simp; omega
              have HWL : Hid (out.length + 1 ≤ 8796093022001) := by have := HP.out; have := HR.out; show _ ≤ _; omega
              clear HRH htn hn hdl hde
              go_wp2_with fail
              go_region_held3 (fun x => x.cell? ⟨g, 0, none⟩ = some (.int .i64 (h : Int)) ∧ x.cell? ⟨g, 2, none⟩ = some (.string S) ∧ Below wr.heap.size wr x) (refine ⟨?_, ?_, ?_⟩ <;> first | assumption | exact (Below.refl _ _).drew | (go_keep; done))
                (first | (go_at_call 48; refine (LN _).mono ?_; rintro e y ⟨rfl, hy0⟩; have hS := And.right (And.right (by assumption)); have hy := Kb.keepB hS hy0; clear hS hy0; have y0 := (hy.cell (p := ⟨g, 0, none⟩) hglr).trans d0; have y2 := (hy.cell (p := ⟨g, 2, none⟩) hglr).trans d2))
              have y1 := (hy.cell (p := ⟨g, 1, none⟩) hglr).trans d1
              have HY : Hid (Below wr.heap.size wr y) := hy
              have HBY : Hid (Below w.heap.size w y) := Kb.keepB HB.out hy
              have HOY : Hid (y.ownsRow w.heap.size 9 1 u6 out.length (strs out)) := own_below HO.out hy
              clear hy LN d0 d1 d2
              have HSZ : Hid (w.heap.size ≤ y.heap.size) := HBY.out.size
              go_wp2_with (at_builtin; refine wpList_append_lies _ rfl _ _ _ rfl w.heap.size 9 is _ 1 16 Try.underlying39 hi hi0 hi1 hi2 rfl (by omega) u6 out.length (strs out) rfl (own_below HOY.out (Kb.below_one y _)) ⟨y.heap.size, 0, none⟩ 1 1 [str (S.extract (p + W) (p + W + k)).data.toList] rfl rfl (new_cell1 y (str (S.extract (p + W) (p + W + k)).data.toList) 9) (by intro x hx; rw [List.mem_singleton.1 hx]; rfl) (by omega) (by have := HWL.out; unfold maxLen; omega) (by have := HWL.out; omega) (by have := HSZ.out; simp; omega) _ rfl ?_; intro g3 cap3 y3 own3 gr3 at3 lt3)
              refine ⟨⟨p + W + k, n, out ++ [(S.extract (p + W) (p + W + k)).data.toList], by simp, rfl, hsh, by have := HP.out; omega, by rw [List.length_append]; have := HP.out; simp; omega, H3.out, by rw [strs_snoc, List.length_append]; exact own3, own_grow_below (HBY.out.alloc HSZ.out _) (own_below HOY.out (Kb.below_one y _)) gr3 (by have := HSZ.out; simp; omega)⟩, ?_⟩
              simp only [intOf]
              omega
            · have H3 : Hid (F = ⟨.bod k (S.data.toList.drop (p + W)), n, out⟩) := by
                show _ = _
                rw [HF2.out, HRH, run_bod h m k n out _ [] (by rw [hdl]; simp; omega), List.nil_append]
              have q2 : (S.size : Int) < (p : Int) + (W : Int) + (k : Int) := by omega
              have HDL : Hid ((S.data.toList.drop (p + W)).length = S.size - p - W) := hdl
              clear HRH htn hn hdl hde
              go_wp2_with fail
              go_region_held3 (fun x => x.cell? ⟨g, 0, none⟩ = some (.int .i64 (h : Int)) ∧ x.cell? ⟨g, 2, none⟩ = some (.string S) ∧ Below wr.heap.size wr x) (refine ⟨?_, ?_, ?_⟩ <;> first | assumption | exact (Below.refl _ _).drew | (go_keep; done))
                (first | (go_at_call 48; refine (LN _).mono ?_; rintro e y ⟨rfl, hy0⟩; have hS := And.right (And.right (by assumption)); have hy := Kb.keepB hS hy0; clear hS hy0; have y0 := (hy.cell (p := ⟨g, 0, none⟩) hglr).trans d0; have y2 := (hy.cell (p := ⟨g, 2, none⟩) hglr).trans d2))
              have y1 := (hy.cell (p := ⟨g, 1, none⟩) hglr).trans d1
              have HY : Hid (Below wr.heap.size wr y) := hy
              have HBY : Hid (Below w.heap.size w y) := Kb.keepB HB.out hy
              have HOY : Hid (y.ownsRow w.heap.size 9 1 u6 out.length (strs out)) := own_below HO.out hy
              clear hy LN d0 d1 d2
              go_wp2_with fail
              refine bodyPost_ret (res4 rfl _ _) rfl ?_
              rw [H3.out]
              refine ⟨u6, p, rfl, HOY.out, fun _ => ?_, HP.out.1, HBY.out⟩
              show p + (wid h + (S.data.toList.drop (p + W)).length) = S.size
              rw [HDL.out, HW.out]
              omega
    · have q0 : ¬ (p : Int) + (W : Int) ≤ (S.size : Int) := by omega
      have H3 : Hid (F = ⟨.hdr r, n, out⟩) := by
        show _ = _
        rw [HF2.out, run_hdr h m n out r [] (by rw [HW.out, HL.out]; simp; omega), List.nil_append]
      go_wp2_with fail
      refine bodyPost_ret (res4 rfl _ _) rfl ?_
      rw [H3.out]
      refine ⟨u6, p, rfl, HO.out, fun _ => ?_, HP.out.1, HB.out⟩
      show p + r.length = S.size
      rw [HL.out]
      have := HP.out
      omega
end Go.Proofs.Ytfoddooehanemaa.Db
