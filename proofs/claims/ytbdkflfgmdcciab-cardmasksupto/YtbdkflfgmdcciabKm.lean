/- Cards: Mask: the program's and the document's. -/
import Derived.Test.YtbdkflfgmdcciabKi
import Derived.Deep.OwnRows
namespace Go.Proofs.Ytbdkflfgmdcciab.Km
open Go.RowKit Lib0 Kp Kb Kd Ki
set_option linter.unusedVariables false
theorem repeat_one : ∀ n : Nat, Lib.repeatL [42] n = List.replicate n (42 : UInt8) := by
  intro n
  induction n with
  | zero => rfl
  | succ n ih => simp only [Lib.repeatL, List.cons_append, List.nil_append, ih, List.replicate_succ]
theorem rep_any (n : Nat) (w : World) (h : n ≤ 4194304) :
    Calls Try.prog 22 #[.string ⟨#[42]⟩, .int .i64 (n : Int)] w fun e w' => e = .returned (.string ⟨(List.replicate n (42 : UInt8)).toArray⟩) ∧ Below w.heap.size w w' := by
  have := Try.strings_Repeat ⟨#[42]⟩ n w (by omega) (by show 1 * n ≤ _; omega)
  rw [show (⟨#[42]⟩ : ByteArray).data.toList = [42] from rfl, repeat_one] at this
  exact this
theorem ba_ext {a b : ByteArray} (h : a.data.toList = b.data.toList) : a = b := by
  cases a; cases b; simp only [ByteArray.mk.injEq]; exact Array.toList_inj.1 h
set_option maxRecDepth 100000 in
theorem mask_any (s : ByteArray) (w : World) (hs : s.size ≤ 4194304) :
    Calls Try.prog 14 #[.string s] w fun e w' => e = .returned (.string ⟨(maskL s.data.toList).toArray⟩) ∧ Below w.heap.size w w' := by
  by_cases h1 : (s.size : Int) - 6 - 4 ≤ 0
  · have p := fun y => rep_any s.size y hs
    have e1 : maskL s.data.toList = List.replicate s.size 42 := by unfold maskL; rw [sz, if_pos (by omega)]
    rw [e1]
    clear e1
    generalize (⟨(List.replicate s.size (42 : UInt8)).toArray⟩ : ByteArray) = D at *
    go_enter Try.func14, Try.ntmps14
    go_wp2_with fail
    refine (p _).mono ?_
    rintro e x ⟨rfl, hx⟩
    go_wp2
    go_ret
    exact ⟨rfl, hx⟩
  · obtain ⟨n, Hn, hn⟩ : ∃ n : Nat, Hid (s.size = n + 10) ∧ n ≤ 4194304 := ⟨s.size - 10, by show _ = _; omega, by omega⟩
    have p := fun y => rep_any n y hn
    have en : (s.size : Int) - 6 - 4 = (n : Int) := by have := Hn.out; omega
    have e6 : (6 : Int) ≤ s.size := by omega
    obtain ⟨q, Hq, e7, e8⟩ : ∃ q : Nat, Hid (6 + n = q) ∧ (q : Int) ≤ s.size ∧ (6 : Int) + n = q := ⟨6 + n, rfl, by have := Hn.out; omega, by omega⟩
    have e1 : (⟨(maskL s.data.toList).toArray⟩ : ByteArray) = s.extract 0 6 ++ ⟨(List.replicate n (42 : UInt8)).toArray⟩ ++ s.extract (6 + n) s.size := by
      apply ba_ext
      have := Hn.out
      unfold maskL; rw [sz, if_neg (by omega)]
      rw [ByteArray.data_append, ByteArray.data_append, Array.toList_append, Array.toList_append, ByteArray.data_extract, ByteArray.data_extract, Array.toList_extract, Array.toList_extract]
      rw [show s.size - 10 = n by omega, show s.size - 4 = 6 + n by omega]
      rw [List.extract_eq_take_drop, List.extract_eq_take_drop]
      simp only [Nat.sub_zero, List.drop_zero]
      rw [List.take_of_length_le (i := s.size - (6 + n))]
      rw [List.length_drop, sz]; omega
    have ew : IntKind.i64.wrap (q : Int) = (q : Int) := wrap_i64 _ (by omega) (by omega)
    rw [e1, Hq.out]
    have hD : (⟨(List.replicate n (42 : UInt8)).toArray⟩ : ByteArray).size ≤ 4194304 := by simp [ByteArray.size]; omega
    clear e1
    generalize (⟨(List.replicate n (42 : UInt8)).toArray⟩ : ByteArray) = D at *
    go_enter Try.func14, Try.ntmps14
    go_wp2_with fail
    refine Ql.region_cl (by kernel_rfl) (by kernel_rfl) ?_
    repeat (refine wpQuiet_step (fun K hK => ?_); first
      | (go_simp; apply Exists.intro; refine ⟨fun y hy => ?_, hK _ ?_⟩; (go_at_call 22; exact Ql.cl_of hy (p y)); clear hK K)
      | (go_simp; refine hK _ ?_; clear hK K)
      | (go_simp; refine ⟨_, fun _ _ => rfl, hK _ ?_⟩; clear hK K)
      | (go_simp; refine ⟨_, fun _ _ => ⟨rfl, rfl⟩, hK _ ?_⟩; clear hK K)
      | (go_simp; apply Exists.intro; refine ⟨fun y hy => ?_, hK _ ?_⟩; (rw [if_neg (by omega)]; exact And.intro rfl rfl); clear hK K))
    refine wpQuiet_nil ?_
    intro x6 h6
    go_wp2
    go_ret
    exact ⟨rfl, h6⟩
theorem made_zero (n : Nat) : madeCells #[.int .u8 0] n = byC n fun _ => 0 := by
  apply Array.ext_getElem?
  intro i
  by_cases hi : i < n
  · rw [byC_get n _ i hi]; simp [madeCells, hi, Nat.mod_one]
  · rw [Array.getElem?_eq_none (by simp [madeCells]; omega), Array.getElem?_eq_none (by rw [byC_size]; omega)]
theorem conv_by {P : Program} {w : World} {src dst e : TypeId} {g n : Nat} {v : Nat → Nat} {t : TypeId} {fr : Nat × Nat} (hv : ∀ i, i < n → v i < 256) (hs : P.underlying src = some (.slice e)) (he : P.underlying e = some (.int .u8)) (hd : P.underlying dst = some .string)
    (hg : w.heap[g]? = some (.cells (byC n v) t fr)) : (convert src dst (.slice (some ⟨g, 0, none⟩) n n)).run P w = .ok (.string ⟨((List.range n).map (fun i => UInt8.ofNat (v i))).toArray⟩) w := by
  have hl : ((List.range n).map (fun i => UInt8.ofNat (v i))).length = n := by simp
  have h := run_convert_bytes_back (P := P) w src dst e ⟨g, 0, none⟩ n ((List.range n).map (fun i => UInt8.ofNat (v i))) hs he hd (fun j hj => by
    rw [hl] at hj
    rw [show (⟨g, 0, none⟩ : Addr).add j = ⟨g, j, none⟩ by unfold Addr.add; split <;> simp_all, cell_of_row w g j _ t fr hg, byC_get _ _ _ hj]
    have := hv j hj
    simp; omega)
  rw [hl] at h
  exact h
def up (v : Nat → Nat) (j : Nat) : Nat → Nat := fun i => if i < j then v i else 0
theorem up_zero (n : Nat) (v : Nat → Nat) : byC n (fun _ => 0) = byC n (up v 0) := byC_ext fun i hi => by simp [up]
theorem up_step (n : Nat) (v : Nat → Nat) (j x : Nat) (h : j < n) : ((byC n (up v j)).setIfInBounds j (.int .u8 ((x : Nat) : Int))).setIfInBounds j (.int .u8 ((v j : Nat) : Int)) = byC n (up v (j + 1)) := by
  rw [byC_set n _ j _ h, byC_set n _ j _ h]
  apply byC_ext
  intro i hi
  unfold updN up
  by_cases e : i = j
  · subst e; simp
  · simp only [e, if_false]
    by_cases h2 : i < j
    · rw [if_pos h2, if_pos (by omega)]
    · rw [if_neg h2, if_neg (by omega)]
theorem up_step1 (n : Nat) (v : Nat → Nat) (j : Nat) (h : j < n) : (byC n (up v j)).setIfInBounds j (.int .u8 ((v j : Nat) : Int)) = byC n (up v (j + 1)) := by
  rw [← up_step n v j (v j) h, Array.setIfInBounds_setIfInBounds]
theorem info : (Try.prog.info? 5).map (fun i => (i.zero, i.size, i.bytes)) = some (some (.int .u8 0), 1, 1) := by kernel_rfl
/-- the mask's byte -/
def mv (s : ByteArray) (i : Nat) : Nat := ((maskL s.data.toList).getD i 0).toNat
theorem mv_at (s : ByteArray) (i : Nat) (h : i < s.size) : mv s i = if 10 < s.size ∧ (i < 6 ∨ s.size - 4 ≤ i) then s[i].toNat else 42 := by
  unfold mv
  rw [List.getD_eq_getElem?_getD, maskL_get _ _ (by rw [sz]; exact h), Option.getD_some]
  show (if 10 < s.size ∧ (i < 6 ∨ s.size - 4 ≤ i) then s.data.toList[i]'h else 42).toNat = _
  split <;> rfl
theorem mv_list (s : ByteArray) : (List.range s.size).map (fun i => UInt8.ofNat (mv s i)) = maskL s.data.toList := by
  have hl := maskL_length s.data.toList
  rw [sz] at hl
  apply List.ext_getElem?
  intro i
  by_cases hi : i < s.size
  · rw [List.getElem?_map, List.getElem?_range hi, List.getElem?_eq_getElem (by rw [hl]; exact hi)]
    simp only [Option.map_some, mv, List.getD_eq_getElem?_getD, List.getElem?_eq_getElem (show i < (maskL s.data.toList).length by rw [hl]; exact hi), Option.getD_some]
    simp
  · rw [List.getElem?_eq_none (by simp; omega), List.getElem?_eq_none (by rw [hl]; omega)]
end Go.Proofs.Ytbdkflfgmdcciab.Km
