/- journal's reader: outputs. -/
import Derived.Test.YtabmpngliphdpaaDoorJo
namespace Go.Proofs.YtabmpngliphdpaaDoor.Jp
set_option linter.unusedVariables false
set_option linter.unusedSimpArgs false
open Go.RowKit Lib0 Kb Jl Jm Jn Jo
attribute [local go_sem] Oper.semAt_some
def lp : Nat → Option (List UInt8) → List Value → List Value × Option (List UInt8)
  | 0, q, xs => (xs, q)
  | _ + 1, none, xs => (xs, none)
  | n + 1, some l, xs => lp n (otR (some l)) (xs ++ (otV (some l)).toList)
def osV (o : Option (List UInt8)) : List Value := (lp (ctV o) (ctR o) []).1
def osR (o : Option (List UInt8)) : Option (List UInt8) := (lp (ctV o) (ctR o) []).2
/-- what is read fits a body -/
def Fit (o : Option (List UInt8)) : Prop := ∀ l, o = some l → l.length ≤ 10000000
theorem Fit.sm {o : Option (List UInt8)} (h : Fit o) : Sm o := fun l hl => Nat.le_trans (h l hl) (by decide)
theorem Fit.ot {o : Option (List UInt8)} (h : Fit o) : Fit (otR o) := fun l hl => by
  obtain ⟨l0, h0, h1⟩ := otR_len hl
  have := h l0 h0; omega
theorem Fit.ct {o : Option (List UInt8)} (h : Fit o) : Fit (ctR o) := fun l hl => by
  obtain ⟨l0, h0, h1⟩ := ctR_len hl
  have := h l0 h0; omega
theorem Fit.ev {o : Option (List UInt8)} (h : Fit o) : Fit (evR o) := fun l hl => by
  obtain ⟨l0, h0, h1⟩ := evR_len hl
  have := h l0 h0; omega
theorem lp_none (n : Nat) (xs : List Value) : lp n none xs = (xs, none) := by cases n <;> rfl
theorem gb_own {a b c : World} {g : Nat} {v : Value} (h : a.grownBy b (some g)) (k : b.grownBy c v.ownBlock) (hv : ∀ p, v.ownBlock = some p → a.heap.size ≤ p) : a.grownBy c (some g) :=
  ⟨k.os.trans h.os, k.tape.trans h.tape, k.output.trans h.output, Nat.le_trans h.size k.size, fun i hi hne => (k.block i (Nat.lt_of_lt_of_le hi h.size) (fun e => by have := hv i e.symm; omega)).trans (h.block i hi hne)⟩
theorem rd_own {b c : World} {g : Nat} {v : Value} {o : Option (List UInt8)} (h : Rd b g o) (k : b.grownBy c v.ownBlock) (hv : v.ownBlock ≠ some g) : Rd c g o := by
  obtain ⟨s, bb, h1, h2⟩ := h
  exact ⟨s, bb, (k.block g (Array.getElem?_eq_some_iff.1 h1).1 (fun e => hv e.symm)).trans h1, h2⟩
theorem infoO : (Tryd.prog.info? 85).map (fun i => (i.zero, i.size, i.bytes)) = some (some (.agg #[.int .i64 0, .int .i64 0, .int .i64 0, .int .i64 0, .string ⟨#[]⟩]), 5, 48) := by kernel_rfl
theorem cells5 (x : World) (a b c d e : Value) (t : TypeId) : ∀ j u, [a, b, c, d, e][j]? = some u → (x.alloc (.cells #[a, b, c, d, e] t)).cell? ((⟨x.heap.size, 0, none⟩ : Addr).add j) = some u := fun j u hu => by
  have e0 : ((⟨x.heap.size, 0, none⟩ : Addr).add j) = ⟨x.heap.size, j, none⟩ := by
    unfold Addr.add
    split
    · rename_i h; subst h; rfl
    · simp
  rw [e0]
  have hh := h1_0 x (.cells #[a, b, c, d, e] t)
  unfold World.cell?
  rw [hh]
  simpa using hu
set_option maxRecDepth 100000 in
set_option maxHeartbeats 1600000 in
theorem outputs_any {w : World} {g : Nat} {o : Option (List UInt8)} (h : Rd w g o) (hs : Fit o) :
    Calls Tryd.prog 77 #[.pointer (some ⟨g, 0, none⟩)] w fun e w' => ∃ v N, e = .returned v ∧ w'.ownsRow w.heap.size 85 5 v N (osV o) ∧ Rd w' g (osR o) ∧ w.grownBy w' (some g) := by
  obtain ⟨io, hio, hz0, hz1, hz2⟩ := info_parts infoO
  have hgl : g < w.heap.size := by
    obtain ⟨s, b, hr, _⟩ := h
    exact (Array.getElem?_eq_some_iff.1 hr).1
  obtain ⟨D, HD⟩ : ∃ D, Hid (lp (ctV o) (ctR o) [] = D) := ⟨_, rfl⟩
  have HV : Hid (osV o = D.1 ∧ osR o = D.2) := by rw [← HD.out]; exact ⟨rfl, rfl⟩
  rw [HV.out.1, HV.out.2]
  have HR : Hid (Rd w g o) := h
  have HS : Hid (Fit o) := hs
  have hc63 : ctV o ≤ 9223372036854775807 := by have := (nm_rng o).2; unfold ctV; omega
  have HC : Hid (ctV o ≤ 9223372036854775807) := hc63
  clear HV h hs hc63
  go_enter Tryd.func77, Tryd.ntmps77
  go_wp2_with fail
  refine (count_any HR.out).mono ?_
  rintro e y ⟨rfl, hy, hg⟩
  have HY : Hid (Rd y g (ctR o)) := hy
  have HG : Hid (w.grownBy y (some g)) := hg
  clear hy hg
  go_wp2_with fail
  go_loopw [3, 4] (fun vv nv wr => ∃ (n N : Nat) (q : Option (List UInt8)) (xs : List Value), nv = .int .i64 (n : Int) ∧ Hid (n ≤ 9223372036854775807) ∧ Hid (D = lp n q xs ∧ Fit q ∧ N ≤ 10000001 ∧ ∀ l, q = some l → N + l.length ≤ 10000000) ∧ Hid (Rd wr g q ∧ w.grownBy wr (some g)) ∧ Hid (wr.ownsRow w.heap.size 85 5 vv N xs)) (fun _ nv _ => (intOf nv).toNat)
  case atStart => exact ⟨ctV o, 0, ctR o, [], rfl, HC.out, ⟨HD.out.symm, HS.out.ct, by decide, fun l hl => by have := HS.out.ct l hl; omega⟩, ⟨HY.out, HG.out⟩, by simp, .inl ⟨rfl, rfl⟩⟩
  case round =>
    obtain ⟨n, N, q, xs, rfl, HN, HP, HW, HO⟩ := hrel
    obtain ⟨s, b, hr, hm⟩ := HW.out.1
    have c1 : wr.cell? ⟨g, 1, none⟩ = some (.bool b) := by simp [World.cell?, hr]
    have cg : g < wr.heap.size := (Array.getElem?_eq_some_iff.1 hr).1
    clear hr
    have HEND : (lp n q xs = (xs, q)) → Hid (∃ v N', (.returned u3 : Ending) = .returned v ∧ wr.ownsRow w.heap.size 85 5 v N' D.1 ∧ Rd wr g D.2 ∧ w.grownBy wr (some g)) := fun hl => by
      have hd := HP.out.1
      rw [hl] at hd
      subst hd
      exact ⟨u3, N, rfl, HO.out, HW.out.1, HW.out.2⟩
    cases q with
    | none =>
      obtain rfl : b = true := hm
      have HE := HEND (lp_none n xs)
      clear HEND
      by_cases hn : 0 < n
      · have q1 : (0 : Int) < (n : Int) := by omega
        go_wp2_with fail
        go_ret
        exact HE.out
      · obtain rfl : n = 0 := by omega
        go_wp2_with fail
        go_ret
        exact HE.out
    | some l =>
      obtain ⟨rfl, rfl⟩ : b = false ∧ s.data.toList = l := hm
      by_cases hn : 0 < n
      · obtain ⟨m, rfl⟩ : ∃ m, n = m + 1 := ⟨n - 1, by omega⟩
        have q1 : (0 : Int) < (((m + 1 : Nat)) : Int) := by omega
        have q2 : (((m + 1 : Nat)) : Int) - 1 = (m : Int) := by omega
        obtain ⟨LL, hLL⟩ : ∃ LL, s.data.toList = LL := ⟨_, rfl⟩
        rw [hLL] at HP HW
        obtain ⟨M, hM⟩ : ∃ M, m + 1 = M := ⟨_, rfl⟩
        rw [hM] at HP HN q1 q2 ⊢
        have HMM : Hid (m + 1 = M) := hM
        clear HEND hLL hM hn
        go_wp2_with fail
        refine (output_any HW.out.1 HP.out.2.1.sm).mono ?_
        rintro e y2 ⟨rfl, hy2, hg2⟩
        have hB : ∀ p, u3.ownBlock = some p → w.heap.size ≤ p := fun p hp => (HO.out.lt p hp).1
        have hNG : u3.ownBlock ≠ some g := fun e => by have := hB g e; omega
        have hown : y2.ownsRow w.heap.size 85 5 u3 N xs := Bd.owns_keep HO.out fun p hp => hg2.block p (HO.out.lt p hp).2 (fun e => by have := hB p hp; have := Option.some.inj e; omega)
        have HG2 : Hid (w.grownBy y2 (some g)) := gb_trans HW.out.2 hg2
        have HY2 : Hid (Rd y2 g (otR (some LL))) := hy2
        obtain ⟨n1, n2, n3, n4, tx, hT⟩ : ∃ n1 n2 n3 n4 tx, otV (some LL) = #[.int .i64 n1, .int .i64 n2, .int .i64 n3, .int .i64 n4, .string tx] := ⟨_, _, _, _, _, rfl⟩
        have hnews : ∀ j u, [Value.int .i64 n1, .int .i64 n2, .int .i64 n3, .int .i64 n4, .string tx][j]? = some u → (y2.alloc (.cells #[.int .i64 n1, .int .i64 n2, .int .i64 n3, .int .i64 n4, .string tx] 85)).cell? ((⟨y2.heap.size, 0, none⟩ : Addr).add j) = some u := cells5 _ _ _ _ _ _ _
        have hone : ∀ u ∈ [Value.int .i64 n1, .int .i64 n2, .int .i64 n3, .int .i64 n4, .string tx], u.oneCell' = true := by simp [Value.oneCell']
        have hN1 : N ≤ 10000001 := HP.out.2.2.1
        have hbs : w.heap.size ≤ (y2.alloc (.cells #[.int .i64 n1, .int .i64 n2, .int .i64 n3, .int .i64 n4, .string tx] 85)).heap.size := by have := HG2.out.size; simp; omega
        have HOWN : Hid (y2.ownsRow w.heap.size 85 5 u3 N xs) := hown
        have HTT : Hid (otV (some LL) = #[.int .i64 n1, .int .i64 n2, .int .i64 n3, .int .i64 n4, .string tx]) := hT
        rw [hT]
        clear hT hown hg2 hy2
        go_wp2_with (first
          | (at_builtin; refine wpList_append_own _ rfl _ _ 38 rfl w.heap.size 85 io _ 5 48 Tryd.underlying38 hio hz0 hz1 hz2 rfl (by decide) _ _ _ rfl (HOWN.out.alloc _) ⟨y2.heap.size, 0, none⟩ 1 1 _ rfl rfl hnews hone (by unfold maxLen; omega) (by omega) hbs ?_; intro v' w3 hown' hg3 hnil3)
          | fail)
        have hN0 := HN.out
        have hMM := HMM.out
        rw [w64' m (by omega)]
        refine ⟨⟨m, N + 1, otR (some LL), _, rfl, by show m ≤ _; omega, ⟨?_, HP.out.2.1.ot, ?_, ?_⟩, ⟨rd_own (Jn.Rd.below HY2.out (below_one _ _)) hg3 hNG, gb_own (gb_below HG2.out (below_one _ _)) hg3 hB⟩, hown'⟩, by simp only [intOf]; omega⟩
        · have hd := HP.out.1
          rw [← hMM] at hd
          rw [hd]
          show lp m (otR (some LL)) (xs ++ (otV (some LL)).toList) = _
          rw [HTT.out]
        · have := HP.out.2.2.2 LL rfl; omega
        · intro l hl
          obtain ⟨l0, h0, h1⟩ := otR_len hl
          cases h0
          have := HP.out.2.2.2 LL rfl; omega
      · obtain rfl : n = 0 := by omega
        have HE := HEND rfl
        clear HEND
        go_wp2_with fail
        go_ret
        exact HE.out
end Go.Proofs.YtabmpngliphdpaaDoor.Jp
