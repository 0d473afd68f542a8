/- journal.Append, of any entry. -/
import Derived.Test.YtabmpngliphdpaaDoorKd
import Derived.Test.YtabmpngliphdpaaDoorKe
namespace Go.Proofs.YtabmpngliphdpaaDoor.Kf
set_option linter.unusedVariables false
set_option linter.unusedSimpArgs false
open Go.RowKit Go.Conc Lib0 Kb Ja Bj Ka Kd Ke
attribute [local go_sem] Oper.semAt_some
/-- an entry, plain -/
structure En where
  k : Int
  l : Int
  n : Int
  t : ByteArray
  L : List Ou
def En.ok (x : En) : Prop := (i64in x.k ∧ i64in x.l ∧ i64in x.n ∧ x.t.size ≤ 4611686018427387904) ∧ (∀ y ∈ x.L, y.ok) ∧ x.L.length ≤ 4611686018427387904
def En.body (x : En) : ByteArray := ⟨(bodyE x.k x.l x.n x.t x.L).toArray⟩
def En.val (x : En) (v : Value) : Value := .agg #[.int .i64 x.k, .int .i64 x.l, .int .i64 x.n, .string x.t, v]
theorem En.body_size (x : En) : x.body.size = (bodyE x.k x.l x.n x.t x.L).length := by show (List.toArray _).size = _; simp
theorem En.body_list (x : En) : x.body.data.toList = bodyE x.k x.l x.n x.t x.L := by show (List.toArray _).toList = _; simp
theorem recB_size (n : Nat) (b : ByteArray) : (recB n b).size = 12 + b.size := by
  rw [Jn.size_list, recB_list]
  simp only [List.length_append, Jd.w4_len, ← Jn.size_list]
  omega
theorem outsL_len : ∀ (L : List Ou) (acc : List UInt8), acc.length ≤ 20000200 → (outsL L acc).length ≤ 20000200
  | [], acc, h => h
  | x :: t, acc, h => by
    rw [outsL]
    split
    · exact h
    · refine outsL_len t _ ?_
      have := encO_len x
      rw [List.length_append]; omega
theorem En.body_len (x : En) : x.body.size ≤ 20000200 := by
  rw [En.body_size]
  refine outsL_len _ _ ?_
  have := headE_len x.k x.l x.n x.t x.L.length
  omega
set_option maxRecDepth 100000 in
set_option maxHeartbeats 1600000 in
theorem append_any {w : World} {B g : Nat} {p v : Value} {l : List UInt8} {n : Nat} (h : Jo w B g p v l (n : Int)) (hT : Hal w) (x : En) (vo : Value) (hv : RowO w vo x.L) (hx : x.ok) (hl : l.length ≤ 140737408355328) (hn : n ≤ 140737488355328) :
    Calls Tryd.prog 15 #[.pointer (some ⟨g, 0, none⟩), x.val vo] w fun e w' =>
      (10000000 < x.body.size → ∃ q, e = .returned (.iface 86 (.pointer (some ⟨q, 0, none⟩))) ∧ w.heap.size ≤ q ∧ Jg.Ft w' q 0 1 ∧ Below w.heap.size w w') ∧
      (x.body.size ≤ 10000000 → e = .returned .nilIface ∧ ∃ v', Jo w' B g (.pointer (some ⟨g, 0, none⟩)) v' (l ++ (recB (n + 1) x.body).data.toList) ((n + 1 : Nat) : Int) ∧ Fj g v w w' ∧ Nw w v v') := by
  obtain ⟨o, cap, rfl, hc⟩ := id hv
  obtain ⟨N, HN⟩ : ∃ N, Hid (x.L.length = N) := ⟨_, rfl⟩
  rw [HN.out] at hv ⊢
  obtain ⟨W1, HW1⟩ : ∃ W, Hid (w.alloc (.cells #[.int .i64 x.k, .int .i64 x.l, .int .i64 x.n, .string x.t, .slice o N cap] 40) = W) := ⟨_, rfl⟩
  have hb1 : Below w.heap.size w W1 := HW1.out ▸ below_one _ _
  have hx1 : W1.heap[w.heap.size]? = some (.cells #[.int .i64 x.k, .int .i64 x.l, .int .i64 x.n, .string x.t, .slice o N cap] 40 (0, 0)) := HW1.out ▸ h1_0 _ _
  have HBODY : Hid (Calls _ _ _ _ _) := bodyOf_any x.k x.l x.n x.t (.slice o N cap) x.L W1 (rowo_below hv hb1) hx.1 hx.2.1 hx.2.2
  have HJ : Hid (Jo w B g p v l (n : Int)) := h
  have HB1 : Hid (Below w.heap.size w W1) := hb1
  have HK : Hid (Hal w ∧ l.length ≤ 140737408355328 ∧ n ≤ 140737488355328) := ⟨hT, hl, hn⟩
  have z5 : (Tryd.prog.info? 40).map (·.size) = some 5 := by kernel_rfl
  obtain ⟨body, hbd⟩ : ∃ b, x.body = b := ⟨_, rfl⟩
  have hbl : body.size ≤ 20000200 := hbd ▸ x.body_len
  have HBD : Hid ((⟨(bodyE x.k x.l x.n x.t x.L).toArray⟩ : ByteArray) = body) := hbd
  have HBL : Hid (body.size ≤ 20000200) := hbl
  rw [hbd]
  unfold En.val
  clear h hT hv hx hl hn hc hb1 hbd hbl
  go_enter Tryd.func15, Tryd.ntmps15
  go_wp2_with (first | (rw [HW1.out]) | (refine wpList_load_row rfl 40 _ rfl w.heap.size rfl _ _ _ _ hx1 Tryd.underlying40 rfl z5 ?_) | fail)
  refine HBODY.out.mono ?_
  rintro e y ⟨rfl, hy⟩
  rw [HBD.out]
  have HY : Hid (Below w.heap.size w y) := HB1.out.trans (hy.mono HB1.out.size)
  have HJy : Hid (Jo y B g p v l (n : Int)) := HJ.out.below HY.out
  clear hy hx1
  by_cases hbig : 10000000 < body.size
  · have q1 : (10000000 : Int) < (body.size : Int) := by omega
    obtain ⟨W3, HW3⟩ : ∃ W, Hid (y.alloc (.cells #[.int .i64 0, .int .i64 1] 91) = W) := ⟨_, rfl⟩
    have HFT : Hid (Jg.Ft W3 y.heap.size 0 1 ∧ Below w.heap.size w W3) := ⟨HW3.out ▸ h1_0 _ _, keepB HY.out (HW3.out ▸ below_one _ _)⟩
    have HBG : Hid (10000000 < body.size) := hbig
    clear hbig
    go_wp2_with (first | (rw [HW3.out]) | fail)
    go_ret
    refine ⟨fun _ => ⟨y.heap.size, rfl, HY.out.size, HFT.out⟩, fun h => ?_⟩
    have := HBG.out
    omega
  · have q1 : (body.size : Int) ≤ 10000000 := by omega
    have hr := HJy.out.row
    have c2 : y.cell? ⟨g, 2, none⟩ = some (.int .i64 (n : Int)) := by simp [World.cell?, hr]
    have gl := HJy.out.lt
    have q2 : (n : Int) ≤ 140737488355328 := by have := HK.out.2.2; omega
    have hsm : body.size ≤ 10000000 := by omega
    have HREC : Hid (Calls _ _ _ _ _) := recordOf_any (n + 1) (by have := HK.out.2.2; omega) body (by omega) y (Jr.hal_next HK.out.1 HY.out)
    have HSM : Hid (body.size ≤ 10000000) := hsm
    clear hbig hr hsm
    go_wp2_with fail
    refine HREC.out.mono ?_
    rintro e y2 ⟨rfl, hy2⟩
    have HJ2 : Hid (Jo y2 B g p v l (n : Int)) := HJy.out.below hy2
    have HB2 : Hid (Below w.heap.size w y2) := HY.out.trans (hy2.mono HY.out.size)
    have hrs := recB_size (n + 1) body
    have hk2 := HK.out.2
    have HKP : Hid (Calls _ _ _ _ _) := keep_any HJ2.out (recB (n + 1) body) (fun e => by have h9 := Jn.size_list (recB (n + 1) body); rw [e, hrs] at h9; simp at h9) (by rw [hrs]; have := HSM.out; omega) (by omega)
    obtain ⟨R, hR⟩ : ∃ R, recB (n + 1) body = R := ⟨_, rfl⟩
    rw [hR] at HKP ⊢
    have HRR : Hid (recB (n + 1) body = R) := hR
    clear hy2 hrs hk2 hR
    go_wp2_with fail
    refine HKP.out.mono ?_
    rintro e y3 ⟨rfl, v3, hj3, hf3, hn3⟩
    have HFIN : Hid (∃ v', Jo y3 B g (.pointer (some ⟨g, 0, none⟩)) v' (l ++ (recB (n + 1) body).data.toList) ((n + 1 : Nat) : Int) ∧ Fj g v w y3 ∧ Nw w v v') := by
      refine ⟨v3, ?_, (Fj.of_below HB2.out).trans (Nw.refl _ _) hf3, fun q hq => (hn3 q hq).elim .inl (fun e => .inr (Nat.le_trans HB2.out.size e))⟩
      rw [HRR.out, show ((n + 1 : Nat) : Int) = (n : Int) + 1 by omega]; exact hj3
    clear hj3 hf3 hn3
    go_wp2_with fail
    go_ret
    refine ⟨fun h => ?_, fun _ => ⟨rfl, HFIN.out⟩⟩
    have := HSM.out
    omega
end Go.Proofs.YtabmpngliphdpaaDoor.Kf
