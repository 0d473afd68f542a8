/- known: the chapter's first example is so. -/
import Derived.Test.YtgidjfhlooggkaaKx
namespace Go.Proofs.Ytgidjfhlooggkaa.Kn
set_option linter.unusedVariables false
set_option linter.unusedSimpArgs false
open Go.RowKit Kb Ga Gb Gc Nt Wk Ls Wr Nb Bu Sb Go_ Kx
/-- a row of one node -/
theorem one_of {ats : List AT} {t : Int} {v : ByteArray} {ks : List Tr} (h : er ats = [Tr.mk t v ks]) : ∃ kv aks, ats = [AT.mk t v kv aks] ∧ er aks = ks := by
  cases ats with
  | nil => simp [er] at h
  | cons a r =>
    cases a with
    | mk t' v' kv aks =>
      simp only [er, List.cons.injEq, Tr.mk.injEq] at h
      obtain ⟨⟨rfl, rfl, hk⟩, hr⟩ := h
      cases r with
      | nil => exact ⟨kv, aks, rfl, hk⟩
      | cons b r => cases b; simp [er] at hr
theorem nil_of {ats : List AT} (h : er ats = []) : ats = [] := by
  cases ats with
  | nil => rfl
  | cons a r => cases a; simp [er] at h
theorem two_of {ats : List AT} {t u : Int} {v x : ByteArray} (h : er ats = [Tr.mk t v [], Tr.mk u x []]) : ∃ kv kx, ats = [AT.mk t v kv [], AT.mk u x kx []] := by
  cases ats with
  | nil => simp [er] at h
  | cons a r =>
    cases a with
    | mk t' v' kv aks =>
      simp only [er, List.cons.injEq, Tr.mk.injEq] at h
      obtain ⟨⟨rfl, rfl, hk⟩, hr⟩ := h
      obtain ⟨kx, akx, rfl, hx⟩ := one_of hr
      obtain rfl := nil_of hk
      obtain rfl := nil_of hx
      exact ⟨kv, kx, rfl⟩
set_option maxRecDepth 100000 in
set_option maxHeartbeats 1600000 in
theorem known_any (w : World) : Calls Try.prog 9 #[] w fun e w' => e = .returned (.bool true) ∧ Below w.heap.size w w' := by
  have c1 := parse_any K1 w (by decide)
  rw [p1, x1] at c1
  go_enter Try.func9, Try.ntmps9
  go_wp2_with fail
  refine Calls.mono (show Calls _ _ #[.string ⟨#[112, 5, 90, 3, 65, 17, 17]⟩] _ _ from c1) ?_
  rintro _ x ⟨v, ats, rfl, he, ho, hx⟩
  obtain ⟨kv1, a1s, rfl, he1⟩ := one_of he
  obtain ⟨kv2, a2s, rfl, he2⟩ := one_of he1
  obtain rfl := nil_of he2
  have hr := ho.reads
  have hok := ho.kids
  simp only [ok] at hok
  obtain ⟨g, cap, rfl, -⟩ := ho.row.form (by simp)
  obtain ⟨kg, kc, rfl, -⟩ := hok.1.1.form (by simp)
  obtain ⟨o1, cp1, e1, -, hc⟩ := hr.row
  obtain ⟨a, ea, q0, q1, q2⟩ := hc 0 (by simp)
  have hk := (rdL_at _ 0 (by simp) hr.kids).1
  simp only [List.getElem_cons_zero, AT.tag, AT.val, AT.kv, AT.kids] at q0 q1 q2 hk
  obtain ⟨o2, cp2, e2, -, hc2⟩ := hk.row
  obtain ⟨ka, eka, r0, r1, r2⟩ := hc2 0 (by simp)
  have ea2 : a = ⟨g, 0, none⟩ := by rw [ea] at e1; injection e1 with e3; injection e3 with e4; exact e4.symm
  have eka2 : ka = ⟨kg, 0, none⟩ := by rw [eka] at e2; injection e2 with e3; injection e3 with e4; exact e4.symm
  subst ea2
  subst eka2
  rw [add0] at q0 q1 q2 r0 r1 r2
  simp only [List.getElem_cons_zero, AT.tag, AT.val, AT.kv, AT.kids, List.length_cons, List.length_nil, Nat.zero_add, Nat.zero_mul] at q0 q1 q2 r0 r1 r2
  simp only [List.length_cons, List.length_nil, Nat.zero_add] at hr ho ⊢
  have hx2 := hx
  clear hc hc2 he he1 he2 hk ho c1 hok e1 e2 ea eka r1 r2 q1
  have hd := a4 (.slice (some ⟨kg, 0, none⟩) 1 kc) kv2
  have c2 := build_any _ _ x hr (by rw [hd]; omega)
  rw [a1] at c2
  have s7 := a2 (.slice (some ⟨kg, 0, none⟩) 1 kc) kv2
  generalize bldS [AT.mk 112 Np.mt (.slice (some ⟨kg, 0, none⟩) 1 kc) [AT.mk 90 K3 kv2 []]] = S at *
  have c3 := fun (y : World) (hy : Below x.heap.size x y) => Pn.print_any _ _ y (hr.below hy) (by rw [hd]; omega) (by rw [st]; simp) (by simp)
  simp only [a6] at c3
  have c4 := fun (y : World) (u : Value) (hy : Below x.heap.size x y) (hu : Fd.ints y u [112, 90]) => Fd.find_any _ [112, 90] _ u y (hr.below hy) hu
  simp only [a3, AT.tag, AT.val, AT.kids] at c4
  have c5 := fun y => parseSub_any K2 y (by decide)
  rw [p2] at c5
  have HR : Hid (Rdn x (.slice (some ⟨g, 0, none⟩) 1 cap) [AT.mk 112 Np.mt (.slice (some ⟨kg, 0, none⟩) 1 kc) [AT.mk 90 K3 kv2 []]]) := hr
  clear hr hd
  go_wp2_with fail
  clear q0 q2 r0
  refine c2.mono ?_
  rintro _ y ⟨rfl, hy⟩
  go_wp2_with fail
  refine (c3 y hy).mono ?_
  rintro _ z ⟨rfl, hz⟩
  have hxz := keepB hy hz
  clear c2 c3
  go_wp2_with fail
  have nz := h1_0 z (.cells #[.int .i64 112, .int .i64 90] 3)
  have bz := below_one z (.cells #[.int .i64 112, .int .i64 90] 3)
  have hxz2 := keepB hxz bz
  have hwz := keepB hx hxz2
  have szz : (z.alloc (.cells #[.int .i64 112, .int .i64 90] 3)).heap.size = z.heap.size + 1 := by simp
  have hin : Fd.ints (z.alloc (.cells #[.int .i64 112, .int .i64 90] 3)) (.slice (some ⟨z.heap.size, 0, none⟩) 2 2) [112, 90] := by
    refine ⟨some ⟨z.heap.size, 0, none⟩, 2, rfl, by simp, fun i hi => ⟨_, rfl, ?_⟩⟩
    rw [add0, cell_of_row _ _ _ _ _ _ nz]
    have : i = 0 ∨ i = 1 := by simp at hi; omega
    rcases this with rfl | rfl <;> rfl
  clear nz bz hxz hz
  generalize z.alloc (.cells #[.int .i64 112, .int .i64 90] 3) = Z at *
  refine (c4 Z _ hxz2 hin).mono ?_
  rintro _ u ⟨hu, kv', aks, rfl, hea, hown⟩
  obtain ⟨ko, kc3, rfl⟩ := hown.form
  generalize aks.length = KL at *
  have hwu := keepB hwz hu
  clear c4 hin hea hown hu hxz2 hwz HR
  go_wp2_with fail
  have nu := h1_0 u (.cells #[.int .i64 90, .string K3, .slice ko KL kc3] 40)
  have bu := below_one u (.cells #[.int .i64 90, .string K3, .slice ko KL kc3] 40)
  have hwu2 := keepB hwu bu
  clear bu
  generalize u.alloc (.cells #[.int .i64 90, .string K3, .slice ko KL kc3] 40) = U at *
  refine Calls.mono (show Calls _ _ #[.string ⟨#[48, 49, 48, 50, 65, 66, 48, 51, 48, 48]⟩] _ _ from c5 U) ?_
  rintro _ q ⟨v, bts, rfl, hbe, hbo, hq⟩
  obtain ⟨kx, ky, rfl⟩ := two_of hbe
  have nq := kept hq nu
  obtain ⟨f0, f1, f2⟩ := Nb.cell3 nq
  have hbr := hbo.reads
  obtain ⟨gq, capq, rfl, -⟩ := hbo.row.form (by simp)
  obtain ⟨o3, cp3, e3, -, hc3⟩ := hbr.row
  obtain ⟨a3', ea3, t0, t1, t2⟩ := hc3 0 (by simp)
  have ea4 : a3' = ⟨gq, 0, none⟩ := by rw [ea3] at e3; injection e3 with e5; injection e5 with e6; exact e6.symm
  subst ea4
  rw [add0] at t0 t1 t2
  simp only [List.getElem_cons_zero, AT.tag, AT.val, AT.kv, AT.kids, Nat.zero_mul, Nat.zero_add] at t0 t1 t2
  simp only [List.length_cons, List.length_nil, Nat.zero_add, Nat.reduceAdd]
  have hend := keepB hwu2 hq
  have u1 : K3.toList = [65, 17, 17] := by rw [ByteArray.toList_eq]; rfl
  have u2 : K4.toList = [65, 66] := by rw [ByteArray.toList_eq]; rfl
  clear c5 hbr hbo hc3 e3 ea3 hbe nq nu hq hwu hwu2 t2
  go_wp2_with fail
  go_ret
  exact ⟨rfl, hend⟩
end Go.Proofs.Ytgidjfhlooggkaa.Kn
