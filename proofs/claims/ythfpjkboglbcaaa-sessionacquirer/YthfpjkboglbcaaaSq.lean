/- SessionAcquirer: its walk. -/
import Derived.Test.YthfpjkboglbcaaaSe
import Derived.Test.YthfpjkboglbcaaaSh
namespace Go.Proofs.Ythfpjkboglbcaaa.Sq
set_option linter.unusedVariables false
set_option linter.unusedSimpArgs false
open Go.RowKit Lib0 Kb Sp Sa Sc Se
theorem bnd {x : Int} (h : (Lit.int .i64 x).wf = true) : -9223372036854775808 ≤ x ∧ x ≤ 9223372036854775807 := by
  simp [Lit.wf, IntKind.min, IntKind.max, IntKind.signed, IntKind.bits] at h; omega
def nst (st K : Int) (c : ByteArray) : Int := if K = 1 then (if st = 0 then 0 else if c = t001 then 3 else if c = t002 then 1 else st) else if K = 4 then 1 else if K = 5 then 0 else st
def code2 (c : ByteArray) : ByteArray := if c = t001 ∨ c = t002 ∨ c = t101 ∨ c = t301 then t00 else t12
def nsay (st K : Int) (c : ByteArray) : Say := if K = 1 then (if st = 0 then no else ⟨c, code2 c, false⟩) else no
theorem acq {S : Ss} (r : S.role = 1) (K : Int) (c b : ByteArray) (hs : S.st = 0 ∨ S.st = 1 ∨ S.st = 3) (hK : K = 0 ∨ K = 1 ∨ K = 2 ∨ K = 3 ∨ K = 4 ∨ K = 5) :
    (told1 S K c b).role = 1 ∧ (told1 S K c b).st = nst S.st K c ∧ told2 S K c b = nsay S.st K c := by
  have h24 : ¬ S.st = 2 ∧ ¬ S.st = 4 := by omega
  rcases hK with rfl | rfl | rfl | rfl | rfl | rfl
  · exact ⟨(same_heard S).1.trans r, (same_heard S).2.2.2.1, rfl⟩
  · refine ⟨(same_asked S c).1.trans r, ?_, ?_⟩
    · show (asked1 S c).st = _
      unfold asked1 grant1 nst
      by_cases h0 : S.st = 0
      · simp [h0]
      · simp only [h0, if_false, if_true, r, and_true]
        rw [(same_heard _).2.2.2.1]
        split
        · rfl
        · split <;> rfl
    · show asked2 S c = _
      unfold asked2 grant2 nsay code2
      simp [r]
  · have h0 : ansd0 S c b = S := by unfold ansd0; rw [if_neg (by simp [h24])]
    exact ⟨(same_ansd S c b).1.trans r, by show (heard (ansd0 S c b)).st = _; rw [h0]; exact (same_heard S).2.2.2.1, rfl⟩
  · refine ⟨(same_tick S).1.trans r, ?_, ?_⟩
    · show (tick1 S).st = S.st
      simp [tick1, h24, r]
    · show tick2 S = no
      simp [tick2, h24, r]
  · exact ⟨(same_up S).1.trans r, by show (up1 S).st = 1; simp [up1, r], by show up2 S = no; simp [up2, r]⟩
  · exact ⟨r, rfl, rfl⟩
def stOf (th on : Bool) : Int := if on then 3 else if th then 1 else 0
set_option maxHeartbeats 12800000 in
set_option maxRecDepth 100000 in
theorem walk (a0 a1 : Int) (v2 : Value) (z2 : List Sh.Opv) (w : World) (w0 : (Lit.int .i64 a0).wf = true) (w1 : (Lit.int .i64 a1).wf = true) (w2 : Sh.Lies w v2 z2 140737488351232) (k2 : z2.length ≤ 140737488351232) :
    Calls Try.prog 4 #[.int .i64 a0, .int .i64 a1, v2] w fun e w' => e = .returned (.bool true) ∧ Below w.heap.size w w' := by
  have b0 := bnd w0
  have b1 := bnd w1
  have pk0 := fun x => Pick.pick_any a0 100001 x b0.1 b0.2 (by decide) (by decide)
  have pk1 := fun x => Pick.pick_any a1 100000 x b1.1 b1.2 (by decide) (by decide)
  have l0 := Pick.pick_lo a0 100001 (by decide)
  have h0 := Pick.pick_hi a0 100001 (by decide)
  have l1 := Pick.pick_lo a1 100000 (by decide)
  have h1 := Pick.pick_hi a1 100000 (by decide)
  generalize Pick.pickOf a0 100001 = n at *
  generalize Pick.pickOf a1 100000 = m0 at *
  have hI : isS 1 n (1 + m0) = true := by simp [isS]; omega
  have NW := fun x => new_good hI x
  have HO : Hid (OK (fresh 1 n (1 + m0))) := ok_fresh hI
  have HS2 : Hid (Sh.Lies w v2 z2 140737488351232) := w2
  have hz2 : (z2.length : Int) ≤ 140737488351232 := by omega
  obtain ⟨so, scap, hv2, _⟩ := w2
  subst hv2
  have u1 : m0 ≤ 99999 := by omega
  clear h0 h1 b0 b1 w0 w1 hI
  go_enter Try.func4, Try.ntmps4
  go_wp2_with fail
  refine (pk0 _).mono ?_
  rintro e x0 ⟨rfl, hx0⟩
  rw [hx0]
  clear hx0 x0
  go_wp2_with fail
  refine (pk1 _).mono ?_
  rintro e x0 ⟨rfl, hx0⟩
  rw [hx0]
  clear hx0 x0
  go_wp2_with fail
  refine (NW _).mono ?_
  rintro e y ⟨rfl, My, By⟩
  have HY : Hid (Sm 63 y w.heap.size (fresh 1 n (1 + m0))) := My
  have HB : Hid (Below w.heap.size w y) := By
  clear My By NW pk0 pk1
  obtain ⟨G, hG⟩ : ∃ G, w.heap.size = G := ⟨_, rfl⟩
  have gG : w.heap.size ≤ G := by omega
  rw [hG] at HY
  rw [hG]
  clear hG
  go_wp2_with fail
  refine (state_any HY.out).mono ?_
  rintro e x0 ⟨rfl, hx0⟩
  rw [hx0]
  clear hx0 x0
  rw [show (fresh 1 n (1 + m0)).st = 0 from rfl]
  go_wp2_with fail
  go_loopw [9, 10, 11] (fun tv ov iv wr => ∃ (i : Nat) (th on : Bool) (S : Ss), tv = .bool th ∧ ov = .bool on ∧ iv = .int .i64 (i : Int) ∧ i ≤ z2.length ∧ S.role = 1 ∧ ((th = false ∧ on = false ∧ S.st = 0) ∨ (th = true ∧ on = false ∧ S.st = 1) ∨ (th = true ∧ on = true ∧ S.st = 3)) ∧ OK S ∧ Sm 63 wr G S ∧ Below w.heap.size w wr) (fun _ _ iv _ => z2.length + 1 - (intOf iv).toNat)
  case atStart => exact ⟨0, false, false, fresh 1 n (1 + m0), rfl, rfl, rfl, Nat.zero_le _, rfl, .inl ⟨rfl, rfl, rfl⟩, HO.out, HY.out, HB.out⟩
  case round =>
    obtain ⟨i, th, on, S, rfl, rfl, rfl, hi, rS, hst, oS, Mi, Bi⟩ := hrel
    clear HY HB HO
    have HM : Hid (Sm 63 wr G S) := Mi
    have HB : Hid (Below w.heap.size w wr) := Bi
    have HOK : Hid (OK S) := oS
    have HR : Hid (S.role = 1) := rS
    clear Mi oS rS
    by_cases hc : i < z2.length
    · have q0 : (i : Int) < (z2.length : Int) := by omega
      have q1 : (0 : Int) ≤ (i : Int) := by omega
      obtain ⟨so', scap', hso, hat⟩ := HS2.out
      injection hso with hso1 _ hso2
      subst hso1 hso2
      obtain ⟨oa, rfl, hat1, hfine⟩ := hat i hc
      obtain ⟨t0, t1, t2⟩ := Sh.at_below hat1 rfl Bi
      have r1 := t1
      have r2 := t2
      rw [Sh.add_field _ _ _ (by decide)] at r1 r2
      have HC : Hid (i < z2.length) := hc
      generalize z2[i] = op at *
      obtain ⟨ok, oc, ob⟩ := op
      simp only at t0 t1 t2 r1 r2 hfine
      obtain ⟨f0, f1, f2⟩ := hfine
      dsimp only at f0 f1 f2
      have bk := bnd f0
      have pk := fun x => Pick.pick_any ok 6 x bk.1 bk.2 (by decide) (by decide)
      have TD := fun (y : World) (M : Sm 63 y G S) => told_any M HOK.out ok oc ob bk.1 bk.2 (by omega)
      have AQ := fun hs => acq HR.out (Pick.pickOf ok 6) oc ob hs (by have := Pick.pick_lo ok 6 (by decide); have := Pick.pick_hi ok 6 (by decide); omega)
      have OT := ok_told HOK.out (Pick.pickOf ok 6) oc ob
      have hK : Pick.pickOf ok 6 = 0 ∨ Pick.pickOf ok 6 = 1 ∨ Pick.pickOf ok 6 = 2 ∨ Pick.pickOf ok 6 = 3 ∨ Pick.pickOf ok 6 = 4 ∨ Pick.pickOf ok 6 = 5 := by have := Pick.pick_lo ok 6 (by decide); have := Pick.pick_hi ok 6 (by decide); omega
      generalize Pick.pickOf ok 6 = K at *
      have st3 : S.st = 0 ∨ S.st = 1 ∨ S.st = 3 := by omega
      obtain ⟨A1, A2, A3⟩ := AQ st3
      generalize told1 S K oc ob = S' at *
      generalize told2 S K oc ob = sy at *
      have HA1 : Hid (S'.role = 1) := A1
      have HA2 : Hid (S'.st = nst S.st K oc) := A2
      have HA3 : Hid (sy = nsay S.st K oc) := A3
      have HOT : Hid (OK S') := OT
      have HST : Hid ((th = false ∧ on = false ∧ S.st = 0) ∨ (th = true ∧ on = false ∧ S.st = 1) ∨ (th = true ∧ on = true ∧ S.st = 3)) := hst
      have HKK : Hid (K = 0 ∨ K = 1 ∨ K = 2 ∨ K = 3 ∨ K = 4 ∨ K = 5) := hK
      clear hat hat1 f0 f1 f2 hc hi bk A1 A2 A3 AQ OT hst hK st3 HOK HR Bi
      go_wp2_with fail
      obtain ⟨yo, hyo⟩ : ∃ yo, wr.alloc (.cells #[.int .i64 ok, .string oc, .string ob] 48) = yo := ⟨_, rfl⟩
      have HMo : Hid (Sm 63 yo G S) := hyo ▸ HM.out.alloc _
      have HBo : Hid (Below w.heap.size w yo) := hyo ▸ HB.out.alloc HB.out.size _
      have hP : yo.heap[wr.heap.size]? = some (.cells #[.int .i64 ok, .string oc, .string ob] 48) := hyo ▸ Kb.h1_0 wr _
      have gP : wr.heap.size ≠ G := by have := HM.out.lt; omega
      obtain ⟨p, hp⟩ : ∃ p, wr.heap.size = p := ⟨_, rfl⟩
      rw [hp] at hP gP
      rw [hyo, hp]
      clear hyo hp HM HB t0 t1 t2 r1 r2
      refine (TD _ HMo.out).mono ?_
      rintro e y1 ⟨rfl, My, Fy⟩
      have HM1 : Hid (Sm 63 y1 G S') := My
      have HB1 : Hid (Below w.heap.size w y1) := Fr.under HBo.out Fy (by simpa using gG) HBo.out.size
      have hP1 : Hid (y1.heap[p]? = some (.cells #[.int .i64 ok, .string oc, .string ob] 48)) := res_to hP Fy gP
      clear My Fy HMo HBo hP TD
      rcases HST.out with ⟨rfl, rfl, hs⟩ | ⟨rfl, rfl, hs⟩ | ⟨rfl, rfl, hs⟩
      · rcases HKK.out with rfl | rfl | rfl | rfl | rfl | rfl
        · as_aux_lemma =>
            have E2 : S'.st = 0 := by rw [HA2.out, hs]; first | rfl | decide
            have E3 : sy = no := by rw [HA3.out, hs]; first | rfl | decide
            subst E3
            rw [show sayV no = .agg #[.string ⟨#[]⟩, .string ⟨#[]⟩, .bool false] from rfl]
            have hPa : (y1.alloc (.cells #[.string ⟨#[]⟩, .string ⟨#[]⟩, .bool false] 40)).heap[p]? = some (.cells #[.int .i64 ok, .string oc, .string ob] 48) := (Below.heap_alloc _ _ _ (Array.getElem?_eq_some_iff.1 hP1.out).1).trans hP1.out
            have a0' : (y1.alloc (.cells #[.string ⟨#[]⟩, .string ⟨#[]⟩, .bool false] 40)).cell? ⟨p, 0, none⟩ = some (.int .i64 ok) := by simp [World.cell?, hPa]
            replace E2 : Hid (S'.st = 0) := E2
            clear hPa HA2 HA3
            go_wp2_with fail
            obtain ⟨q, hq⟩ : ∃ q, y1.alloc (.cells #[.string ⟨#[]⟩, .string ⟨#[]⟩, .bool false] 40) = q := ⟨_, rfl⟩
            have HMq : Hid (Sm 63 q G S') := hq ▸ HM1.out.alloc _
            have HBq : Hid (Below w.heap.size w q) := hq ▸ HB1.out.alloc HB1.out.size _
            have hX : q.heap[y1.heap.size]? = some (.cells #[.string ⟨#[]⟩, .string ⟨#[]⟩, .bool false] 40) := hq ▸ Kb.h1_0 y1 _
            have hPq : q.heap[p]? = some (.cells #[.int .i64 ok, .string oc, .string ob] 48) := hq ▸ (Below.heap_alloc _ _ _ (Array.getElem?_eq_some_iff.1 hP1.out).1).trans hP1.out
            obtain ⟨x, hx⟩ : ∃ x, y1.heap.size = x := ⟨_, rfl⟩
            rw [hx] at hX
            rw [hq, hx]
            clear hq hx HM1 HB1 hP1 a0'
            obtain ⟨x0, x1, x2, _⟩ := cells3 hX
            have p0 : q.cell? ⟨p, 0, none⟩ = some (.int .i64 ok) := by simp [World.cell?, hPq]
            have p1 : q.cell? ⟨p, 1, none⟩ = some (.string oc) := by simp [World.cell?, hPq]
            refine (pk _).mono ?_
            rintro e x0 ⟨rfl, hx0⟩
            rw [hx0]
            clear hx0 x0
            go_wp2_with fail
            refine (nothing_no _).mono ?_
            rintro e z ⟨rfl, Bz⟩
            have HMz : Hid (Sm 63 z G S') := HMq.out.below Bz HMq.out.lt
            have HBz : Hid (Below w.heap.size w z) := Kb.keepB HBq.out Bz
            have hPz := (Bz.block _ (Array.getElem?_eq_some_iff.1 hPq).1).trans hPq
            have pz0 : z.cell? ⟨p, 0, none⟩ = some (.int .i64 ok) := by simp [World.cell?, hPz]
            clear Bz HMq HBq hPq hPz hX x0 x1 x2 p0 p1
            go_wp2_with fail
            refine (pk _).mono ?_
            rintro e x0 ⟨rfl, hx0⟩
            rw [hx0]
            clear hx0 x0
            go_wp2_with fail
            refine (state_any HMz.out).mono ?_
            rintro e x0 ⟨rfl, hx0⟩
            rw [hx0]
            clear hx0 x0
            rw [E2.out]
            go_wp2_with fail
            refine (ready_any HMz.out).mono ?_
            rintro e x0 ⟨rfl, hx0⟩
            rw [hx0, show decide (S'.st = 3 ∨ S'.st = 4) = false by rw [E2.out]; rfl]
            clear hx0 x0
            go_wp2_with fail
            refine ⟨⟨i + 1, false, false, S', rfl, rfl, by simp, HC.out, HA1.out, .inl ⟨rfl, rfl, E2.out⟩, HOT.out, HMz.out, HBz.out⟩, ?_⟩
            simp only [intOf]
            have := HC.out
            omega
        · as_aux_lemma =>
            have E2 : S'.st = 0 := by rw [HA2.out, hs]; first | rfl | decide
            have E3 : sy = no := by rw [HA3.out, hs]; first | rfl | decide
            subst E3
            rw [show sayV no = .agg #[.string ⟨#[]⟩, .string ⟨#[]⟩, .bool false] from rfl]
            have hPa : (y1.alloc (.cells #[.string ⟨#[]⟩, .string ⟨#[]⟩, .bool false] 40)).heap[p]? = some (.cells #[.int .i64 ok, .string oc, .string ob] 48) := (Below.heap_alloc _ _ _ (Array.getElem?_eq_some_iff.1 hP1.out).1).trans hP1.out
            have a0' : (y1.alloc (.cells #[.string ⟨#[]⟩, .string ⟨#[]⟩, .bool false] 40)).cell? ⟨p, 0, none⟩ = some (.int .i64 ok) := by simp [World.cell?, hPa]
            replace E2 : Hid (S'.st = 0) := E2
            clear hPa HA2 HA3
            go_wp2_with fail
            obtain ⟨q, hq⟩ : ∃ q, y1.alloc (.cells #[.string ⟨#[]⟩, .string ⟨#[]⟩, .bool false] 40) = q := ⟨_, rfl⟩
            have HMq : Hid (Sm 63 q G S') := hq ▸ HM1.out.alloc _
            have HBq : Hid (Below w.heap.size w q) := hq ▸ HB1.out.alloc HB1.out.size _
            have hX : q.heap[y1.heap.size]? = some (.cells #[.string ⟨#[]⟩, .string ⟨#[]⟩, .bool false] 40) := hq ▸ Kb.h1_0 y1 _
            have hPq : q.heap[p]? = some (.cells #[.int .i64 ok, .string oc, .string ob] 48) := hq ▸ (Below.heap_alloc _ _ _ (Array.getElem?_eq_some_iff.1 hP1.out).1).trans hP1.out
            obtain ⟨x, hx⟩ : ∃ x, y1.heap.size = x := ⟨_, rfl⟩
            rw [hx] at hX
            rw [hq, hx]
            clear hq hx HM1 HB1 hP1 a0'
            obtain ⟨x0, x1, x2, _⟩ := cells3 hX
            have p0 : q.cell? ⟨p, 0, none⟩ = some (.int .i64 ok) := by simp [World.cell?, hPq]
            have p1 : q.cell? ⟨p, 1, none⟩ = some (.string oc) := by simp [World.cell?, hPq]
            refine (pk _).mono ?_
            rintro e x0 ⟨rfl, hx0⟩
            rw [hx0]
            clear hx0 x0
            go_wp2_with fail
            refine (nothing_no _).mono ?_
            rintro e z ⟨rfl, Bz⟩
            have HMz : Hid (Sm 63 z G S') := HMq.out.below Bz HMq.out.lt
            have HBz : Hid (Below w.heap.size w z) := Kb.keepB HBq.out Bz
            have hPz := (Bz.block _ (Array.getElem?_eq_some_iff.1 hPq).1).trans hPq
            have pz0 : z.cell? ⟨p, 0, none⟩ = some (.int .i64 ok) := by simp [World.cell?, hPz]
            clear Bz HMq HBq hPq hPz hX x0 x1 x2 p0 p1
            go_wp2_with fail
            refine (pk _).mono ?_
            rintro e x0 ⟨rfl, hx0⟩
            rw [hx0]
            clear hx0 x0
            go_wp2_with fail
            refine ⟨⟨i + 1, false, false, S', rfl, rfl, by simp, HC.out, HA1.out, .inl ⟨rfl, rfl, E2.out⟩, HOT.out, HMz.out, HBz.out⟩, ?_⟩
            simp only [intOf]
            have := HC.out
            omega
        · as_aux_lemma =>
            have E2 : S'.st = 0 := by rw [HA2.out, hs]; first | rfl | decide
            have E3 : sy = no := by rw [HA3.out, hs]; first | rfl | decide
            subst E3
            rw [show sayV no = .agg #[.string ⟨#[]⟩, .string ⟨#[]⟩, .bool false] from rfl]
            have hPa : (y1.alloc (.cells #[.string ⟨#[]⟩, .string ⟨#[]⟩, .bool false] 40)).heap[p]? = some (.cells #[.int .i64 ok, .string oc, .string ob] 48) := (Below.heap_alloc _ _ _ (Array.getElem?_eq_some_iff.1 hP1.out).1).trans hP1.out
            have a0' : (y1.alloc (.cells #[.string ⟨#[]⟩, .string ⟨#[]⟩, .bool false] 40)).cell? ⟨p, 0, none⟩ = some (.int .i64 ok) := by simp [World.cell?, hPa]
            replace E2 : Hid (S'.st = 0) := E2
            clear hPa HA2 HA3
            go_wp2_with fail
            obtain ⟨q, hq⟩ : ∃ q, y1.alloc (.cells #[.string ⟨#[]⟩, .string ⟨#[]⟩, .bool false] 40) = q := ⟨_, rfl⟩
            have HMq : Hid (Sm 63 q G S') := hq ▸ HM1.out.alloc _
            have HBq : Hid (Below w.heap.size w q) := hq ▸ HB1.out.alloc HB1.out.size _
            have hX : q.heap[y1.heap.size]? = some (.cells #[.string ⟨#[]⟩, .string ⟨#[]⟩, .bool false] 40) := hq ▸ Kb.h1_0 y1 _
            have hPq : q.heap[p]? = some (.cells #[.int .i64 ok, .string oc, .string ob] 48) := hq ▸ (Below.heap_alloc _ _ _ (Array.getElem?_eq_some_iff.1 hP1.out).1).trans hP1.out
            obtain ⟨x, hx⟩ : ∃ x, y1.heap.size = x := ⟨_, rfl⟩
            rw [hx] at hX
            rw [hq, hx]
            clear hq hx HM1 HB1 hP1 a0'
            obtain ⟨x0, x1, x2, _⟩ := cells3 hX
            have p0 : q.cell? ⟨p, 0, none⟩ = some (.int .i64 ok) := by simp [World.cell?, hPq]
            have p1 : q.cell? ⟨p, 1, none⟩ = some (.string oc) := by simp [World.cell?, hPq]
            refine (pk _).mono ?_
            rintro e x0 ⟨rfl, hx0⟩
            rw [hx0]
            clear hx0 x0
            go_wp2_with fail
            refine (nothing_no _).mono ?_
            rintro e z ⟨rfl, Bz⟩
            have HMz : Hid (Sm 63 z G S') := HMq.out.below Bz HMq.out.lt
            have HBz : Hid (Below w.heap.size w z) := Kb.keepB HBq.out Bz
            have hPz := (Bz.block _ (Array.getElem?_eq_some_iff.1 hPq).1).trans hPq
            have pz0 : z.cell? ⟨p, 0, none⟩ = some (.int .i64 ok) := by simp [World.cell?, hPz]
            clear Bz HMq HBq hPq hPz hX x0 x1 x2 p0 p1
            go_wp2_with fail
            refine (pk _).mono ?_
            rintro e x0 ⟨rfl, hx0⟩
            rw [hx0]
            clear hx0 x0
            go_wp2_with fail
            refine (state_any HMz.out).mono ?_
            rintro e x0 ⟨rfl, hx0⟩
            rw [hx0]
            clear hx0 x0
            rw [E2.out]
            go_wp2_with fail
            refine (ready_any HMz.out).mono ?_
            rintro e x0 ⟨rfl, hx0⟩
            rw [hx0, show decide (S'.st = 3 ∨ S'.st = 4) = false by rw [E2.out]; rfl]
            clear hx0 x0
            go_wp2_with fail
            refine ⟨⟨i + 1, false, false, S', rfl, rfl, by simp, HC.out, HA1.out, .inl ⟨rfl, rfl, E2.out⟩, HOT.out, HMz.out, HBz.out⟩, ?_⟩
            simp only [intOf]
            have := HC.out
            omega
        · as_aux_lemma =>
            have E2 : S'.st = 0 := by rw [HA2.out, hs]; first | rfl | decide
            have E3 : sy = no := by rw [HA3.out, hs]; first | rfl | decide
            subst E3
            rw [show sayV no = .agg #[.string ⟨#[]⟩, .string ⟨#[]⟩, .bool false] from rfl]
            have hPa : (y1.alloc (.cells #[.string ⟨#[]⟩, .string ⟨#[]⟩, .bool false] 40)).heap[p]? = some (.cells #[.int .i64 ok, .string oc, .string ob] 48) := (Below.heap_alloc _ _ _ (Array.getElem?_eq_some_iff.1 hP1.out).1).trans hP1.out
            have a0' : (y1.alloc (.cells #[.string ⟨#[]⟩, .string ⟨#[]⟩, .bool false] 40)).cell? ⟨p, 0, none⟩ = some (.int .i64 ok) := by simp [World.cell?, hPa]
            replace E2 : Hid (S'.st = 0) := E2
            clear hPa HA2 HA3
            go_wp2_with fail
            obtain ⟨q, hq⟩ : ∃ q, y1.alloc (.cells #[.string ⟨#[]⟩, .string ⟨#[]⟩, .bool false] 40) = q := ⟨_, rfl⟩
            have HMq : Hid (Sm 63 q G S') := hq ▸ HM1.out.alloc _
            have HBq : Hid (Below w.heap.size w q) := hq ▸ HB1.out.alloc HB1.out.size _
            have hX : q.heap[y1.heap.size]? = some (.cells #[.string ⟨#[]⟩, .string ⟨#[]⟩, .bool false] 40) := hq ▸ Kb.h1_0 y1 _
            have hPq : q.heap[p]? = some (.cells #[.int .i64 ok, .string oc, .string ob] 48) := hq ▸ (Below.heap_alloc _ _ _ (Array.getElem?_eq_some_iff.1 hP1.out).1).trans hP1.out
            obtain ⟨x, hx⟩ : ∃ x, y1.heap.size = x := ⟨_, rfl⟩
            rw [hx] at hX
            rw [hq, hx]
            clear hq hx HM1 HB1 hP1 a0'
            obtain ⟨x0, x1, x2, _⟩ := cells3 hX
            have p0 : q.cell? ⟨p, 0, none⟩ = some (.int .i64 ok) := by simp [World.cell?, hPq]
            have p1 : q.cell? ⟨p, 1, none⟩ = some (.string oc) := by simp [World.cell?, hPq]
            refine (pk _).mono ?_
            rintro e x0 ⟨rfl, hx0⟩
            rw [hx0]
            clear hx0 x0
            go_wp2_with fail
            refine (nothing_no _).mono ?_
            rintro e z ⟨rfl, Bz⟩
            have HMz : Hid (Sm 63 z G S') := HMq.out.below Bz HMq.out.lt
            have HBz : Hid (Below w.heap.size w z) := Kb.keepB HBq.out Bz
            have hPz := (Bz.block _ (Array.getElem?_eq_some_iff.1 hPq).1).trans hPq
            have pz0 : z.cell? ⟨p, 0, none⟩ = some (.int .i64 ok) := by simp [World.cell?, hPz]
            clear Bz HMq HBq hPq hPz hX x0 x1 x2 p0 p1
            go_wp2_with fail
            refine (pk _).mono ?_
            rintro e x0 ⟨rfl, hx0⟩
            rw [hx0]
            clear hx0 x0
            go_wp2_with fail
            refine (state_any HMz.out).mono ?_
            rintro e x0 ⟨rfl, hx0⟩
            rw [hx0]
            clear hx0 x0
            rw [E2.out]
            go_wp2_with fail
            refine (ready_any HMz.out).mono ?_
            rintro e x0 ⟨rfl, hx0⟩
            rw [hx0, show decide (S'.st = 3 ∨ S'.st = 4) = false by rw [E2.out]; rfl]
            clear hx0 x0
            go_wp2_with fail
            refine ⟨⟨i + 1, false, false, S', rfl, rfl, by simp, HC.out, HA1.out, .inl ⟨rfl, rfl, E2.out⟩, HOT.out, HMz.out, HBz.out⟩, ?_⟩
            simp only [intOf]
            have := HC.out
            omega
        · as_aux_lemma =>
            have E2 : S'.st = 1 := by rw [HA2.out, hs]; first | rfl | decide
            have E3 : sy = no := by rw [HA3.out, hs]; first | rfl | decide
            subst E3
            rw [show sayV no = .agg #[.string ⟨#[]⟩, .string ⟨#[]⟩, .bool false] from rfl]
            have hPa : (y1.alloc (.cells #[.string ⟨#[]⟩, .string ⟨#[]⟩, .bool false] 40)).heap[p]? = some (.cells #[.int .i64 ok, .string oc, .string ob] 48) := (Below.heap_alloc _ _ _ (Array.getElem?_eq_some_iff.1 hP1.out).1).trans hP1.out
            have a0' : (y1.alloc (.cells #[.string ⟨#[]⟩, .string ⟨#[]⟩, .bool false] 40)).cell? ⟨p, 0, none⟩ = some (.int .i64 ok) := by simp [World.cell?, hPa]
            replace E2 : Hid (S'.st = 1) := E2
            clear hPa HA2 HA3
            go_wp2_with fail
            obtain ⟨q, hq⟩ : ∃ q, y1.alloc (.cells #[.string ⟨#[]⟩, .string ⟨#[]⟩, .bool false] 40) = q := ⟨_, rfl⟩
            have HMq : Hid (Sm 63 q G S') := hq ▸ HM1.out.alloc _
            have HBq : Hid (Below w.heap.size w q) := hq ▸ HB1.out.alloc HB1.out.size _
            have hX : q.heap[y1.heap.size]? = some (.cells #[.string ⟨#[]⟩, .string ⟨#[]⟩, .bool false] 40) := hq ▸ Kb.h1_0 y1 _
            have hPq : q.heap[p]? = some (.cells #[.int .i64 ok, .string oc, .string ob] 48) := hq ▸ (Below.heap_alloc _ _ _ (Array.getElem?_eq_some_iff.1 hP1.out).1).trans hP1.out
            obtain ⟨x, hx⟩ : ∃ x, y1.heap.size = x := ⟨_, rfl⟩
            rw [hx] at hX
            rw [hq, hx]
            clear hq hx HM1 HB1 hP1 a0'
            obtain ⟨x0, x1, x2, _⟩ := cells3 hX
            have p0 : q.cell? ⟨p, 0, none⟩ = some (.int .i64 ok) := by simp [World.cell?, hPq]
            have p1 : q.cell? ⟨p, 1, none⟩ = some (.string oc) := by simp [World.cell?, hPq]
            refine (pk _).mono ?_
            rintro e x0 ⟨rfl, hx0⟩
            rw [hx0]
            clear hx0 x0
            go_wp2_with fail
            refine (nothing_no _).mono ?_
            rintro e z ⟨rfl, Bz⟩
            have HMz : Hid (Sm 63 z G S') := HMq.out.below Bz HMq.out.lt
            have HBz : Hid (Below w.heap.size w z) := Kb.keepB HBq.out Bz
            have hPz := (Bz.block _ (Array.getElem?_eq_some_iff.1 hPq).1).trans hPq
            have pz0 : z.cell? ⟨p, 0, none⟩ = some (.int .i64 ok) := by simp [World.cell?, hPz]
            clear Bz HMq HBq hPq hPz hX x0 x1 x2 p0 p1
            go_wp2_with fail
            refine (pk _).mono ?_
            rintro e x0 ⟨rfl, hx0⟩
            rw [hx0]
            clear hx0 x0
            go_wp2_with fail
            refine (state_any HMz.out).mono ?_
            rintro e x0 ⟨rfl, hx0⟩
            rw [hx0]
            clear hx0 x0
            rw [E2.out]
            go_wp2_with fail
            refine (ready_any HMz.out).mono ?_
            rintro e x0 ⟨rfl, hx0⟩
            rw [hx0, show decide (S'.st = 3 ∨ S'.st = 4) = false by rw [E2.out]; rfl]
            clear hx0 x0
            go_wp2_with fail
            refine ⟨⟨i + 1, true, false, S', rfl, rfl, by simp, HC.out, HA1.out, .inr (.inl ⟨rfl, rfl, E2.out⟩), HOT.out, HMz.out, HBz.out⟩, ?_⟩
            simp only [intOf]
            have := HC.out
            omega
        · as_aux_lemma =>
            have E2 : S'.st = 0 := by rw [HA2.out, hs]; first | rfl | decide
            have E3 : sy = no := by rw [HA3.out, hs]; first | rfl | decide
            subst E3
            rw [show sayV no = .agg #[.string ⟨#[]⟩, .string ⟨#[]⟩, .bool false] from rfl]
            have hPa : (y1.alloc (.cells #[.string ⟨#[]⟩, .string ⟨#[]⟩, .bool false] 40)).heap[p]? = some (.cells #[.int .i64 ok, .string oc, .string ob] 48) := (Below.heap_alloc _ _ _ (Array.getElem?_eq_some_iff.1 hP1.out).1).trans hP1.out
            have a0' : (y1.alloc (.cells #[.string ⟨#[]⟩, .string ⟨#[]⟩, .bool false] 40)).cell? ⟨p, 0, none⟩ = some (.int .i64 ok) := by simp [World.cell?, hPa]
            replace E2 : Hid (S'.st = 0) := E2
            clear hPa HA2 HA3
            go_wp2_with fail
            obtain ⟨q, hq⟩ : ∃ q, y1.alloc (.cells #[.string ⟨#[]⟩, .string ⟨#[]⟩, .bool false] 40) = q := ⟨_, rfl⟩
            have HMq : Hid (Sm 63 q G S') := hq ▸ HM1.out.alloc _
            have HBq : Hid (Below w.heap.size w q) := hq ▸ HB1.out.alloc HB1.out.size _
            have hX : q.heap[y1.heap.size]? = some (.cells #[.string ⟨#[]⟩, .string ⟨#[]⟩, .bool false] 40) := hq ▸ Kb.h1_0 y1 _
            have hPq : q.heap[p]? = some (.cells #[.int .i64 ok, .string oc, .string ob] 48) := hq ▸ (Below.heap_alloc _ _ _ (Array.getElem?_eq_some_iff.1 hP1.out).1).trans hP1.out
            obtain ⟨x, hx⟩ : ∃ x, y1.heap.size = x := ⟨_, rfl⟩
            rw [hx] at hX
            rw [hq, hx]
            clear hq hx HM1 HB1 hP1 a0'
            obtain ⟨x0, x1, x2, _⟩ := cells3 hX
            have p0 : q.cell? ⟨p, 0, none⟩ = some (.int .i64 ok) := by simp [World.cell?, hPq]
            have p1 : q.cell? ⟨p, 1, none⟩ = some (.string oc) := by simp [World.cell?, hPq]
            refine (pk _).mono ?_
            rintro e x0 ⟨rfl, hx0⟩
            rw [hx0]
            clear hx0 x0
            go_wp2_with fail
            refine (nothing_no _).mono ?_
            rintro e z ⟨rfl, Bz⟩
            have HMz : Hid (Sm 63 z G S') := HMq.out.below Bz HMq.out.lt
            have HBz : Hid (Below w.heap.size w z) := Kb.keepB HBq.out Bz
            have hPz := (Bz.block _ (Array.getElem?_eq_some_iff.1 hPq).1).trans hPq
            have pz0 : z.cell? ⟨p, 0, none⟩ = some (.int .i64 ok) := by simp [World.cell?, hPz]
            clear Bz HMq HBq hPq hPz hX x0 x1 x2 p0 p1
            go_wp2_with fail
            refine (pk _).mono ?_
            rintro e x0 ⟨rfl, hx0⟩
            rw [hx0]
            clear hx0 x0
            go_wp2_with fail
            refine (state_any HMz.out).mono ?_
            rintro e x0 ⟨rfl, hx0⟩
            rw [hx0]
            clear hx0 x0
            rw [E2.out]
            go_wp2_with fail
            refine (ready_any HMz.out).mono ?_
            rintro e x0 ⟨rfl, hx0⟩
            rw [hx0, show decide (S'.st = 3 ∨ S'.st = 4) = false by rw [E2.out]; rfl]
            clear hx0 x0
            go_wp2_with fail
            refine ⟨⟨i + 1, false, false, S', rfl, rfl, by simp, HC.out, HA1.out, .inl ⟨rfl, rfl, E2.out⟩, HOT.out, HMz.out, HBz.out⟩, ?_⟩
            simp only [intOf]
            have := HC.out
            omega
      · rcases HKK.out with rfl | rfl | rfl | rfl | rfl | rfl
        · as_aux_lemma =>
            have E2 : S'.st = 1 := by rw [HA2.out, hs]; first | rfl | decide
            have E3 : sy = no := by rw [HA3.out, hs]; first | rfl | decide
            subst E3
            rw [show sayV no = .agg #[.string ⟨#[]⟩, .string ⟨#[]⟩, .bool false] from rfl]
            have hPa : (y1.alloc (.cells #[.string ⟨#[]⟩, .string ⟨#[]⟩, .bool false] 40)).heap[p]? = some (.cells #[.int .i64 ok, .string oc, .string ob] 48) := (Below.heap_alloc _ _ _ (Array.getElem?_eq_some_iff.1 hP1.out).1).trans hP1.out
            have a0' : (y1.alloc (.cells #[.string ⟨#[]⟩, .string ⟨#[]⟩, .bool false] 40)).cell? ⟨p, 0, none⟩ = some (.int .i64 ok) := by simp [World.cell?, hPa]
            replace E2 : Hid (S'.st = 1) := E2
            clear hPa HA2 HA3
            go_wp2_with fail
            obtain ⟨q, hq⟩ : ∃ q, y1.alloc (.cells #[.string ⟨#[]⟩, .string ⟨#[]⟩, .bool false] 40) = q := ⟨_, rfl⟩
            have HMq : Hid (Sm 63 q G S') := hq ▸ HM1.out.alloc _
            have HBq : Hid (Below w.heap.size w q) := hq ▸ HB1.out.alloc HB1.out.size _
            have hX : q.heap[y1.heap.size]? = some (.cells #[.string ⟨#[]⟩, .string ⟨#[]⟩, .bool false] 40) := hq ▸ Kb.h1_0 y1 _
            have hPq : q.heap[p]? = some (.cells #[.int .i64 ok, .string oc, .string ob] 48) := hq ▸ (Below.heap_alloc _ _ _ (Array.getElem?_eq_some_iff.1 hP1.out).1).trans hP1.out
            obtain ⟨x, hx⟩ : ∃ x, y1.heap.size = x := ⟨_, rfl⟩
            rw [hx] at hX
            rw [hq, hx]
            clear hq hx HM1 HB1 hP1 a0'
            obtain ⟨x0, x1, x2, _⟩ := cells3 hX
            have p0 : q.cell? ⟨p, 0, none⟩ = some (.int .i64 ok) := by simp [World.cell?, hPq]
            have p1 : q.cell? ⟨p, 1, none⟩ = some (.string oc) := by simp [World.cell?, hPq]
            refine (pk _).mono ?_
            rintro e x0 ⟨rfl, hx0⟩
            rw [hx0]
            clear hx0 x0
            go_wp2_with fail
            refine (nothing_no _).mono ?_
            rintro e z ⟨rfl, Bz⟩
            have HMz : Hid (Sm 63 z G S') := HMq.out.below Bz HMq.out.lt
            have HBz : Hid (Below w.heap.size w z) := Kb.keepB HBq.out Bz
            have hPz := (Bz.block _ (Array.getElem?_eq_some_iff.1 hPq).1).trans hPq
            have pz0 : z.cell? ⟨p, 0, none⟩ = some (.int .i64 ok) := by simp [World.cell?, hPz]
            clear Bz HMq HBq hPq hPz hX x0 x1 x2 p0 p1
            go_wp2_with fail
            refine (pk _).mono ?_
            rintro e x0 ⟨rfl, hx0⟩
            rw [hx0]
            clear hx0 x0
            go_wp2_with fail
            refine (state_any HMz.out).mono ?_
            rintro e x0 ⟨rfl, hx0⟩
            rw [hx0]
            clear hx0 x0
            rw [E2.out]
            go_wp2_with fail
            refine (ready_any HMz.out).mono ?_
            rintro e x0 ⟨rfl, hx0⟩
            rw [hx0, show decide (S'.st = 3 ∨ S'.st = 4) = false by rw [E2.out]; rfl]
            clear hx0 x0
            go_wp2_with fail
            refine ⟨⟨i + 1, true, false, S', rfl, rfl, by simp, HC.out, HA1.out, .inr (.inl ⟨rfl, rfl, E2.out⟩), HOT.out, HMz.out, HBz.out⟩, ?_⟩
            simp only [intOf]
            have := HC.out
            omega
        · rcases (show oc = ⟨#[48, 48, 49]⟩ ∨ oc = ⟨#[48, 48, 50]⟩ ∨ oc = ⟨#[49, 48, 49]⟩ ∨ oc = ⟨#[51, 48, 49]⟩ ∨ (¬ oc.toList = [48, 48, 49] ∧ ¬ oc.toList = [48, 48, 50] ∧ ¬ oc.toList = [49, 48, 49] ∧ ¬ oc.toList = [51, 48, 49]) from codes oc) with rfl | rfl | rfl | rfl | ⟨h1, h2, h3, h4⟩
          · as_aux_lemma =>
              have E2 : S'.st = 3 := by rw [HA2.out, hs]; first | rfl | decide
              have E3 : sy = ⟨⟨#[48, 48, 49]⟩, ⟨#[48, 48]⟩, false⟩ := by rw [HA3.out, hs]; first | rfl | decide
              subst E3
              rw [show sayV ⟨⟨#[48, 48, 49]⟩, ⟨#[48, 48]⟩, false⟩ = .agg #[.string ⟨#[48, 48, 49]⟩, .string ⟨#[48, 48]⟩, .bool false] from rfl]
              have hPa : (y1.alloc (.cells #[.string ⟨#[48, 48, 49]⟩, .string ⟨#[48, 48]⟩, .bool false] 40)).heap[p]? = some (.cells #[.int .i64 ok, .string ⟨#[48, 48, 49]⟩, .string ob] 48) := (Below.heap_alloc _ _ _ (Array.getElem?_eq_some_iff.1 hP1.out).1).trans hP1.out
              have a0' : (y1.alloc (.cells #[.string ⟨#[48, 48, 49]⟩, .string ⟨#[48, 48]⟩, .bool false] 40)).cell? ⟨p, 0, none⟩ = some (.int .i64 ok) := by simp [World.cell?, hPa]
              replace E2 : Hid (S'.st = 3) := E2
              clear hPa HA2 HA3
              go_wp2_with fail
              obtain ⟨q, hq⟩ : ∃ q, y1.alloc (.cells #[.string ⟨#[48, 48, 49]⟩, .string ⟨#[48, 48]⟩, .bool false] 40) = q := ⟨_, rfl⟩
              have HMq : Hid (Sm 63 q G S') := hq ▸ HM1.out.alloc _
              have HBq : Hid (Below w.heap.size w q) := hq ▸ HB1.out.alloc HB1.out.size _
              have hX : q.heap[y1.heap.size]? = some (.cells #[.string ⟨#[48, 48, 49]⟩, .string ⟨#[48, 48]⟩, .bool false] 40) := hq ▸ Kb.h1_0 y1 _
              have hPq : q.heap[p]? = some (.cells #[.int .i64 ok, .string ⟨#[48, 48, 49]⟩, .string ob] 48) := hq ▸ (Below.heap_alloc _ _ _ (Array.getElem?_eq_some_iff.1 hP1.out).1).trans hP1.out
              obtain ⟨x, hx⟩ : ∃ x, y1.heap.size = x := ⟨_, rfl⟩
              rw [hx] at hX
              rw [hq, hx]
              clear hq hx HM1 HB1 hP1 a0'
              obtain ⟨x0, x1, x2, _⟩ := cells3 hX
              have p0 : q.cell? ⟨p, 0, none⟩ = some (.int .i64 ok) := by simp [World.cell?, hPq]
              have p1 : q.cell? ⟨p, 1, none⟩ = some (.string ⟨#[48, 48, 49]⟩) := by simp [World.cell?, hPq]
              refine (pk _).mono ?_
              rintro e x0 ⟨rfl, hx0⟩
              rw [hx0]
              clear hx0 x0
              go_wp2_with fail
              refine (pk _).mono ?_
              rintro e x0 ⟨rfl, hx0⟩
              rw [hx0]
              clear hx0 x0
              go_wp2_with fail
              refine (answers_any ⟨#[48, 48, 49]⟩ _ _).mono ?_
              rintro e z ⟨rfl, Bz⟩
              have HMz : Hid (Sm 63 z G S') := HMq.out.below Bz HMq.out.lt
              have HBz : Hid (Below w.heap.size w z) := Kb.keepB HBq.out Bz
              clear Bz HMq HBq hPq hX x0 x1 x2 p0 p1
              go_wp2_with fail
              refine (state_any HMz.out).mono ?_
              rintro e x0 ⟨rfl, hx0⟩
              rw [hx0]
              clear hx0 x0
              rw [E2.out]
              go_wp2_with fail
              refine (ready_any HMz.out).mono ?_
              rintro e x0 ⟨rfl, hx0⟩
              rw [hx0, show decide (S'.st = 3 ∨ S'.st = 4) = true by rw [E2.out]; rfl]
              clear hx0 x0
              go_wp2_with fail
              refine ⟨⟨i + 1, true, true, S', rfl, rfl, by simp, HC.out, HA1.out, .inr (.inr ⟨rfl, rfl, E2.out⟩), HOT.out, HMz.out, HBz.out⟩, ?_⟩
              simp only [intOf]
              have := HC.out
              omega
          · as_aux_lemma =>
              have E2 : S'.st = 1 := by rw [HA2.out, hs]; first | rfl | decide
              have E3 : sy = ⟨⟨#[48, 48, 50]⟩, ⟨#[48, 48]⟩, false⟩ := by rw [HA3.out, hs]; first | rfl | decide
              subst E3
              rw [show sayV ⟨⟨#[48, 48, 50]⟩, ⟨#[48, 48]⟩, false⟩ = .agg #[.string ⟨#[48, 48, 50]⟩, .string ⟨#[48, 48]⟩, .bool false] from rfl]
              have hPa : (y1.alloc (.cells #[.string ⟨#[48, 48, 50]⟩, .string ⟨#[48, 48]⟩, .bool false] 40)).heap[p]? = some (.cells #[.int .i64 ok, .string ⟨#[48, 48, 50]⟩, .string ob] 48) := (Below.heap_alloc _ _ _ (Array.getElem?_eq_some_iff.1 hP1.out).1).trans hP1.out
              have a0' : (y1.alloc (.cells #[.string ⟨#[48, 48, 50]⟩, .string ⟨#[48, 48]⟩, .bool false] 40)).cell? ⟨p, 0, none⟩ = some (.int .i64 ok) := by simp [World.cell?, hPa]
              replace E2 : Hid (S'.st = 1) := E2
              clear hPa HA2 HA3
              go_wp2_with fail
              obtain ⟨q, hq⟩ : ∃ q, y1.alloc (.cells #[.string ⟨#[48, 48, 50]⟩, .string ⟨#[48, 48]⟩, .bool false] 40) = q := ⟨_, rfl⟩
              have HMq : Hid (Sm 63 q G S') := hq ▸ HM1.out.alloc _
              have HBq : Hid (Below w.heap.size w q) := hq ▸ HB1.out.alloc HB1.out.size _
              have hX : q.heap[y1.heap.size]? = some (.cells #[.string ⟨#[48, 48, 50]⟩, .string ⟨#[48, 48]⟩, .bool false] 40) := hq ▸ Kb.h1_0 y1 _
              have hPq : q.heap[p]? = some (.cells #[.int .i64 ok, .string ⟨#[48, 48, 50]⟩, .string ob] 48) := hq ▸ (Below.heap_alloc _ _ _ (Array.getElem?_eq_some_iff.1 hP1.out).1).trans hP1.out
              obtain ⟨x, hx⟩ : ∃ x, y1.heap.size = x := ⟨_, rfl⟩
              rw [hx] at hX
              rw [hq, hx]
              clear hq hx HM1 HB1 hP1 a0'
              obtain ⟨x0, x1, x2, _⟩ := cells3 hX
              have p0 : q.cell? ⟨p, 0, none⟩ = some (.int .i64 ok) := by simp [World.cell?, hPq]
              have p1 : q.cell? ⟨p, 1, none⟩ = some (.string ⟨#[48, 48, 50]⟩) := by simp [World.cell?, hPq]
              refine (pk _).mono ?_
              rintro e x0 ⟨rfl, hx0⟩
              rw [hx0]
              clear hx0 x0
              go_wp2_with fail
              refine (pk _).mono ?_
              rintro e x0 ⟨rfl, hx0⟩
              rw [hx0]
              clear hx0 x0
              go_wp2_with fail
              refine (answers_any ⟨#[48, 48, 50]⟩ _ _).mono ?_
              rintro e z ⟨rfl, Bz⟩
              have HMz : Hid (Sm 63 z G S') := HMq.out.below Bz HMq.out.lt
              have HBz : Hid (Below w.heap.size w z) := Kb.keepB HBq.out Bz
              clear Bz HMq HBq hPq hX x0 x1 x2 p0 p1
              go_wp2_with fail
              refine (state_any HMz.out).mono ?_
              rintro e x0 ⟨rfl, hx0⟩
              rw [hx0]
              clear hx0 x0
              rw [E2.out]
              go_wp2_with fail
              refine (ready_any HMz.out).mono ?_
              rintro e x0 ⟨rfl, hx0⟩
              rw [hx0, show decide (S'.st = 3 ∨ S'.st = 4) = false by rw [E2.out]; rfl]
              clear hx0 x0
              go_wp2_with fail
              refine ⟨⟨i + 1, true, false, S', rfl, rfl, by simp, HC.out, HA1.out, .inr (.inl ⟨rfl, rfl, E2.out⟩), HOT.out, HMz.out, HBz.out⟩, ?_⟩
              simp only [intOf]
              have := HC.out
              omega
          · as_aux_lemma =>
              have E2 : S'.st = 1 := by rw [HA2.out, hs]; first | rfl | decide
              have E3 : sy = ⟨⟨#[49, 48, 49]⟩, ⟨#[48, 48]⟩, false⟩ := by rw [HA3.out, hs]; first | rfl | decide
              subst E3
              rw [show sayV ⟨⟨#[49, 48, 49]⟩, ⟨#[48, 48]⟩, false⟩ = .agg #[.string ⟨#[49, 48, 49]⟩, .string ⟨#[48, 48]⟩, .bool false] from rfl]
              have hPa : (y1.alloc (.cells #[.string ⟨#[49, 48, 49]⟩, .string ⟨#[48, 48]⟩, .bool false] 40)).heap[p]? = some (.cells #[.int .i64 ok, .string ⟨#[49, 48, 49]⟩, .string ob] 48) := (Below.heap_alloc _ _ _ (Array.getElem?_eq_some_iff.1 hP1.out).1).trans hP1.out
              have a0' : (y1.alloc (.cells #[.string ⟨#[49, 48, 49]⟩, .string ⟨#[48, 48]⟩, .bool false] 40)).cell? ⟨p, 0, none⟩ = some (.int .i64 ok) := by simp [World.cell?, hPa]
              replace E2 : Hid (S'.st = 1) := E2
              clear hPa HA2 HA3
              go_wp2_with fail
              obtain ⟨q, hq⟩ : ∃ q, y1.alloc (.cells #[.string ⟨#[49, 48, 49]⟩, .string ⟨#[48, 48]⟩, .bool false] 40) = q := ⟨_, rfl⟩
              have HMq : Hid (Sm 63 q G S') := hq ▸ HM1.out.alloc _
              have HBq : Hid (Below w.heap.size w q) := hq ▸ HB1.out.alloc HB1.out.size _
              have hX : q.heap[y1.heap.size]? = some (.cells #[.string ⟨#[49, 48, 49]⟩, .string ⟨#[48, 48]⟩, .bool false] 40) := hq ▸ Kb.h1_0 y1 _
              have hPq : q.heap[p]? = some (.cells #[.int .i64 ok, .string ⟨#[49, 48, 49]⟩, .string ob] 48) := hq ▸ (Below.heap_alloc _ _ _ (Array.getElem?_eq_some_iff.1 hP1.out).1).trans hP1.out
              obtain ⟨x, hx⟩ : ∃ x, y1.heap.size = x := ⟨_, rfl⟩
              rw [hx] at hX
              rw [hq, hx]
              clear hq hx HM1 HB1 hP1 a0'
              obtain ⟨x0, x1, x2, _⟩ := cells3 hX
              have p0 : q.cell? ⟨p, 0, none⟩ = some (.int .i64 ok) := by simp [World.cell?, hPq]
              have p1 : q.cell? ⟨p, 1, none⟩ = some (.string ⟨#[49, 48, 49]⟩) := by simp [World.cell?, hPq]
              refine (pk _).mono ?_
              rintro e x0 ⟨rfl, hx0⟩
              rw [hx0]
              clear hx0 x0
              go_wp2_with fail
              refine (pk _).mono ?_
              rintro e x0 ⟨rfl, hx0⟩
              rw [hx0]
              clear hx0 x0
              go_wp2_with fail
              refine (answers_any ⟨#[49, 48, 49]⟩ _ _).mono ?_
              rintro e z ⟨rfl, Bz⟩
              have HMz : Hid (Sm 63 z G S') := HMq.out.below Bz HMq.out.lt
              have HBz : Hid (Below w.heap.size w z) := Kb.keepB HBq.out Bz
              clear Bz HMq HBq hPq hX x0 x1 x2 p0 p1
              go_wp2_with fail
              refine (state_any HMz.out).mono ?_
              rintro e x0 ⟨rfl, hx0⟩
              rw [hx0]
              clear hx0 x0
              rw [E2.out]
              go_wp2_with fail
              refine (ready_any HMz.out).mono ?_
              rintro e x0 ⟨rfl, hx0⟩
              rw [hx0, show decide (S'.st = 3 ∨ S'.st = 4) = false by rw [E2.out]; rfl]
              clear hx0 x0
              go_wp2_with fail
              refine ⟨⟨i + 1, true, false, S', rfl, rfl, by simp, HC.out, HA1.out, .inr (.inl ⟨rfl, rfl, E2.out⟩), HOT.out, HMz.out, HBz.out⟩, ?_⟩
              simp only [intOf]
              have := HC.out
              omega
          · as_aux_lemma =>
              have E2 : S'.st = 1 := by rw [HA2.out, hs]; first | rfl | decide
              have E3 : sy = ⟨⟨#[51, 48, 49]⟩, ⟨#[48, 48]⟩, false⟩ := by rw [HA3.out, hs]; first | rfl | decide
              subst E3
              rw [show sayV ⟨⟨#[51, 48, 49]⟩, ⟨#[48, 48]⟩, false⟩ = .agg #[.string ⟨#[51, 48, 49]⟩, .string ⟨#[48, 48]⟩, .bool false] from rfl]
              have hPa : (y1.alloc (.cells #[.string ⟨#[51, 48, 49]⟩, .string ⟨#[48, 48]⟩, .bool false] 40)).heap[p]? = some (.cells #[.int .i64 ok, .string ⟨#[51, 48, 49]⟩, .string ob] 48) := (Below.heap_alloc _ _ _ (Array.getElem?_eq_some_iff.1 hP1.out).1).trans hP1.out
              have a0' : (y1.alloc (.cells #[.string ⟨#[51, 48, 49]⟩, .string ⟨#[48, 48]⟩, .bool false] 40)).cell? ⟨p, 0, none⟩ = some (.int .i64 ok) := by simp [World.cell?, hPa]
              replace E2 : Hid (S'.st = 1) := E2
              clear hPa HA2 HA3
              go_wp2_with fail
              obtain ⟨q, hq⟩ : ∃ q, y1.alloc (.cells #[.string ⟨#[51, 48, 49]⟩, .string ⟨#[48, 48]⟩, .bool false] 40) = q := ⟨_, rfl⟩
              have HMq : Hid (Sm 63 q G S') := hq ▸ HM1.out.alloc _
              have HBq : Hid (Below w.heap.size w q) := hq ▸ HB1.out.alloc HB1.out.size _
              have hX : q.heap[y1.heap.size]? = some (.cells #[.string ⟨#[51, 48, 49]⟩, .string ⟨#[48, 48]⟩, .bool false] 40) := hq ▸ Kb.h1_0 y1 _
              have hPq : q.heap[p]? = some (.cells #[.int .i64 ok, .string ⟨#[51, 48, 49]⟩, .string ob] 48) := hq ▸ (Below.heap_alloc _ _ _ (Array.getElem?_eq_some_iff.1 hP1.out).1).trans hP1.out
              obtain ⟨x, hx⟩ : ∃ x, y1.heap.size = x := ⟨_, rfl⟩
              rw [hx] at hX
              rw [hq, hx]
              clear hq hx HM1 HB1 hP1 a0'
              obtain ⟨x0, x1, x2, _⟩ := cells3 hX
              have p0 : q.cell? ⟨p, 0, none⟩ = some (.int .i64 ok) := by simp [World.cell?, hPq]
              have p1 : q.cell? ⟨p, 1, none⟩ = some (.string ⟨#[51, 48, 49]⟩) := by simp [World.cell?, hPq]
              refine (pk _).mono ?_
              rintro e x0 ⟨rfl, hx0⟩
              rw [hx0]
              clear hx0 x0
              go_wp2_with fail
              refine (pk _).mono ?_
              rintro e x0 ⟨rfl, hx0⟩
              rw [hx0]
              clear hx0 x0
              go_wp2_with fail
              refine (answers_any ⟨#[51, 48, 49]⟩ _ _).mono ?_
              rintro e z ⟨rfl, Bz⟩
              have HMz : Hid (Sm 63 z G S') := HMq.out.below Bz HMq.out.lt
              have HBz : Hid (Below w.heap.size w z) := Kb.keepB HBq.out Bz
              clear Bz HMq HBq hPq hX x0 x1 x2 p0 p1
              go_wp2_with fail
              refine (state_any HMz.out).mono ?_
              rintro e x0 ⟨rfl, hx0⟩
              rw [hx0]
              clear hx0 x0
              rw [E2.out]
              go_wp2_with fail
              refine (ready_any HMz.out).mono ?_
              rintro e x0 ⟨rfl, hx0⟩
              rw [hx0, show decide (S'.st = 3 ∨ S'.st = 4) = false by rw [E2.out]; rfl]
              clear hx0 x0
              go_wp2_with fail
              refine ⟨⟨i + 1, true, false, S', rfl, rfl, by simp, HC.out, HA1.out, .inr (.inl ⟨rfl, rfl, E2.out⟩), HOT.out, HMz.out, HBz.out⟩, ?_⟩
              simp only [intOf]
              have := HC.out
              omega
          · as_aux_lemma =>
              have n1 : oc ≠ t001 := ne_code h1
              have n2 : oc ≠ t002 := ne_code h2
              have n3 : oc ≠ t101 := ne_code h3
              have n4 : oc ≠ t301 := ne_code h4
              have b1 : (oc.toList == [48, 48, 49]) = false := by simpa using h1
              have b2 : (oc.toList == [48, 48, 50]) = false := by simpa using h2
              have b3 : (oc.toList == [49, 48, 49]) = false := by simpa using h3
              have b4 : (oc.toList == [51, 48, 49]) = false := by simpa using h4
              have E2 : S'.st = 1 := by rw [HA2.out, hs]; first | rfl | decide | simp [nst, nsay, code2, n1, n2, n3, n4, t12]
              have E3 : sy = ⟨oc, ⟨#[49, 50]⟩, false⟩ := by rw [HA3.out, hs]; first | rfl | decide | simp [nst, nsay, code2, n1, n2, n3, n4, t12]
              subst E3
              rw [show sayV ⟨oc, ⟨#[49, 50]⟩, false⟩ = .agg #[.string oc, .string ⟨#[49, 50]⟩, .bool false] from rfl]
              have hPa : (y1.alloc (.cells #[.string oc, .string ⟨#[49, 50]⟩, .bool false] 40)).heap[p]? = some (.cells #[.int .i64 ok, .string oc, .string ob] 48) := (Below.heap_alloc _ _ _ (Array.getElem?_eq_some_iff.1 hP1.out).1).trans hP1.out
              have a0' : (y1.alloc (.cells #[.string oc, .string ⟨#[49, 50]⟩, .bool false] 40)).cell? ⟨p, 0, none⟩ = some (.int .i64 ok) := by simp [World.cell?, hPa]
              replace E2 : Hid (S'.st = 1) := E2
              clear hPa HA2 HA3
              go_wp2_with fail
              obtain ⟨q, hq⟩ : ∃ q, y1.alloc (.cells #[.string oc, .string ⟨#[49, 50]⟩, .bool false] 40) = q := ⟨_, rfl⟩
              have HMq : Hid (Sm 63 q G S') := hq ▸ HM1.out.alloc _
              have HBq : Hid (Below w.heap.size w q) := hq ▸ HB1.out.alloc HB1.out.size _
              have hX : q.heap[y1.heap.size]? = some (.cells #[.string oc, .string ⟨#[49, 50]⟩, .bool false] 40) := hq ▸ Kb.h1_0 y1 _
              have hPq : q.heap[p]? = some (.cells #[.int .i64 ok, .string oc, .string ob] 48) := hq ▸ (Below.heap_alloc _ _ _ (Array.getElem?_eq_some_iff.1 hP1.out).1).trans hP1.out
              obtain ⟨x, hx⟩ : ∃ x, y1.heap.size = x := ⟨_, rfl⟩
              rw [hx] at hX
              rw [hq, hx]
              clear hq hx HM1 HB1 hP1 a0'
              obtain ⟨x0, x1, x2, _⟩ := cells3 hX
              have p0 : q.cell? ⟨p, 0, none⟩ = some (.int .i64 ok) := by simp [World.cell?, hPq]
              have p1 : q.cell? ⟨p, 1, none⟩ = some (.string oc) := by simp [World.cell?, hPq]
              refine (pk _).mono ?_
              rintro e x0 ⟨rfl, hx0⟩
              rw [hx0]
              clear hx0 x0
              go_wp2_with fail
              refine (pk _).mono ?_
              rintro e x0 ⟨rfl, hx0⟩
              rw [hx0]
              clear hx0 x0
              go_wp2_with fail
              refine (answers_any oc _ _).mono ?_
              rintro e z ⟨rfl, Bz⟩
              have HMz : Hid (Sm 63 z G S') := HMq.out.below Bz HMq.out.lt
              have HBz : Hid (Below w.heap.size w z) := Kb.keepB HBq.out Bz
              clear Bz HMq HBq hPq hX x0 x1 x2 p0 p1
              go_wp2_with fail
              refine (state_any HMz.out).mono ?_
              rintro e x0 ⟨rfl, hx0⟩
              rw [hx0]
              clear hx0 x0
              rw [E2.out]
              go_wp2_with fail
              refine (ready_any HMz.out).mono ?_
              rintro e x0 ⟨rfl, hx0⟩
              rw [hx0, show decide (S'.st = 3 ∨ S'.st = 4) = false by rw [E2.out]; rfl]
              clear hx0 x0
              go_wp2_with fail
              refine ⟨⟨i + 1, true, false, S', rfl, rfl, by simp, HC.out, HA1.out, .inr (.inl ⟨rfl, rfl, E2.out⟩), HOT.out, HMz.out, HBz.out⟩, ?_⟩
              simp only [intOf]
              have := HC.out
              omega
        · as_aux_lemma =>
            have E2 : S'.st = 1 := by rw [HA2.out, hs]; first | rfl | decide
            have E3 : sy = no := by rw [HA3.out, hs]; first | rfl | decide
            subst E3
            rw [show sayV no = .agg #[.string ⟨#[]⟩, .string ⟨#[]⟩, .bool false] from rfl]
            have hPa : (y1.alloc (.cells #[.string ⟨#[]⟩, .string ⟨#[]⟩, .bool false] 40)).heap[p]? = some (.cells #[.int .i64 ok, .string oc, .string ob] 48) := (Below.heap_alloc _ _ _ (Array.getElem?_eq_some_iff.1 hP1.out).1).trans hP1.out
            have a0' : (y1.alloc (.cells #[.string ⟨#[]⟩, .string ⟨#[]⟩, .bool false] 40)).cell? ⟨p, 0, none⟩ = some (.int .i64 ok) := by simp [World.cell?, hPa]
            replace E2 : Hid (S'.st = 1) := E2
            clear hPa HA2 HA3
            go_wp2_with fail
            obtain ⟨q, hq⟩ : ∃ q, y1.alloc (.cells #[.string ⟨#[]⟩, .string ⟨#[]⟩, .bool false] 40) = q := ⟨_, rfl⟩
            have HMq : Hid (Sm 63 q G S') := hq ▸ HM1.out.alloc _
            have HBq : Hid (Below w.heap.size w q) := hq ▸ HB1.out.alloc HB1.out.size _
            have hX : q.heap[y1.heap.size]? = some (.cells #[.string ⟨#[]⟩, .string ⟨#[]⟩, .bool false] 40) := hq ▸ Kb.h1_0 y1 _
            have hPq : q.heap[p]? = some (.cells #[.int .i64 ok, .string oc, .string ob] 48) := hq ▸ (Below.heap_alloc _ _ _ (Array.getElem?_eq_some_iff.1 hP1.out).1).trans hP1.out
            obtain ⟨x, hx⟩ : ∃ x, y1.heap.size = x := ⟨_, rfl⟩
            rw [hx] at hX
            rw [hq, hx]
            clear hq hx HM1 HB1 hP1 a0'
            obtain ⟨x0, x1, x2, _⟩ := cells3 hX
            have p0 : q.cell? ⟨p, 0, none⟩ = some (.int .i64 ok) := by simp [World.cell?, hPq]
            have p1 : q.cell? ⟨p, 1, none⟩ = some (.string oc) := by simp [World.cell?, hPq]
            refine (pk _).mono ?_
            rintro e x0 ⟨rfl, hx0⟩
            rw [hx0]
            clear hx0 x0
            go_wp2_with fail
            refine (nothing_no _).mono ?_
            rintro e z ⟨rfl, Bz⟩
            have HMz : Hid (Sm 63 z G S') := HMq.out.below Bz HMq.out.lt
            have HBz : Hid (Below w.heap.size w z) := Kb.keepB HBq.out Bz
            have hPz := (Bz.block _ (Array.getElem?_eq_some_iff.1 hPq).1).trans hPq
            have pz0 : z.cell? ⟨p, 0, none⟩ = some (.int .i64 ok) := by simp [World.cell?, hPz]
            clear Bz HMq HBq hPq hPz hX x0 x1 x2 p0 p1
            go_wp2_with fail
            refine (pk _).mono ?_
            rintro e x0 ⟨rfl, hx0⟩
            rw [hx0]
            clear hx0 x0
            go_wp2_with fail
            refine (state_any HMz.out).mono ?_
            rintro e x0 ⟨rfl, hx0⟩
            rw [hx0]
            clear hx0 x0
            rw [E2.out]
            go_wp2_with fail
            refine (ready_any HMz.out).mono ?_
            rintro e x0 ⟨rfl, hx0⟩
            rw [hx0, show decide (S'.st = 3 ∨ S'.st = 4) = false by rw [E2.out]; rfl]
            clear hx0 x0
            go_wp2_with fail
            refine ⟨⟨i + 1, true, false, S', rfl, rfl, by simp, HC.out, HA1.out, .inr (.inl ⟨rfl, rfl, E2.out⟩), HOT.out, HMz.out, HBz.out⟩, ?_⟩
            simp only [intOf]
            have := HC.out
            omega
        · as_aux_lemma =>
            have E2 : S'.st = 1 := by rw [HA2.out, hs]; first | rfl | decide
            have E3 : sy = no := by rw [HA3.out, hs]; first | rfl | decide
            subst E3
            rw [show sayV no = .agg #[.string ⟨#[]⟩, .string ⟨#[]⟩, .bool false] from rfl]
            have hPa : (y1.alloc (.cells #[.string ⟨#[]⟩, .string ⟨#[]⟩, .bool false] 40)).heap[p]? = some (.cells #[.int .i64 ok, .string oc, .string ob] 48) := (Below.heap_alloc _ _ _ (Array.getElem?_eq_some_iff.1 hP1.out).1).trans hP1.out
            have a0' : (y1.alloc (.cells #[.string ⟨#[]⟩, .string ⟨#[]⟩, .bool false] 40)).cell? ⟨p, 0, none⟩ = some (.int .i64 ok) := by simp [World.cell?, hPa]
            replace E2 : Hid (S'.st = 1) := E2
            clear hPa HA2 HA3
            go_wp2_with fail
            obtain ⟨q, hq⟩ : ∃ q, y1.alloc (.cells #[.string ⟨#[]⟩, .string ⟨#[]⟩, .bool false] 40) = q := ⟨_, rfl⟩
            have HMq : Hid (Sm 63 q G S') := hq ▸ HM1.out.alloc _
            have HBq : Hid (Below w.heap.size w q) := hq ▸ HB1.out.alloc HB1.out.size _
            have hX : q.heap[y1.heap.size]? = some (.cells #[.string ⟨#[]⟩, .string ⟨#[]⟩, .bool false] 40) := hq ▸ Kb.h1_0 y1 _
            have hPq : q.heap[p]? = some (.cells #[.int .i64 ok, .string oc, .string ob] 48) := hq ▸ (Below.heap_alloc _ _ _ (Array.getElem?_eq_some_iff.1 hP1.out).1).trans hP1.out
            obtain ⟨x, hx⟩ : ∃ x, y1.heap.size = x := ⟨_, rfl⟩
            rw [hx] at hX
            rw [hq, hx]
            clear hq hx HM1 HB1 hP1 a0'
            obtain ⟨x0, x1, x2, _⟩ := cells3 hX
            have p0 : q.cell? ⟨p, 0, none⟩ = some (.int .i64 ok) := by simp [World.cell?, hPq]
            have p1 : q.cell? ⟨p, 1, none⟩ = some (.string oc) := by simp [World.cell?, hPq]
            refine (pk _).mono ?_
            rintro e x0 ⟨rfl, hx0⟩
            rw [hx0]
            clear hx0 x0
            go_wp2_with fail
            refine (nothing_no _).mono ?_
            rintro e z ⟨rfl, Bz⟩
            have HMz : Hid (Sm 63 z G S') := HMq.out.below Bz HMq.out.lt
            have HBz : Hid (Below w.heap.size w z) := Kb.keepB HBq.out Bz
            have hPz := (Bz.block _ (Array.getElem?_eq_some_iff.1 hPq).1).trans hPq
            have pz0 : z.cell? ⟨p, 0, none⟩ = some (.int .i64 ok) := by simp [World.cell?, hPz]
            clear Bz HMq HBq hPq hPz hX x0 x1 x2 p0 p1
            go_wp2_with fail
            refine (pk _).mono ?_
            rintro e x0 ⟨rfl, hx0⟩
            rw [hx0]
            clear hx0 x0
            go_wp2_with fail
            refine (state_any HMz.out).mono ?_
            rintro e x0 ⟨rfl, hx0⟩
            rw [hx0]
            clear hx0 x0
            rw [E2.out]
            go_wp2_with fail
            refine (ready_any HMz.out).mono ?_
            rintro e x0 ⟨rfl, hx0⟩
            rw [hx0, show decide (S'.st = 3 ∨ S'.st = 4) = false by rw [E2.out]; rfl]
            clear hx0 x0
            go_wp2_with fail
            refine ⟨⟨i + 1, true, false, S', rfl, rfl, by simp, HC.out, HA1.out, .inr (.inl ⟨rfl, rfl, E2.out⟩), HOT.out, HMz.out, HBz.out⟩, ?_⟩
            simp only [intOf]
            have := HC.out
            omega
        · as_aux_lemma =>
            have E2 : S'.st = 1 := by rw [HA2.out, hs]; first | rfl | decide
            have E3 : sy = no := by rw [HA3.out, hs]; first | rfl | decide
            subst E3
            rw [show sayV no = .agg #[.string ⟨#[]⟩, .string ⟨#[]⟩, .bool false] from rfl]
            have hPa : (y1.alloc (.cells #[.string ⟨#[]⟩, .string ⟨#[]⟩, .bool false] 40)).heap[p]? = some (.cells #[.int .i64 ok, .string oc, .string ob] 48) := (Below.heap_alloc _ _ _ (Array.getElem?_eq_some_iff.1 hP1.out).1).trans hP1.out
            have a0' : (y1.alloc (.cells #[.string ⟨#[]⟩, .string ⟨#[]⟩, .bool false] 40)).cell? ⟨p, 0, none⟩ = some (.int .i64 ok) := by simp [World.cell?, hPa]
            replace E2 : Hid (S'.st = 1) := E2
            clear hPa HA2 HA3
            go_wp2_with fail
            obtain ⟨q, hq⟩ : ∃ q, y1.alloc (.cells #[.string ⟨#[]⟩, .string ⟨#[]⟩, .bool false] 40) = q := ⟨_, rfl⟩
            have HMq : Hid (Sm 63 q G S') := hq ▸ HM1.out.alloc _
            have HBq : Hid (Below w.heap.size w q) := hq ▸ HB1.out.alloc HB1.out.size _
            have hX : q.heap[y1.heap.size]? = some (.cells #[.string ⟨#[]⟩, .string ⟨#[]⟩, .bool false] 40) := hq ▸ Kb.h1_0 y1 _
            have hPq : q.heap[p]? = some (.cells #[.int .i64 ok, .string oc, .string ob] 48) := hq ▸ (Below.heap_alloc _ _ _ (Array.getElem?_eq_some_iff.1 hP1.out).1).trans hP1.out
            obtain ⟨x, hx⟩ : ∃ x, y1.heap.size = x := ⟨_, rfl⟩
            rw [hx] at hX
            rw [hq, hx]
            clear hq hx HM1 HB1 hP1 a0'
            obtain ⟨x0, x1, x2, _⟩ := cells3 hX
            have p0 : q.cell? ⟨p, 0, none⟩ = some (.int .i64 ok) := by simp [World.cell?, hPq]
            have p1 : q.cell? ⟨p, 1, none⟩ = some (.string oc) := by simp [World.cell?, hPq]
            refine (pk _).mono ?_
            rintro e x0 ⟨rfl, hx0⟩
            rw [hx0]
            clear hx0 x0
            go_wp2_with fail
            refine (nothing_no _).mono ?_
            rintro e z ⟨rfl, Bz⟩
            have HMz : Hid (Sm 63 z G S') := HMq.out.below Bz HMq.out.lt
            have HBz : Hid (Below w.heap.size w z) := Kb.keepB HBq.out Bz
            have hPz := (Bz.block _ (Array.getElem?_eq_some_iff.1 hPq).1).trans hPq
            have pz0 : z.cell? ⟨p, 0, none⟩ = some (.int .i64 ok) := by simp [World.cell?, hPz]
            clear Bz HMq HBq hPq hPz hX x0 x1 x2 p0 p1
            go_wp2_with fail
            refine (pk _).mono ?_
            rintro e x0 ⟨rfl, hx0⟩
            rw [hx0]
            clear hx0 x0
            go_wp2_with fail
            refine (state_any HMz.out).mono ?_
            rintro e x0 ⟨rfl, hx0⟩
            rw [hx0]
            clear hx0 x0
            rw [E2.out]
            go_wp2_with fail
            refine (ready_any HMz.out).mono ?_
            rintro e x0 ⟨rfl, hx0⟩
            rw [hx0, show decide (S'.st = 3 ∨ S'.st = 4) = false by rw [E2.out]; rfl]
            clear hx0 x0
            go_wp2_with fail
            refine ⟨⟨i + 1, true, false, S', rfl, rfl, by simp, HC.out, HA1.out, .inr (.inl ⟨rfl, rfl, E2.out⟩), HOT.out, HMz.out, HBz.out⟩, ?_⟩
            simp only [intOf]
            have := HC.out
            omega
        · as_aux_lemma =>
            have E2 : S'.st = 0 := by rw [HA2.out, hs]; first | rfl | decide
            have E3 : sy = no := by rw [HA3.out, hs]; first | rfl | decide
            subst E3
            rw [show sayV no = .agg #[.string ⟨#[]⟩, .string ⟨#[]⟩, .bool false] from rfl]
            have hPa : (y1.alloc (.cells #[.string ⟨#[]⟩, .string ⟨#[]⟩, .bool false] 40)).heap[p]? = some (.cells #[.int .i64 ok, .string oc, .string ob] 48) := (Below.heap_alloc _ _ _ (Array.getElem?_eq_some_iff.1 hP1.out).1).trans hP1.out
            have a0' : (y1.alloc (.cells #[.string ⟨#[]⟩, .string ⟨#[]⟩, .bool false] 40)).cell? ⟨p, 0, none⟩ = some (.int .i64 ok) := by simp [World.cell?, hPa]
            replace E2 : Hid (S'.st = 0) := E2
            clear hPa HA2 HA3
            go_wp2_with fail
            obtain ⟨q, hq⟩ : ∃ q, y1.alloc (.cells #[.string ⟨#[]⟩, .string ⟨#[]⟩, .bool false] 40) = q := ⟨_, rfl⟩
            have HMq : Hid (Sm 63 q G S') := hq ▸ HM1.out.alloc _
            have HBq : Hid (Below w.heap.size w q) := hq ▸ HB1.out.alloc HB1.out.size _
            have hX : q.heap[y1.heap.size]? = some (.cells #[.string ⟨#[]⟩, .string ⟨#[]⟩, .bool false] 40) := hq ▸ Kb.h1_0 y1 _
            have hPq : q.heap[p]? = some (.cells #[.int .i64 ok, .string oc, .string ob] 48) := hq ▸ (Below.heap_alloc _ _ _ (Array.getElem?_eq_some_iff.1 hP1.out).1).trans hP1.out
            obtain ⟨x, hx⟩ : ∃ x, y1.heap.size = x := ⟨_, rfl⟩
            rw [hx] at hX
            rw [hq, hx]
            clear hq hx HM1 HB1 hP1 a0'
            obtain ⟨x0, x1, x2, _⟩ := cells3 hX
            have p0 : q.cell? ⟨p, 0, none⟩ = some (.int .i64 ok) := by simp [World.cell?, hPq]
            have p1 : q.cell? ⟨p, 1, none⟩ = some (.string oc) := by simp [World.cell?, hPq]
            refine (pk _).mono ?_
            rintro e x0 ⟨rfl, hx0⟩
            rw [hx0]
            clear hx0 x0
            go_wp2_with fail
            refine (nothing_no _).mono ?_
            rintro e z ⟨rfl, Bz⟩
            have HMz : Hid (Sm 63 z G S') := HMq.out.below Bz HMq.out.lt
            have HBz : Hid (Below w.heap.size w z) := Kb.keepB HBq.out Bz
            have hPz := (Bz.block _ (Array.getElem?_eq_some_iff.1 hPq).1).trans hPq
            have pz0 : z.cell? ⟨p, 0, none⟩ = some (.int .i64 ok) := by simp [World.cell?, hPz]
            clear Bz HMq HBq hPq hPz hX x0 x1 x2 p0 p1
            go_wp2_with fail
            refine (pk _).mono ?_
            rintro e x0 ⟨rfl, hx0⟩
            rw [hx0]
            clear hx0 x0
            go_wp2_with fail
            refine (state_any HMz.out).mono ?_
            rintro e x0 ⟨rfl, hx0⟩
            rw [hx0]
            clear hx0 x0
            rw [E2.out]
            go_wp2_with fail
            refine (ready_any HMz.out).mono ?_
            rintro e x0 ⟨rfl, hx0⟩
            rw [hx0, show decide (S'.st = 3 ∨ S'.st = 4) = false by rw [E2.out]; rfl]
            clear hx0 x0
            go_wp2_with fail
            refine ⟨⟨i + 1, false, false, S', rfl, rfl, by simp, HC.out, HA1.out, .inl ⟨rfl, rfl, E2.out⟩, HOT.out, HMz.out, HBz.out⟩, ?_⟩
            simp only [intOf]
            have := HC.out
            omega
      · rcases HKK.out with rfl | rfl | rfl | rfl | rfl | rfl
        · as_aux_lemma =>
            have E2 : S'.st = 3 := by rw [HA2.out, hs]; first | rfl | decide
            have E3 : sy = no := by rw [HA3.out, hs]; first | rfl | decide
            subst E3
            rw [show sayV no = .agg #[.string ⟨#[]⟩, .string ⟨#[]⟩, .bool false] from rfl]
            have hPa : (y1.alloc (.cells #[.string ⟨#[]⟩, .string ⟨#[]⟩, .bool false] 40)).heap[p]? = some (.cells #[.int .i64 ok, .string oc, .string ob] 48) := (Below.heap_alloc _ _ _ (Array.getElem?_eq_some_iff.1 hP1.out).1).trans hP1.out
            have a0' : (y1.alloc (.cells #[.string ⟨#[]⟩, .string ⟨#[]⟩, .bool false] 40)).cell? ⟨p, 0, none⟩ = some (.int .i64 ok) := by simp [World.cell?, hPa]
            replace E2 : Hid (S'.st = 3) := E2
            clear hPa HA2 HA3
            go_wp2_with fail
            obtain ⟨q, hq⟩ : ∃ q, y1.alloc (.cells #[.string ⟨#[]⟩, .string ⟨#[]⟩, .bool false] 40) = q := ⟨_, rfl⟩
            have HMq : Hid (Sm 63 q G S') := hq ▸ HM1.out.alloc _
            have HBq : Hid (Below w.heap.size w q) := hq ▸ HB1.out.alloc HB1.out.size _
            have hX : q.heap[y1.heap.size]? = some (.cells #[.string ⟨#[]⟩, .string ⟨#[]⟩, .bool false] 40) := hq ▸ Kb.h1_0 y1 _
            have hPq : q.heap[p]? = some (.cells #[.int .i64 ok, .string oc, .string ob] 48) := hq ▸ (Below.heap_alloc _ _ _ (Array.getElem?_eq_some_iff.1 hP1.out).1).trans hP1.out
            obtain ⟨x, hx⟩ : ∃ x, y1.heap.size = x := ⟨_, rfl⟩
            rw [hx] at hX
            rw [hq, hx]
            clear hq hx HM1 HB1 hP1 a0'
            obtain ⟨x0, x1, x2, _⟩ := cells3 hX
            have p0 : q.cell? ⟨p, 0, none⟩ = some (.int .i64 ok) := by simp [World.cell?, hPq]
            have p1 : q.cell? ⟨p, 1, none⟩ = some (.string oc) := by simp [World.cell?, hPq]
            refine (pk _).mono ?_
            rintro e x0 ⟨rfl, hx0⟩
            rw [hx0]
            clear hx0 x0
            go_wp2_with fail
            refine (nothing_no _).mono ?_
            rintro e z ⟨rfl, Bz⟩
            have HMz : Hid (Sm 63 z G S') := HMq.out.below Bz HMq.out.lt
            have HBz : Hid (Below w.heap.size w z) := Kb.keepB HBq.out Bz
            have hPz := (Bz.block _ (Array.getElem?_eq_some_iff.1 hPq).1).trans hPq
            have pz0 : z.cell? ⟨p, 0, none⟩ = some (.int .i64 ok) := by simp [World.cell?, hPz]
            clear Bz HMq HBq hPq hPz hX x0 x1 x2 p0 p1
            go_wp2_with fail
            refine (pk _).mono ?_
            rintro e x0 ⟨rfl, hx0⟩
            rw [hx0]
            clear hx0 x0
            go_wp2_with fail
            refine (state_any HMz.out).mono ?_
            rintro e x0 ⟨rfl, hx0⟩
            rw [hx0]
            clear hx0 x0
            rw [E2.out]
            go_wp2_with fail
            refine (ready_any HMz.out).mono ?_
            rintro e x0 ⟨rfl, hx0⟩
            rw [hx0, show decide (S'.st = 3 ∨ S'.st = 4) = true by rw [E2.out]; rfl]
            clear hx0 x0
            go_wp2_with fail
            refine ⟨⟨i + 1, true, true, S', rfl, rfl, by simp, HC.out, HA1.out, .inr (.inr ⟨rfl, rfl, E2.out⟩), HOT.out, HMz.out, HBz.out⟩, ?_⟩
            simp only [intOf]
            have := HC.out
            omega
        · rcases (show oc = ⟨#[48, 48, 49]⟩ ∨ oc = ⟨#[48, 48, 50]⟩ ∨ oc = ⟨#[49, 48, 49]⟩ ∨ oc = ⟨#[51, 48, 49]⟩ ∨ (¬ oc.toList = [48, 48, 49] ∧ ¬ oc.toList = [48, 48, 50] ∧ ¬ oc.toList = [49, 48, 49] ∧ ¬ oc.toList = [51, 48, 49]) from codes oc) with rfl | rfl | rfl | rfl | ⟨h1, h2, h3, h4⟩
          · as_aux_lemma =>
              have E2 : S'.st = 3 := by rw [HA2.out, hs]; first | rfl | decide
              have E3 : sy = ⟨⟨#[48, 48, 49]⟩, ⟨#[48, 48]⟩, false⟩ := by rw [HA3.out, hs]; first | rfl | decide
              subst E3
              rw [show sayV ⟨⟨#[48, 48, 49]⟩, ⟨#[48, 48]⟩, false⟩ = .agg #[.string ⟨#[48, 48, 49]⟩, .string ⟨#[48, 48]⟩, .bool false] from rfl]
              have hPa : (y1.alloc (.cells #[.string ⟨#[48, 48, 49]⟩, .string ⟨#[48, 48]⟩, .bool false] 40)).heap[p]? = some (.cells #[.int .i64 ok, .string ⟨#[48, 48, 49]⟩, .string ob] 48) := (Below.heap_alloc _ _ _ (Array.getElem?_eq_some_iff.1 hP1.out).1).trans hP1.out
              have a0' : (y1.alloc (.cells #[.string ⟨#[48, 48, 49]⟩, .string ⟨#[48, 48]⟩, .bool false] 40)).cell? ⟨p, 0, none⟩ = some (.int .i64 ok) := by simp [World.cell?, hPa]
              replace E2 : Hid (S'.st = 3) := E2
              clear hPa HA2 HA3
              go_wp2_with fail
              obtain ⟨q, hq⟩ : ∃ q, y1.alloc (.cells #[.string ⟨#[48, 48, 49]⟩, .string ⟨#[48, 48]⟩, .bool false] 40) = q := ⟨_, rfl⟩
              have HMq : Hid (Sm 63 q G S') := hq ▸ HM1.out.alloc _
              have HBq : Hid (Below w.heap.size w q) := hq ▸ HB1.out.alloc HB1.out.size _
              have hX : q.heap[y1.heap.size]? = some (.cells #[.string ⟨#[48, 48, 49]⟩, .string ⟨#[48, 48]⟩, .bool false] 40) := hq ▸ Kb.h1_0 y1 _
              have hPq : q.heap[p]? = some (.cells #[.int .i64 ok, .string ⟨#[48, 48, 49]⟩, .string ob] 48) := hq ▸ (Below.heap_alloc _ _ _ (Array.getElem?_eq_some_iff.1 hP1.out).1).trans hP1.out
              obtain ⟨x, hx⟩ : ∃ x, y1.heap.size = x := ⟨_, rfl⟩
              rw [hx] at hX
              rw [hq, hx]
              clear hq hx HM1 HB1 hP1 a0'
              obtain ⟨x0, x1, x2, _⟩ := cells3 hX
              have p0 : q.cell? ⟨p, 0, none⟩ = some (.int .i64 ok) := by simp [World.cell?, hPq]
              have p1 : q.cell? ⟨p, 1, none⟩ = some (.string ⟨#[48, 48, 49]⟩) := by simp [World.cell?, hPq]
              refine (pk _).mono ?_
              rintro e x0 ⟨rfl, hx0⟩
              rw [hx0]
              clear hx0 x0
              go_wp2_with fail
              refine (pk _).mono ?_
              rintro e x0 ⟨rfl, hx0⟩
              rw [hx0]
              clear hx0 x0
              go_wp2_with fail
              refine (answers_any ⟨#[48, 48, 49]⟩ _ _).mono ?_
              rintro e z ⟨rfl, Bz⟩
              have HMz : Hid (Sm 63 z G S') := HMq.out.below Bz HMq.out.lt
              have HBz : Hid (Below w.heap.size w z) := Kb.keepB HBq.out Bz
              clear Bz HMq HBq hPq hX x0 x1 x2 p0 p1
              go_wp2_with fail
              refine (state_any HMz.out).mono ?_
              rintro e x0 ⟨rfl, hx0⟩
              rw [hx0]
              clear hx0 x0
              rw [E2.out]
              go_wp2_with fail
              refine (ready_any HMz.out).mono ?_
              rintro e x0 ⟨rfl, hx0⟩
              rw [hx0, show decide (S'.st = 3 ∨ S'.st = 4) = true by rw [E2.out]; rfl]
              clear hx0 x0
              go_wp2_with fail
              refine ⟨⟨i + 1, true, true, S', rfl, rfl, by simp, HC.out, HA1.out, .inr (.inr ⟨rfl, rfl, E2.out⟩), HOT.out, HMz.out, HBz.out⟩, ?_⟩
              simp only [intOf]
              have := HC.out
              omega
          · as_aux_lemma =>
              have E2 : S'.st = 1 := by rw [HA2.out, hs]; first | rfl | decide
              have E3 : sy = ⟨⟨#[48, 48, 50]⟩, ⟨#[48, 48]⟩, false⟩ := by rw [HA3.out, hs]; first | rfl | decide
              subst E3
              rw [show sayV ⟨⟨#[48, 48, 50]⟩, ⟨#[48, 48]⟩, false⟩ = .agg #[.string ⟨#[48, 48, 50]⟩, .string ⟨#[48, 48]⟩, .bool false] from rfl]
              have hPa : (y1.alloc (.cells #[.string ⟨#[48, 48, 50]⟩, .string ⟨#[48, 48]⟩, .bool false] 40)).heap[p]? = some (.cells #[.int .i64 ok, .string ⟨#[48, 48, 50]⟩, .string ob] 48) := (Below.heap_alloc _ _ _ (Array.getElem?_eq_some_iff.1 hP1.out).1).trans hP1.out
              have a0' : (y1.alloc (.cells #[.string ⟨#[48, 48, 50]⟩, .string ⟨#[48, 48]⟩, .bool false] 40)).cell? ⟨p, 0, none⟩ = some (.int .i64 ok) := by simp [World.cell?, hPa]
              replace E2 : Hid (S'.st = 1) := E2
              clear hPa HA2 HA3
              go_wp2_with fail
              obtain ⟨q, hq⟩ : ∃ q, y1.alloc (.cells #[.string ⟨#[48, 48, 50]⟩, .string ⟨#[48, 48]⟩, .bool false] 40) = q := ⟨_, rfl⟩
              have HMq : Hid (Sm 63 q G S') := hq ▸ HM1.out.alloc _
              have HBq : Hid (Below w.heap.size w q) := hq ▸ HB1.out.alloc HB1.out.size _
              have hX : q.heap[y1.heap.size]? = some (.cells #[.string ⟨#[48, 48, 50]⟩, .string ⟨#[48, 48]⟩, .bool false] 40) := hq ▸ Kb.h1_0 y1 _
              have hPq : q.heap[p]? = some (.cells #[.int .i64 ok, .string ⟨#[48, 48, 50]⟩, .string ob] 48) := hq ▸ (Below.heap_alloc _ _ _ (Array.getElem?_eq_some_iff.1 hP1.out).1).trans hP1.out
              obtain ⟨x, hx⟩ : ∃ x, y1.heap.size = x := ⟨_, rfl⟩
              rw [hx] at hX
              rw [hq, hx]
              clear hq hx HM1 HB1 hP1 a0'
              obtain ⟨x0, x1, x2, _⟩ := cells3 hX
              have p0 : q.cell? ⟨p, 0, none⟩ = some (.int .i64 ok) := by simp [World.cell?, hPq]
              have p1 : q.cell? ⟨p, 1, none⟩ = some (.string ⟨#[48, 48, 50]⟩) := by simp [World.cell?, hPq]
              refine (pk _).mono ?_
              rintro e x0 ⟨rfl, hx0⟩
              rw [hx0]
              clear hx0 x0
              go_wp2_with fail
              refine (pk _).mono ?_
              rintro e x0 ⟨rfl, hx0⟩
              rw [hx0]
              clear hx0 x0
              go_wp2_with fail
              refine (answers_any ⟨#[48, 48, 50]⟩ _ _).mono ?_
              rintro e z ⟨rfl, Bz⟩
              have HMz : Hid (Sm 63 z G S') := HMq.out.below Bz HMq.out.lt
              have HBz : Hid (Below w.heap.size w z) := Kb.keepB HBq.out Bz
              clear Bz HMq HBq hPq hX x0 x1 x2 p0 p1
              go_wp2_with fail
              refine (state_any HMz.out).mono ?_
              rintro e x0 ⟨rfl, hx0⟩
              rw [hx0]
              clear hx0 x0
              rw [E2.out]
              go_wp2_with fail
              refine (ready_any HMz.out).mono ?_
              rintro e x0 ⟨rfl, hx0⟩
              rw [hx0, show decide (S'.st = 3 ∨ S'.st = 4) = false by rw [E2.out]; rfl]
              clear hx0 x0
              go_wp2_with fail
              refine ⟨⟨i + 1, true, false, S', rfl, rfl, by simp, HC.out, HA1.out, .inr (.inl ⟨rfl, rfl, E2.out⟩), HOT.out, HMz.out, HBz.out⟩, ?_⟩
              simp only [intOf]
              have := HC.out
              omega
          · as_aux_lemma =>
              have E2 : S'.st = 3 := by rw [HA2.out, hs]; first | rfl | decide
              have E3 : sy = ⟨⟨#[49, 48, 49]⟩, ⟨#[48, 48]⟩, false⟩ := by rw [HA3.out, hs]; first | rfl | decide
              subst E3
              rw [show sayV ⟨⟨#[49, 48, 49]⟩, ⟨#[48, 48]⟩, false⟩ = .agg #[.string ⟨#[49, 48, 49]⟩, .string ⟨#[48, 48]⟩, .bool false] from rfl]
              have hPa : (y1.alloc (.cells #[.string ⟨#[49, 48, 49]⟩, .string ⟨#[48, 48]⟩, .bool false] 40)).heap[p]? = some (.cells #[.int .i64 ok, .string ⟨#[49, 48, 49]⟩, .string ob] 48) := (Below.heap_alloc _ _ _ (Array.getElem?_eq_some_iff.1 hP1.out).1).trans hP1.out
              have a0' : (y1.alloc (.cells #[.string ⟨#[49, 48, 49]⟩, .string ⟨#[48, 48]⟩, .bool false] 40)).cell? ⟨p, 0, none⟩ = some (.int .i64 ok) := by simp [World.cell?, hPa]
              replace E2 : Hid (S'.st = 3) := E2
              clear hPa HA2 HA3
              go_wp2_with fail
              obtain ⟨q, hq⟩ : ∃ q, y1.alloc (.cells #[.string ⟨#[49, 48, 49]⟩, .string ⟨#[48, 48]⟩, .bool false] 40) = q := ⟨_, rfl⟩
              have HMq : Hid (Sm 63 q G S') := hq ▸ HM1.out.alloc _
              have HBq : Hid (Below w.heap.size w q) := hq ▸ HB1.out.alloc HB1.out.size _
              have hX : q.heap[y1.heap.size]? = some (.cells #[.string ⟨#[49, 48, 49]⟩, .string ⟨#[48, 48]⟩, .bool false] 40) := hq ▸ Kb.h1_0 y1 _
              have hPq : q.heap[p]? = some (.cells #[.int .i64 ok, .string ⟨#[49, 48, 49]⟩, .string ob] 48) := hq ▸ (Below.heap_alloc _ _ _ (Array.getElem?_eq_some_iff.1 hP1.out).1).trans hP1.out
              obtain ⟨x, hx⟩ : ∃ x, y1.heap.size = x := ⟨_, rfl⟩
              rw [hx] at hX
              rw [hq, hx]
              clear hq hx HM1 HB1 hP1 a0'
              obtain ⟨x0, x1, x2, _⟩ := cells3 hX
              have p0 : q.cell? ⟨p, 0, none⟩ = some (.int .i64 ok) := by simp [World.cell?, hPq]
              have p1 : q.cell? ⟨p, 1, none⟩ = some (.string ⟨#[49, 48, 49]⟩) := by simp [World.cell?, hPq]
              refine (pk _).mono ?_
              rintro e x0 ⟨rfl, hx0⟩
              rw [hx0]
              clear hx0 x0
              go_wp2_with fail
              refine (pk _).mono ?_
              rintro e x0 ⟨rfl, hx0⟩
              rw [hx0]
              clear hx0 x0
              go_wp2_with fail
              refine (answers_any ⟨#[49, 48, 49]⟩ _ _).mono ?_
              rintro e z ⟨rfl, Bz⟩
              have HMz : Hid (Sm 63 z G S') := HMq.out.below Bz HMq.out.lt
              have HBz : Hid (Below w.heap.size w z) := Kb.keepB HBq.out Bz
              clear Bz HMq HBq hPq hX x0 x1 x2 p0 p1
              go_wp2_with fail
              refine (state_any HMz.out).mono ?_
              rintro e x0 ⟨rfl, hx0⟩
              rw [hx0]
              clear hx0 x0
              rw [E2.out]
              go_wp2_with fail
              refine (ready_any HMz.out).mono ?_
              rintro e x0 ⟨rfl, hx0⟩
              rw [hx0, show decide (S'.st = 3 ∨ S'.st = 4) = true by rw [E2.out]; rfl]
              clear hx0 x0
              go_wp2_with fail
              refine ⟨⟨i + 1, true, true, S', rfl, rfl, by simp, HC.out, HA1.out, .inr (.inr ⟨rfl, rfl, E2.out⟩), HOT.out, HMz.out, HBz.out⟩, ?_⟩
              simp only [intOf]
              have := HC.out
              omega
          · as_aux_lemma =>
              have E2 : S'.st = 3 := by rw [HA2.out, hs]; first | rfl | decide
              have E3 : sy = ⟨⟨#[51, 48, 49]⟩, ⟨#[48, 48]⟩, false⟩ := by rw [HA3.out, hs]; first | rfl | decide
              subst E3
              rw [show sayV ⟨⟨#[51, 48, 49]⟩, ⟨#[48, 48]⟩, false⟩ = .agg #[.string ⟨#[51, 48, 49]⟩, .string ⟨#[48, 48]⟩, .bool false] from rfl]
              have hPa : (y1.alloc (.cells #[.string ⟨#[51, 48, 49]⟩, .string ⟨#[48, 48]⟩, .bool false] 40)).heap[p]? = some (.cells #[.int .i64 ok, .string ⟨#[51, 48, 49]⟩, .string ob] 48) := (Below.heap_alloc _ _ _ (Array.getElem?_eq_some_iff.1 hP1.out).1).trans hP1.out
              have a0' : (y1.alloc (.cells #[.string ⟨#[51, 48, 49]⟩, .string ⟨#[48, 48]⟩, .bool false] 40)).cell? ⟨p, 0, none⟩ = some (.int .i64 ok) := by simp [World.cell?, hPa]
              replace E2 : Hid (S'.st = 3) := E2
              clear hPa HA2 HA3
              go_wp2_with fail
              obtain ⟨q, hq⟩ : ∃ q, y1.alloc (.cells #[.string ⟨#[51, 48, 49]⟩, .string ⟨#[48, 48]⟩, .bool false] 40) = q := ⟨_, rfl⟩
              have HMq : Hid (Sm 63 q G S') := hq ▸ HM1.out.alloc _
              have HBq : Hid (Below w.heap.size w q) := hq ▸ HB1.out.alloc HB1.out.size _
              have hX : q.heap[y1.heap.size]? = some (.cells #[.string ⟨#[51, 48, 49]⟩, .string ⟨#[48, 48]⟩, .bool false] 40) := hq ▸ Kb.h1_0 y1 _
              have hPq : q.heap[p]? = some (.cells #[.int .i64 ok, .string ⟨#[51, 48, 49]⟩, .string ob] 48) := hq ▸ (Below.heap_alloc _ _ _ (Array.getElem?_eq_some_iff.1 hP1.out).1).trans hP1.out
              obtain ⟨x, hx⟩ : ∃ x, y1.heap.size = x := ⟨_, rfl⟩
              rw [hx] at hX
              rw [hq, hx]
              clear hq hx HM1 HB1 hP1 a0'
              obtain ⟨x0, x1, x2, _⟩ := cells3 hX
              have p0 : q.cell? ⟨p, 0, none⟩ = some (.int .i64 ok) := by simp [World.cell?, hPq]
              have p1 : q.cell? ⟨p, 1, none⟩ = some (.string ⟨#[51, 48, 49]⟩) := by simp [World.cell?, hPq]
              refine (pk _).mono ?_
              rintro e x0 ⟨rfl, hx0⟩
              rw [hx0]
              clear hx0 x0
              go_wp2_with fail
              refine (pk _).mono ?_
              rintro e x0 ⟨rfl, hx0⟩
              rw [hx0]
              clear hx0 x0
              go_wp2_with fail
              refine (answers_any ⟨#[51, 48, 49]⟩ _ _).mono ?_
              rintro e z ⟨rfl, Bz⟩
              have HMz : Hid (Sm 63 z G S') := HMq.out.below Bz HMq.out.lt
              have HBz : Hid (Below w.heap.size w z) := Kb.keepB HBq.out Bz
              clear Bz HMq HBq hPq hX x0 x1 x2 p0 p1
              go_wp2_with fail
              refine (state_any HMz.out).mono ?_
              rintro e x0 ⟨rfl, hx0⟩
              rw [hx0]
              clear hx0 x0
              rw [E2.out]
              go_wp2_with fail
              refine (ready_any HMz.out).mono ?_
              rintro e x0 ⟨rfl, hx0⟩
              rw [hx0, show decide (S'.st = 3 ∨ S'.st = 4) = true by rw [E2.out]; rfl]
              clear hx0 x0
              go_wp2_with fail
              refine ⟨⟨i + 1, true, true, S', rfl, rfl, by simp, HC.out, HA1.out, .inr (.inr ⟨rfl, rfl, E2.out⟩), HOT.out, HMz.out, HBz.out⟩, ?_⟩
              simp only [intOf]
              have := HC.out
              omega
          · as_aux_lemma =>
              have n1 : oc ≠ t001 := ne_code h1
              have n2 : oc ≠ t002 := ne_code h2
              have n3 : oc ≠ t101 := ne_code h3
              have n4 : oc ≠ t301 := ne_code h4
              have b1 : (oc.toList == [48, 48, 49]) = false := by simpa using h1
              have b2 : (oc.toList == [48, 48, 50]) = false := by simpa using h2
              have b3 : (oc.toList == [49, 48, 49]) = false := by simpa using h3
              have b4 : (oc.toList == [51, 48, 49]) = false := by simpa using h4
              have E2 : S'.st = 3 := by rw [HA2.out, hs]; first | rfl | decide | simp [nst, nsay, code2, n1, n2, n3, n4, t12]
              have E3 : sy = ⟨oc, ⟨#[49, 50]⟩, false⟩ := by rw [HA3.out, hs]; first | rfl | decide | simp [nst, nsay, code2, n1, n2, n3, n4, t12]
              subst E3
              rw [show sayV ⟨oc, ⟨#[49, 50]⟩, false⟩ = .agg #[.string oc, .string ⟨#[49, 50]⟩, .bool false] from rfl]
              have hPa : (y1.alloc (.cells #[.string oc, .string ⟨#[49, 50]⟩, .bool false] 40)).heap[p]? = some (.cells #[.int .i64 ok, .string oc, .string ob] 48) := (Below.heap_alloc _ _ _ (Array.getElem?_eq_some_iff.1 hP1.out).1).trans hP1.out
              have a0' : (y1.alloc (.cells #[.string oc, .string ⟨#[49, 50]⟩, .bool false] 40)).cell? ⟨p, 0, none⟩ = some (.int .i64 ok) := by simp [World.cell?, hPa]
              replace E2 : Hid (S'.st = 3) := E2
              clear hPa HA2 HA3
              go_wp2_with fail
              obtain ⟨q, hq⟩ : ∃ q, y1.alloc (.cells #[.string oc, .string ⟨#[49, 50]⟩, .bool false] 40) = q := ⟨_, rfl⟩
              have HMq : Hid (Sm 63 q G S') := hq ▸ HM1.out.alloc _
              have HBq : Hid (Below w.heap.size w q) := hq ▸ HB1.out.alloc HB1.out.size _
              have hX : q.heap[y1.heap.size]? = some (.cells #[.string oc, .string ⟨#[49, 50]⟩, .bool false] 40) := hq ▸ Kb.h1_0 y1 _
              have hPq : q.heap[p]? = some (.cells #[.int .i64 ok, .string oc, .string ob] 48) := hq ▸ (Below.heap_alloc _ _ _ (Array.getElem?_eq_some_iff.1 hP1.out).1).trans hP1.out
              obtain ⟨x, hx⟩ : ∃ x, y1.heap.size = x := ⟨_, rfl⟩
              rw [hx] at hX
              rw [hq, hx]
              clear hq hx HM1 HB1 hP1 a0'
              obtain ⟨x0, x1, x2, _⟩ := cells3 hX
              have p0 : q.cell? ⟨p, 0, none⟩ = some (.int .i64 ok) := by simp [World.cell?, hPq]
              have p1 : q.cell? ⟨p, 1, none⟩ = some (.string oc) := by simp [World.cell?, hPq]
              refine (pk _).mono ?_
              rintro e x0 ⟨rfl, hx0⟩
              rw [hx0]
              clear hx0 x0
              go_wp2_with fail
              refine (pk _).mono ?_
              rintro e x0 ⟨rfl, hx0⟩
              rw [hx0]
              clear hx0 x0
              go_wp2_with fail
              refine (answers_any oc _ _).mono ?_
              rintro e z ⟨rfl, Bz⟩
              have HMz : Hid (Sm 63 z G S') := HMq.out.below Bz HMq.out.lt
              have HBz : Hid (Below w.heap.size w z) := Kb.keepB HBq.out Bz
              clear Bz HMq HBq hPq hX x0 x1 x2 p0 p1
              go_wp2_with fail
              refine (state_any HMz.out).mono ?_
              rintro e x0 ⟨rfl, hx0⟩
              rw [hx0]
              clear hx0 x0
              rw [E2.out]
              go_wp2_with fail
              refine (ready_any HMz.out).mono ?_
              rintro e x0 ⟨rfl, hx0⟩
              rw [hx0, show decide (S'.st = 3 ∨ S'.st = 4) = true by rw [E2.out]; rfl]
              clear hx0 x0
              go_wp2_with fail
              refine ⟨⟨i + 1, true, true, S', rfl, rfl, by simp, HC.out, HA1.out, .inr (.inr ⟨rfl, rfl, E2.out⟩), HOT.out, HMz.out, HBz.out⟩, ?_⟩
              simp only [intOf]
              have := HC.out
              omega
        · as_aux_lemma =>
            have E2 : S'.st = 3 := by rw [HA2.out, hs]; first | rfl | decide
            have E3 : sy = no := by rw [HA3.out, hs]; first | rfl | decide
            subst E3
            rw [show sayV no = .agg #[.string ⟨#[]⟩, .string ⟨#[]⟩, .bool false] from rfl]
            have hPa : (y1.alloc (.cells #[.string ⟨#[]⟩, .string ⟨#[]⟩, .bool false] 40)).heap[p]? = some (.cells #[.int .i64 ok, .string oc, .string ob] 48) := (Below.heap_alloc _ _ _ (Array.getElem?_eq_some_iff.1 hP1.out).1).trans hP1.out
            have a0' : (y1.alloc (.cells #[.string ⟨#[]⟩, .string ⟨#[]⟩, .bool false] 40)).cell? ⟨p, 0, none⟩ = some (.int .i64 ok) := by simp [World.cell?, hPa]
            replace E2 : Hid (S'.st = 3) := E2
            clear hPa HA2 HA3
            go_wp2_with fail
            obtain ⟨q, hq⟩ : ∃ q, y1.alloc (.cells #[.string ⟨#[]⟩, .string ⟨#[]⟩, .bool false] 40) = q := ⟨_, rfl⟩
            have HMq : Hid (Sm 63 q G S') := hq ▸ HM1.out.alloc _
            have HBq : Hid (Below w.heap.size w q) := hq ▸ HB1.out.alloc HB1.out.size _
            have hX : q.heap[y1.heap.size]? = some (.cells #[.string ⟨#[]⟩, .string ⟨#[]⟩, .bool false] 40) := hq ▸ Kb.h1_0 y1 _
            have hPq : q.heap[p]? = some (.cells #[.int .i64 ok, .string oc, .string ob] 48) := hq ▸ (Below.heap_alloc _ _ _ (Array.getElem?_eq_some_iff.1 hP1.out).1).trans hP1.out
            obtain ⟨x, hx⟩ : ∃ x, y1.heap.size = x := ⟨_, rfl⟩
            rw [hx] at hX
            rw [hq, hx]
            clear hq hx HM1 HB1 hP1 a0'
            obtain ⟨x0, x1, x2, _⟩ := cells3 hX
            have p0 : q.cell? ⟨p, 0, none⟩ = some (.int .i64 ok) := by simp [World.cell?, hPq]
            have p1 : q.cell? ⟨p, 1, none⟩ = some (.string oc) := by simp [World.cell?, hPq]
            refine (pk _).mono ?_
            rintro e x0 ⟨rfl, hx0⟩
            rw [hx0]
            clear hx0 x0
            go_wp2_with fail
            refine (nothing_no _).mono ?_
            rintro e z ⟨rfl, Bz⟩
            have HMz : Hid (Sm 63 z G S') := HMq.out.below Bz HMq.out.lt
            have HBz : Hid (Below w.heap.size w z) := Kb.keepB HBq.out Bz
            have hPz := (Bz.block _ (Array.getElem?_eq_some_iff.1 hPq).1).trans hPq
            have pz0 : z.cell? ⟨p, 0, none⟩ = some (.int .i64 ok) := by simp [World.cell?, hPz]
            clear Bz HMq HBq hPq hPz hX x0 x1 x2 p0 p1
            go_wp2_with fail
            refine (pk _).mono ?_
            rintro e x0 ⟨rfl, hx0⟩
            rw [hx0]
            clear hx0 x0
            go_wp2_with fail
            refine (state_any HMz.out).mono ?_
            rintro e x0 ⟨rfl, hx0⟩
            rw [hx0]
            clear hx0 x0
            rw [E2.out]
            go_wp2_with fail
            refine (ready_any HMz.out).mono ?_
            rintro e x0 ⟨rfl, hx0⟩
            rw [hx0, show decide (S'.st = 3 ∨ S'.st = 4) = true by rw [E2.out]; rfl]
            clear hx0 x0
            go_wp2_with fail
            refine ⟨⟨i + 1, true, true, S', rfl, rfl, by simp, HC.out, HA1.out, .inr (.inr ⟨rfl, rfl, E2.out⟩), HOT.out, HMz.out, HBz.out⟩, ?_⟩
            simp only [intOf]
            have := HC.out
            omega
        · as_aux_lemma =>
            have E2 : S'.st = 3 := by rw [HA2.out, hs]; first | rfl | decide
            have E3 : sy = no := by rw [HA3.out, hs]; first | rfl | decide
            subst E3
            rw [show sayV no = .agg #[.string ⟨#[]⟩, .string ⟨#[]⟩, .bool false] from rfl]
            have hPa : (y1.alloc (.cells #[.string ⟨#[]⟩, .string ⟨#[]⟩, .bool false] 40)).heap[p]? = some (.cells #[.int .i64 ok, .string oc, .string ob] 48) := (Below.heap_alloc _ _ _ (Array.getElem?_eq_some_iff.1 hP1.out).1).trans hP1.out
            have a0' : (y1.alloc (.cells #[.string ⟨#[]⟩, .string ⟨#[]⟩, .bool false] 40)).cell? ⟨p, 0, none⟩ = some (.int .i64 ok) := by simp [World.cell?, hPa]
            replace E2 : Hid (S'.st = 3) := E2
            clear hPa HA2 HA3
            go_wp2_with fail
            obtain ⟨q, hq⟩ : ∃ q, y1.alloc (.cells #[.string ⟨#[]⟩, .string ⟨#[]⟩, .bool false] 40) = q := ⟨_, rfl⟩
            have HMq : Hid (Sm 63 q G S') := hq ▸ HM1.out.alloc _
            have HBq : Hid (Below w.heap.size w q) := hq ▸ HB1.out.alloc HB1.out.size _
            have hX : q.heap[y1.heap.size]? = some (.cells #[.string ⟨#[]⟩, .string ⟨#[]⟩, .bool false] 40) := hq ▸ Kb.h1_0 y1 _
            have hPq : q.heap[p]? = some (.cells #[.int .i64 ok, .string oc, .string ob] 48) := hq ▸ (Below.heap_alloc _ _ _ (Array.getElem?_eq_some_iff.1 hP1.out).1).trans hP1.out
            obtain ⟨x, hx⟩ : ∃ x, y1.heap.size = x := ⟨_, rfl⟩
            rw [hx] at hX
            rw [hq, hx]
            clear hq hx HM1 HB1 hP1 a0'
            obtain ⟨x0, x1, x2, _⟩ := cells3 hX
            have p0 : q.cell? ⟨p, 0, none⟩ = some (.int .i64 ok) := by simp [World.cell?, hPq]
            have p1 : q.cell? ⟨p, 1, none⟩ = some (.string oc) := by simp [World.cell?, hPq]
            refine (pk _).mono ?_
            rintro e x0 ⟨rfl, hx0⟩
            rw [hx0]
            clear hx0 x0
            go_wp2_with fail
            refine (nothing_no _).mono ?_
            rintro e z ⟨rfl, Bz⟩
            have HMz : Hid (Sm 63 z G S') := HMq.out.below Bz HMq.out.lt
            have HBz : Hid (Below w.heap.size w z) := Kb.keepB HBq.out Bz
            have hPz := (Bz.block _ (Array.getElem?_eq_some_iff.1 hPq).1).trans hPq
            have pz0 : z.cell? ⟨p, 0, none⟩ = some (.int .i64 ok) := by simp [World.cell?, hPz]
            clear Bz HMq HBq hPq hPz hX x0 x1 x2 p0 p1
            go_wp2_with fail
            refine (pk _).mono ?_
            rintro e x0 ⟨rfl, hx0⟩
            rw [hx0]
            clear hx0 x0
            go_wp2_with fail
            refine (state_any HMz.out).mono ?_
            rintro e x0 ⟨rfl, hx0⟩
            rw [hx0]
            clear hx0 x0
            rw [E2.out]
            go_wp2_with fail
            refine (ready_any HMz.out).mono ?_
            rintro e x0 ⟨rfl, hx0⟩
            rw [hx0, show decide (S'.st = 3 ∨ S'.st = 4) = true by rw [E2.out]; rfl]
            clear hx0 x0
            go_wp2_with fail
            refine ⟨⟨i + 1, true, true, S', rfl, rfl, by simp, HC.out, HA1.out, .inr (.inr ⟨rfl, rfl, E2.out⟩), HOT.out, HMz.out, HBz.out⟩, ?_⟩
            simp only [intOf]
            have := HC.out
            omega
        · as_aux_lemma =>
            have E2 : S'.st = 1 := by rw [HA2.out, hs]; first | rfl | decide
            have E3 : sy = no := by rw [HA3.out, hs]; first | rfl | decide
            subst E3
            rw [show sayV no = .agg #[.string ⟨#[]⟩, .string ⟨#[]⟩, .bool false] from rfl]
            have hPa : (y1.alloc (.cells #[.string ⟨#[]⟩, .string ⟨#[]⟩, .bool false] 40)).heap[p]? = some (.cells #[.int .i64 ok, .string oc, .string ob] 48) := (Below.heap_alloc _ _ _ (Array.getElem?_eq_some_iff.1 hP1.out).1).trans hP1.out
            have a0' : (y1.alloc (.cells #[.string ⟨#[]⟩, .string ⟨#[]⟩, .bool false] 40)).cell? ⟨p, 0, none⟩ = some (.int .i64 ok) := by simp [World.cell?, hPa]
            replace E2 : Hid (S'.st = 1) := E2
            clear hPa HA2 HA3
            go_wp2_with fail
            obtain ⟨q, hq⟩ : ∃ q, y1.alloc (.cells #[.string ⟨#[]⟩, .string ⟨#[]⟩, .bool false] 40) = q := ⟨_, rfl⟩
            have HMq : Hid (Sm 63 q G S') := hq ▸ HM1.out.alloc _
            have HBq : Hid (Below w.heap.size w q) := hq ▸ HB1.out.alloc HB1.out.size _
            have hX : q.heap[y1.heap.size]? = some (.cells #[.string ⟨#[]⟩, .string ⟨#[]⟩, .bool false] 40) := hq ▸ Kb.h1_0 y1 _
            have hPq : q.heap[p]? = some (.cells #[.int .i64 ok, .string oc, .string ob] 48) := hq ▸ (Below.heap_alloc _ _ _ (Array.getElem?_eq_some_iff.1 hP1.out).1).trans hP1.out
            obtain ⟨x, hx⟩ : ∃ x, y1.heap.size = x := ⟨_, rfl⟩
            rw [hx] at hX
            rw [hq, hx]
            clear hq hx HM1 HB1 hP1 a0'
            obtain ⟨x0, x1, x2, _⟩ := cells3 hX
            have p0 : q.cell? ⟨p, 0, none⟩ = some (.int .i64 ok) := by simp [World.cell?, hPq]
            have p1 : q.cell? ⟨p, 1, none⟩ = some (.string oc) := by simp [World.cell?, hPq]
            refine (pk _).mono ?_
            rintro e x0 ⟨rfl, hx0⟩
            rw [hx0]
            clear hx0 x0
            go_wp2_with fail
            refine (nothing_no _).mono ?_
            rintro e z ⟨rfl, Bz⟩
            have HMz : Hid (Sm 63 z G S') := HMq.out.below Bz HMq.out.lt
            have HBz : Hid (Below w.heap.size w z) := Kb.keepB HBq.out Bz
            have hPz := (Bz.block _ (Array.getElem?_eq_some_iff.1 hPq).1).trans hPq
            have pz0 : z.cell? ⟨p, 0, none⟩ = some (.int .i64 ok) := by simp [World.cell?, hPz]
            clear Bz HMq HBq hPq hPz hX x0 x1 x2 p0 p1
            go_wp2_with fail
            refine (pk _).mono ?_
            rintro e x0 ⟨rfl, hx0⟩
            rw [hx0]
            clear hx0 x0
            go_wp2_with fail
            refine (state_any HMz.out).mono ?_
            rintro e x0 ⟨rfl, hx0⟩
            rw [hx0]
            clear hx0 x0
            rw [E2.out]
            go_wp2_with fail
            refine (ready_any HMz.out).mono ?_
            rintro e x0 ⟨rfl, hx0⟩
            rw [hx0, show decide (S'.st = 3 ∨ S'.st = 4) = false by rw [E2.out]; rfl]
            clear hx0 x0
            go_wp2_with fail
            refine ⟨⟨i + 1, true, false, S', rfl, rfl, by simp, HC.out, HA1.out, .inr (.inl ⟨rfl, rfl, E2.out⟩), HOT.out, HMz.out, HBz.out⟩, ?_⟩
            simp only [intOf]
            have := HC.out
            omega
        · as_aux_lemma =>
            have E2 : S'.st = 0 := by rw [HA2.out, hs]; first | rfl | decide
            have E3 : sy = no := by rw [HA3.out, hs]; first | rfl | decide
            subst E3
            rw [show sayV no = .agg #[.string ⟨#[]⟩, .string ⟨#[]⟩, .bool false] from rfl]
            have hPa : (y1.alloc (.cells #[.string ⟨#[]⟩, .string ⟨#[]⟩, .bool false] 40)).heap[p]? = some (.cells #[.int .i64 ok, .string oc, .string ob] 48) := (Below.heap_alloc _ _ _ (Array.getElem?_eq_some_iff.1 hP1.out).1).trans hP1.out
            have a0' : (y1.alloc (.cells #[.string ⟨#[]⟩, .string ⟨#[]⟩, .bool false] 40)).cell? ⟨p, 0, none⟩ = some (.int .i64 ok) := by simp [World.cell?, hPa]
            replace E2 : Hid (S'.st = 0) := E2
            clear hPa HA2 HA3
            go_wp2_with fail
            obtain ⟨q, hq⟩ : ∃ q, y1.alloc (.cells #[.string ⟨#[]⟩, .string ⟨#[]⟩, .bool false] 40) = q := ⟨_, rfl⟩
            have HMq : Hid (Sm 63 q G S') := hq ▸ HM1.out.alloc _
            have HBq : Hid (Below w.heap.size w q) := hq ▸ HB1.out.alloc HB1.out.size _
            have hX : q.heap[y1.heap.size]? = some (.cells #[.string ⟨#[]⟩, .string ⟨#[]⟩, .bool false] 40) := hq ▸ Kb.h1_0 y1 _
            have hPq : q.heap[p]? = some (.cells #[.int .i64 ok, .string oc, .string ob] 48) := hq ▸ (Below.heap_alloc _ _ _ (Array.getElem?_eq_some_iff.1 hP1.out).1).trans hP1.out
            obtain ⟨x, hx⟩ : ∃ x, y1.heap.size = x := ⟨_, rfl⟩
            rw [hx] at hX
            rw [hq, hx]
            clear hq hx HM1 HB1 hP1 a0'
            obtain ⟨x0, x1, x2, _⟩ := cells3 hX
            have p0 : q.cell? ⟨p, 0, none⟩ = some (.int .i64 ok) := by simp [World.cell?, hPq]
            have p1 : q.cell? ⟨p, 1, none⟩ = some (.string oc) := by simp [World.cell?, hPq]
            refine (pk _).mono ?_
            rintro e x0 ⟨rfl, hx0⟩
            rw [hx0]
            clear hx0 x0
            go_wp2_with fail
            refine (nothing_no _).mono ?_
            rintro e z ⟨rfl, Bz⟩
            have HMz : Hid (Sm 63 z G S') := HMq.out.below Bz HMq.out.lt
            have HBz : Hid (Below w.heap.size w z) := Kb.keepB HBq.out Bz
            have hPz := (Bz.block _ (Array.getElem?_eq_some_iff.1 hPq).1).trans hPq
            have pz0 : z.cell? ⟨p, 0, none⟩ = some (.int .i64 ok) := by simp [World.cell?, hPz]
            clear Bz HMq HBq hPq hPz hX x0 x1 x2 p0 p1
            go_wp2_with fail
            refine (pk _).mono ?_
            rintro e x0 ⟨rfl, hx0⟩
            rw [hx0]
            clear hx0 x0
            go_wp2_with fail
            refine (state_any HMz.out).mono ?_
            rintro e x0 ⟨rfl, hx0⟩
            rw [hx0]
            clear hx0 x0
            rw [E2.out]
            go_wp2_with fail
            refine (ready_any HMz.out).mono ?_
            rintro e x0 ⟨rfl, hx0⟩
            rw [hx0, show decide (S'.st = 3 ∨ S'.st = 4) = false by rw [E2.out]; rfl]
            clear hx0 x0
            go_wp2_with fail
            refine ⟨⟨i + 1, false, false, S', rfl, rfl, by simp, HC.out, HA1.out, .inl ⟨rfl, rfl, E2.out⟩, HOT.out, HMz.out, HBz.out⟩, ?_⟩
            simp only [intOf]
            have := HC.out
            omega
    · go_wp2_with fail
      go_ret
      exact ⟨rfl, HB.out⟩
end Go.Proofs.Ythfpjkboglbcaaa.Sq
