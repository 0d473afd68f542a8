/- tlv.Set. -/
import Derived.Test.YtgidjfhlooggkaaSe
import Derived.Test.YtgidjfhlooggkaaMr
namespace Go.Proofs.Ytgidjfhlooggkaa.St
set_option linter.unusedVariables false
set_option linter.unusedSimpArgs false
open Go.RowKit Kb Ga Gb Gc Gd Nt Gj Cl Se
open Go.Proofs.Ytgidjfhlooggkaa.Fd
theorem ok_cells {w : World} {base : Nat} : ∀ (ts : List AT), ok w base ts → ∀ b ∈ fp ts, ∃ c, w.heap[b]? = some (.cells c 40 (0, 0))
  | [], _, b, hb => by simp [fp] at hb
  | .mk t v kv ks :: ts, h, b, hb => by
    unfold ok at h
    simp only [fp, List.mem_append, Option.mem_toList] at hb
    rcases hb with (hb | hb) | hb
    · rcases h.1.1.2 with ⟨e, _⟩ | ⟨g, cap, cur, e, _, hg, _⟩
      · rw [e] at hb; simp [Value.ownBlock] at hb
      · rw [e] at hb
        simp only [Value.ownBlock] at hb
        cases hb
        exact ⟨_, hg⟩
    · exact ok_cells ks h.1.2.1 b hb
    · exact ok_cells ts h.2 b hb
theorem own_cells {w : World} {base : Nat} {v : Value} {ts : List AT} (h : Nt.Own w base v ts) : ∀ b ∈ v.ownBlock.toList ++ fp ts, ∃ c, w.heap[b]? = some (.cells c 40 (0, 0)) := fun b hb => by
  rcases List.mem_append.1 hb with hb | hb
  · simp only [Option.mem_toList] at hb
    rcases h.row.2 with ⟨e, _⟩ | ⟨g, cap, cur, e, _, hg, _⟩
    · rw [e] at hb; simp [Value.ownBlock] at hb
    · rw [e] at hb
      simp only [Value.ownBlock] at hb
      cases hb
      exact ⟨_, hg⟩
  · exact ok_cells ts h.kids b hb
theorem froz {w : World} {b o : Nat} {c : Array Value} {t : TypeId} (h : w.heap[b]? = some (.cells c t (0, 0))) : w.frozen? ⟨b, o, none⟩ = false := by simp [World.frozen?, h]
/-- what Set tells -/
def PostSet (w : World) (ts : List Tr) (ps : List Int) (val : ByteArray) (e : Ending) (w' : World) : Prop := Below w.heap.size w w' ∧ match lkT ts ps none with
  | none => e = .returned (.tuple #[.slice none 0 0, .int .i64 94])
  | some a => (mkd (ttag a) = true ∨ tkids a ≠ [] → e = .returned (.tuple #[.slice none 0 0, .int .i64 94])) ∧ (mkd (ttag a) = false → tkids a = [] → ∃ v' ats, e = .returned (.tuple #[v', .int .i64 0]) ∧ er ats = ptT ts ps val ∧ Nt.Own w' w.heap.size v' ats)
set_option maxRecDepth 100000 in
set_option maxHeartbeats 1600000 in
theorem set_any (ts : List AT) (p0 : Int) (ps : List Int) (v u : Value) (val : ByteArray) (w : World) (hr : Rdn w v ts) (hp : ints w u (p0 :: ps)) (hv : val.size ≤ 1048576) :
    Calls Try.prog 30 #[v, .string val, u] w (PostSet w (er ts) (p0 :: ps) val) := by
  have HR : Hid (Rdn w v ts) := hr
  have HP : Hid (ints w u (p0 :: ps)) := hp
  have sk := seek_at ts (p0 :: ps) v u w hr hp
  have HL := look_er (p0 :: ps) ts none
  simp only [Option.map_none] at HL
  obtain ⟨o, cap, e, hN, -⟩ := hp
  obtain ⟨N, HN⟩ : ∃ N : Nat, Hid ((p0 :: ps).length = N) := ⟨_, rfl⟩
  rw [HN.out] at e
  subst e
  obtain ⟨lo, lc, e, hLN, -⟩ := hr.row
  obtain ⟨LN, HLN⟩ : ∃ LN : Nat, Hid (ts.length = LN) := ⟨_, rfl⟩
  rw [HLN.out] at e
  subst e
  clear hr hN hLN
  cases hlk : Fd.look ts (p0 :: ps) none with
  | none =>
    rw [hlk] at sk HL
    have HM : Hid (lkT (er ts) (p0 :: ps) none = none) := HL.symm
    clear HL hlk
    go_enter Try.func30, Try.ntmps30
    go_wp2_with fail
    refine sk.mono ?_
    rintro _ y ⟨q, rfl, hq, -, hy⟩
    replace hq : q = .pointer none := hq
    subst hq
    go_wp2
    go_ret2
    refine ⟨hy, ?_⟩
    rw [HM.out]
    rfl
  | some a =>
    rw [hlk] at sk HL
    cases a with
    | mk tag v0 kv ks =>
    have HM : Hid (lkT (er ts) (p0 :: ps) none = some (.mk tag v0 (er ks))) := HL.symm
    clear HL hlk
    have CN := fun y => Gh.clone_any val y (by omega)
    go_enter Try.func30, Try.ntmps30
    go_wp2_with fail
    refine sk.mono ?_
    clear sk
    rintro _ y ⟨q, rfl, hq, -, hy⟩
    obtain ⟨pa, rfl, q0, q1, q2, hk, hvv, htt⟩ := hq
    simp only [AT.tag, AT.val, AT.kv, AT.kids] at q0 q1 q2 hk hvv htt
    obtain ⟨ko, kc, hkv, -⟩ := hk.row
    obtain ⟨KL, HKL⟩ : ∃ KL, Hid (ks.length = KL) := ⟨_, rfl⟩
    rw [HKL.out] at hkv
    subst hkv
    have mk := marked_any tag y htt.2
    obtain ⟨B, HB⟩ : ∃ B, Hid (mkd tag = B) := ⟨_, rfl⟩
    rw [HB.out] at mk
    clear hk hvv
    by_cases hK : 0 < KL
    · have hK' : 0 < (KL : Int) := by omega
      have HNK : Hid (er ks ≠ []) := fun h => by
        have := er_len ks
        rw [h, HKL.out] at this
        simp at this
        omega
      clear CN mk
      go_wp2
      go_ret2
      refine ⟨hy, ?_⟩
      rw [HM.out]
      exact ⟨fun _ => rfl, fun _ h => absurd h HNK.out⟩
    · have hK0 : KL = 0 := by omega
      subst hK0
      have HKN : Hid (er ks = []) := by
        show _ = _
        exact List.eq_nil_of_length_eq_zero (by rw [er_len, HKL.out])
      cases B with
      | true =>
        clear CN
        go_wp2_with fail
        refine mk.mono ?_
        rintro _ y2 ⟨rfl, hy2⟩
        go_wp2
        go_ret2
        refine ⟨keepB hy hy2, ?_⟩
        rw [HM.out]
        exact ⟨fun _ => rfl, fun h => absurd (HB.out.symm.trans h) (by simp)⟩
      | false =>
        have cl := fun z (hz : Below w.heap.size w z) => clonedList_any ts (.slice lo LN lc) z (HR.out.below hz)
        go_wp2_with fail
        refine mk.mono ?_
        rintro _ y2 ⟨rfl, hy2⟩
        clear mk
        have hb2 := keepB hy hy2
        go_wp2_with fail
        refine (cl y2 hb2).mono ?_
        clear cl
        rintro _ y3 ⟨v', ats, rfl, hea, hown, h3⟩
        have hb3 := keepB hb2 h3
        obtain ⟨co, cc, rfl⟩ := hown.form
        have sk2 := seek_at ats (p0 :: ps) (.slice co ats.length cc) (.slice o N cap) y3 hown.reads (ints_below hb3 HP.out)
        have HL2 := look_er (p0 :: ps) ats none
        simp only [Option.map_none] at HL2
        rw [hea, HM.out] at HL2
        obtain ⟨a2, ha2⟩ : ∃ a2, Fd.look ats (p0 :: ps) none = some a2 := by
          cases h : Fd.look ats (p0 :: ps) none with
          | none => rw [h] at HL2; exact absurd HL2 (by simp)
          | some a2 => exact ⟨a2, rfl⟩
        rw [ha2] at sk2
        obtain ⟨AD, HAD⟩ : ∃ AD, Hid (adr (.slice co ats.length cc) ats (p0 :: ps) none = AD) := ⟨_, rfl⟩
        rw [HAD.out] at sk2
        have HO : Hid (Nt.Own y3 y2.heap.size (.slice co ats.length cc) ats) := hown
        obtain ⟨LC, HLC⟩ : ∃ LC, Hid (ats.length = LC) := ⟨_, rfl⟩
        rw [HLC.out] at HO HAD sk2 ⊢
        have hs2 : w.heap.size ≤ y2.heap.size := hb2.size
        clear hown HL2 ha2 q0 q1 q2
        go_wp2_with fail
        refine sk2.mono ?_
        clear sk2
        rintro _ y4 ⟨q, rfl, hq, eq, h4⟩
        obtain ⟨pb, rfl, r0, r1, r2, -⟩ := hq
        have eAD : AD = some pb := by injection eq with eq; exact eq.symm
        subst eAD
        replace HO : Hid (Nt.Own y4 y2.heap.size (.slice co LC cc) ats) := HO.out.below h4
        have hb4 := keepB hb3 h4
        clear eq r0 r2
        go_wp2_with fail
        refine (CN y4).mono ?_
        clear CN
        rintro _ y5 ⟨rfl, h5⟩
        replace HO : Hid (Nt.Own y5 y2.heap.size (.slice co LC cc) ats) := HO.out.below h5
        have hb5 := keepB hb4 h5
        have r1' := (h5.cell (World.block_lt_of_cell? y4 _ r1)).trans r1
        obtain ⟨O1, O2, -, O4⟩ := put_own val hv ps p0 ats _ pb HO.out HAD.out
        obtain ⟨bc, hbc⟩ := own_cells HO.out _ O2
        have fz : y5.frozen? ⟨pb.block, pb.off + 1, none⟩ = false := froz hbc
        have hpb := (HO.out.lt _ O2).1
        have HO1 : Hid (Nt.Own (y5.setCell ⟨pb.block, pb.off + 1, none⟩ (.string val)) w.heap.size (.slice co LC cc) (put ats (p0 :: ps) val)) := O1.base hs2
        have HB5 : Hid (Below w.heap.size w (y5.setCell ⟨pb.block, pb.off + 1, none⟩ (.string val))) := hb5.setCell (p := ⟨pb.block, pb.off + 1, none⟩) (by simp; omega) _
        have HE : Hid (er (put ats (p0 :: ps) val) = ptT (er ts) (p0 :: ps) val) := by show _ = _; rw [put_er, hea]
        clear r1 O1 O2 O4 hbc hpb h5 h4 h3 HO
        go_wp2
        go_ret2
        refine ⟨HB5.out, ?_⟩
        rw [HM.out]
        refine ⟨fun h => ?_, fun _ _ => ⟨_, _, rfl, HE.out, HO1.out⟩⟩
        rcases h with h | h
        · exact absurd (HB.out.symm.trans h) (by simp)
        · exact absurd HKN.out h
end Go.Proofs.Ytgidjfhlooggkaa.St
