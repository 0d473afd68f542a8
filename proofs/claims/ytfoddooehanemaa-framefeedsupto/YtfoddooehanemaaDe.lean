/- Frames: the document's Feed. -/
import Derived.Test.YtfoddooehanemaaDc
namespace Go.Proofs.Ytfoddooehanemaa.De
set_option linter.unusedVariables false
set_option linter.unusedSimpArgs false
open Go.RowKit Lib0 Kb Fa Fb Fc Fm Fe Ff Fg Fk Fu Fv Da Db Dc
/-- what the document keeps behind a Feed -/
def nxt (h m : Nat) (S b : ByteArray) : ByteArray := if errN (Fnl h m S).st = 0 then S ++ b else S
def got (h m : Nat) (S b : ByteArray) : M := run h m ⟨(Fnl h m S).st, (Fnl h m S).idle, []⟩ b.data.toList
theorem fin_app (h m : Nat) (S b : ByteArray) : Fnl h m (S ++ b) = ⟨(got h m S b).st, (got h m S b).idle, (Fnl h m S).out ++ (got h m S b).out⟩ := by
  unfold Fnl got
  rw [Fw.cat_list, run_append]
  rw [run_out]
  rfl
theorem err_brk {st : St} (h : errN st ≠ 0) : ∃ e, st = .brk e := by
  cases st with
  | hdr l => exact absurd rfl h
  | bod n l => exact absurd rfl h
  | brk e => exact ⟨e, rfl⟩
theorem fin_nxt (h m : Nat) (S b : ByteArray) : (Fnl h m (nxt h m S b)).st = (got h m S b).st ∧ (Fnl h m (nxt h m S b)).idle = (got h m S b).idle := by
  unfold nxt
  by_cases he : errN (Fnl h m S).st = 0
  · rw [if_pos he, fin_app]; exact ⟨rfl, rfl⟩
  · rw [if_neg he]
    obtain ⟨e, hst⟩ := err_brk he
    unfold got
    rw [hst, run_brk]
    exact ⟨rfl, rfl⟩
theorem app_nothing (w : World) (ty : TypeId) (a : Option Addr) (c : Nat) : (Builtin.append_ #[39, 39] ty #[.slice none 0 0, .slice a 0 c]).run Try.prog w = .ok (.slice none 0 0) w := by
  obtain ⟨is, hi, hi0, hi1, hi2⟩ := info_parts infoStr
  cases a <;> simp [Builtin.append_, run_underlying (P := Try.prog) Try.underlying39, sizeOf, typeInfo, hi, Builtin.lenOf, Builtin.firstCells, storeCells, loadCells, loadCellsFrom, hi1]
theorem own_drop {w : World} {B n t : Nat} {v : Value} {xs : List Value} (o : w.ownsRow B 9 1 v n xs) (g c : Nat) (hv : v = .slice (some ⟨g, 0, none⟩) n c) : ∀ j u, (xs.drop t)[j]? = some u → w.cell? ((⟨g, t, none⟩ : Addr).add j) = some u := by
  subst hv
  intro j u hj
  rw [List.getElem?_drop] at hj
  have := o.cells rfl (t + j) u hj
  have e1 : (⟨g, 0, none⟩ : Addr).add (t + j) = ⟨g, t + j, none⟩ := by unfold Addr.add; split <;> simp_all
  have e2 : (⟨g, t, none⟩ : Addr).add j = ⟨g, t + j, none⟩ := by unfold Addr.add; split <;> simp_all
  rw [e2, ← e1]
  exact this
set_option maxRecDepth 100000 in
set_option maxHeartbeats 3200000 in
theorem feedr_any {w : World} {g h m : Nat} {S : ByteArray} {t i : Nat} (D : Dm w g h m S t i) (ht : t = (Fnl h m S).out.length) (h1 : 1 ≤ h) (h4 : h ≤ 4) (hm : m ≤ 9999) (b : ByteArray) (hs : S.size + b.size ≤ 8796093022000) :
    Calls Try.prog 13 #[.pointer (some ⟨g, 0, none⟩), .string b] w fun e' w' => ∃ v, e' = .returned (.tuple #[v, .int .i64 (errN (got h m S b).st : Int)]) ∧ w'.ownsRow w.heap.size 9 1 v (got h m S b).out.length (strs (got h m S b).out) ∧ Fr [g] w w' ∧ Dm w' g h m (nxt h m S b) (Fnl h m (nxt h m S b)).out.length i := by
  have p := cutr_any D h1 h4 hm (by omega)
  have HD : Hid (Dm w g h m S t i) := D
  have hg := D.lt
  have HR : Hid (1 ≤ h ∧ h ≤ 4 ∧ m ≤ 9999 ∧ S.size + b.size ≤ 8796093022000) := ⟨h1, h4, hm, hs⟩
  obtain ⟨is, hi, hi0, hi1, hi2⟩ := info_parts infoStr
  by_cases he : errN (Fnl h m S).st = 0
  · have q1 : ((errN (Fnl h m S).st : Int) != 0) = false := by simp [he]
    have HNX : Hid (nxt h m S b = S ++ b) := by show _ = _; unfold nxt; rw [if_pos he]
    have HFA := fin_app h m S b
    have hcn := run_cnt h m (S ++ b).data.toList ⟨.hdr [], 0, []⟩
    rw [show run h m ⟨.hdr [], 0, []⟩ (S ++ b).data.toList = Fnl h m (S ++ b) from rfl, HFA] at hcn
    have hsb : (S ++ b).size = S.size + b.size := ByteArray.size_append
    have HCN : Hid ((Fnl h m S).out.length + (got h m S b).out.length ≤ 8796093022000) := by
      have h2 : (S ++ b).data.toList.length = S.size + b.size := hsb
      rw [h2] at hcn
      have h3 := hcn.2
      rw [List.length_append] at h3
      simp only [List.length_nil] at h3
      show _ ≤ _
      omega
    have pc2 : Hid (∀ y, Dm y g h m (S ++ b) t i → Calls Try.prog 39 #[.pointer (some ⟨g, 0, none⟩)] y (PostC y h (S ++ b) ⟨(got h m S b).st, (got h m S b).idle, (Fnl h m S).out ++ (got h m S b).out⟩)) := fun y Dy => by
      have := cutr_any Dy h1 h4 hm (by rw [hsb]; exact hs)
      rwa [HFA] at this
    have HLen : Hid ((Fnl h m (S ++ b)).out.length = t + (got h m S b).out.length) := by show _ = _; rw [HFA, ht]; exact List.length_append
    rw [HNX.out]
    obtain ⟨G, hG⟩ : ∃ G, got h m S b = G := ⟨_, rfl⟩
    obtain ⟨fo, hfo⟩ : ∃ fo, (Fnl h m S).out = fo := ⟨_, rfl⟩
    rw [hG] at HCN pc2 HLen ⊢
    rw [hfo] at HCN pc2 ht
    have hsI : (S.size : Int) + (b.size : Int) ≤ 8796093022000 := by omega
    have hsN : S.size + b.size ≤ 8796093022000 := hs
    clear he hcn hsb HFA HNX D h1 h4 hm hs hG hfo
    go_enter Try.func13, Try.ntmps13
    go_wp2_with fail
    refine p.mono ?_
    rintro e y ⟨v, q, rfl, own, hq, hqs, hb⟩
    have Dy := HD.out.below hb hg
    have c2 : y.cell? ⟨g, 2, none⟩ = some (.string S) := Dy.ce 2
    have f2 := Dy.fz 2
    have D2 : Dm (y.setCell ⟨g, 2, none⟩ (.string (S ++ b))) g h m (S ++ b) t i := setCell_heap Dy 2 _
    have HF2 : Hid (Fr [g] w (y.setCell ⟨g, 2, none⟩ (.string (S ++ b)))) := (Fr.of hb).set (.inl (by simp)) _ _
    have HD2 : Hid (Dm (y.setCell ⟨g, 2, none⟩ (.string (S ++ b))) g h m (S ++ b) t i) := D2
    clear p own hb hq hqs Dy D2
    go_wp2_with fail
    obtain ⟨y2, HY2⟩ : ∃ y2, Hid (y.setCell ⟨g, 2, none⟩ (.string (S ++ b)) = y2) := ⟨_, rfl⟩
    rw [HY2.out] at HF2 HD2 ⊢
    refine (pc2.out _ HD2.out).mono ?_
    rintro e y3 ⟨v3, q3, rfl, own3, hq3, hqs3, hb3⟩
    have D3 := HD2.out.below hb3 HD2.out.lt
    have F3 : Hid (Fr [g] w y3) := HF2.out.trans (Fr.of hb3)
    have hsz3 : w.heap.size ≤ y3.heap.size := F3.out.size
    have c3 : y3.cell? ⟨g, 3, none⟩ = some (.int .i64 (t : Int)) := D3.ce 3
    have HD3 : Hid (Dm y3 g h m (S ++ b) t i) := D3
    have HO3 : Hid (y3.ownsRow y2.heap.size 9 1 v3 (fo ++ G.out).length (strs (fo ++ G.out))) := own3
    clear hq3 hqs3 hb3 D3 own3 c2 f2
    have f3 := HD3.out.fz 3
    have an := app_nothing
    have HT : Hid (t = fo.length) := ht
    have HN : Hid ((fo ++ G.out).length = t + G.out.length) := by show _ = _; rw [List.length_append, ht]
    have htI : (t : Int) ≤ 8796093022000 := by have := HCN.out; omega
    clear ht
    have HFD : Hid (∀ (y9 : World) (k : Nat), Dm y9 g h m (S ++ b) t i → k = t + G.out.length → Dm (y9.setCell ⟨g, 3, none⟩ (.int .i64 ((k : Nat) : Int))) g h m (S ++ b) (Fnl h m (S ++ b)).out.length i) := by
      intro y9 k D9 hk
      rw [HLen.out, ← hk]
      exact setCell_heap D9 3 _
    cases hGo : G.out with
    | nil =>
      rw [hGo] at HO3 HN HFD
      have hl0 : (fo ++ ([] : List (List UInt8))).length = t := by rw [HN.out]; rfl
      rw [hl0] at HO3
      rcases HO3.out.2 with ⟨rfl, ht0⟩ | ⟨gv, cap, cur, rfl, _, _, hcap, hcm, _, _⟩
      · have H0 : Hid (t = 0) := ht0
        have q3 : (t : Int) = 0 := by omega
        clear ht0 hl0
        rw [H0.out] at c3 HFD
        go_wp2_with fail
        go_ret2
        exact ⟨_, rfl, (by rw [hGo]; exact own_nil _ _), F3.out.set (.inl (by simp)) _ _, HFD.out y3 0 (H0.out ▸ HD3.out) rfl⟩
      · have q3 : (t : Int) ≤ (cap : Int) := by omega
        clear hl0
        by_cases hct : cap = t
        · have hc2 : cap - t = 0 := by omega
          go_wp2_with fail
          all_goals go_ret2
          all_goals exact ⟨_, rfl, (by rw [hGo]; exact own_nil _ _), F3.out.set (.inl (by simp)) _ _, HFD.out y3 t HD3.out rfl⟩
        · have hc2 : ¬ cap - t = 0 := by omega
          have hc3 : t < cap := by omega
          go_wp2_with fail
          all_goals go_ret2
          all_goals exact ⟨_, rfl, (by rw [hGo]; exact own_nil _ _), F3.out.set (.inl (by simp)) _ _, HFD.out y3 t HD3.out rfl⟩
    | cons o1 os =>
      rw [hGo] at HO3 HN HFD HCN
      obtain ⟨gv, cap, rfl, _⟩ := own_pos HO3.out (by simp; omega)
      have hcap : (fo ++ o1 :: os).length ≤ cap := by
        rcases HO3.out.2 with ⟨h1, _⟩ | ⟨g9, cap9, cur9, h1, _, _, h2, _⟩
        · cases h1
        · injection h1 with _ _ h1; omega
      have HNW := own_drop (t := t) HO3.out gv cap rfl
      rw [show (strs (fo ++ o1 :: os)).drop t = strs (o1 :: os) by rw [strs_app, HT.out, ← strs_length fo]; exact List.drop_left] at HNW
      have HNW2 : Hid (∀ j u, (strs (o1 :: os))[j]? = some u → y3.cell? ((⟨gv, t, none⟩ : Addr).add j) = some u) := HNW
      have hnl := HN.out
      rw [hnl] at hcap ⊢
      have HOS : Hid (0 < (o1 :: os).length ∧ (strs (o1 :: os)).length = (o1 :: os).length * 1 ∧ (∀ u ∈ strs (o1 :: os), u.oneCell' = true)) := ⟨by simp, by rw [strs_length, Nat.mul_one], strs_one _⟩
      have hpos : 0 < (o1 :: os).length := by simp
      clear HNW hnl HO3
      generalize hoo : o1 :: os = oo at *
      clear hoo
      have q3 : (t : Int) ≤ (t : Int) + (oo.length : Int) := by omega
      have q4 : (t : Int) + (oo.length : Int) ≤ (cap : Int) := by omega
      have hc2 : ¬ cap - t = 0 := by omega
      have hc3 : t < cap := by omega
      have hq5 : (t : Int) + (oo.length : Int) ≤ 8796093022000 := by have := HCN.out; have := HT.out; omega
      have HSZ : Hid (w.heap.size ≤ y3.heap.size) := hsz3
      have HB9 : Hid (oo.length ≤ 8796093022000) := by have := HCN.out; show _ ≤ _; omega
      have hsub : t + oo.length - t = oo.length := by omega
      clear hcap hpos
      go_wp2_with (at_builtin; refine wpList_append_lies _ rfl _ _ _ rfl w.heap.size 9 is _ 1 16 Try.underlying39 hi hi0 hi1 hi2 rfl (by omega) (.slice none 0 0) 0 [] rfl (own_nil _ _) ⟨gv, t, none⟩ oo.length (cap - t) (strs oo) rfl HOS.out.2.1 HNW2.out HOS.out.2.2 HOS.out.1 (by have := HB9.out; unfold maxLen; omega) (by have := HB9.out; omega) HSZ.out _ rfl ?_; intro g4 cap4 y4 own4 gr4 at4 lt4; have D4 : Dm y4 g h m (S ++ b) t i := HD3.out.keep (gr4.block g HD3.out.lt (by simp [Value.ownBlock])); have e3 : y4.cell? ⟨g, 3, none⟩ = some (.int .i64 (t : Int)) := D4.ce 3; have ef := D4.fz 3; have HD4 : Hid (Dm y4 g h m (S ++ b) t i) := D4; clear D4)
      go_ret2
      have F4 : Fr [g] w y4 := F3.out.grown gr4 (fun q hq => by simp [Value.ownBlock] at hq)
      have HZ := HFD.out y4 (t + oo.length) HD4.out rfl
      rw [Int.natCast_add] at HZ
      rw [hGo]
      refine ⟨_, rfl, own_fr1 (g := g) ?_ ((Fr.refl [g] _).set (.inl (by simp)) _ _) hg, F4.set (.inl (by simp)) _ _, HZ⟩
      rw [Nat.zero_add, List.nil_append] at own4
      exact own4
  · have q1 : ((errN (Fnl h m S).st : Int) != 0) = true := by simp; omega
    obtain ⟨k, hk⟩ := err_brk he
    have HG : Hid (got h m S b = ⟨.brk k, (Fnl h m S).idle, []⟩) := by show _ = _; unfold got; rw [hk, run_brk]
    have HNX : Hid (nxt h m S b = S) := by show _ = _; unfold nxt; rw [if_neg he]
    have HK : Hid (errN (Fnl h m S).st = k) := by show _ = _; rw [hk]; rfl
    have HT : Hid (t = (Fnl h m S).out.length) := ht
    rw [HG.out, HNX.out, ← HT.out]
    clear he ht D h1 h4 hm hs hk
    go_enter Try.func13, Try.ntmps13
    go_wp2_with fail
    refine p.mono ?_
    rintro e y ⟨v, q, rfl, own, hq, hqs, hb⟩
    have HDy : Hid (Dm y g h m S t i) := HD.out.below hb hg
    have HB : Hid (Below w.heap.size w y) := hb
    clear p own hb hq hqs
    go_wp2_with fail
    go_ret2
    refine ⟨_, ?_, own_nil _ _, Fr.of HB.out, HDy.out⟩
    show _ = Ending.returned (.tuple #[_, .int .i64 ((k : Nat) : Int)])
    rw [← HK.out]
    rfl
end Go.Proofs.Ytfoddooehanemaa.De
