/- WheelSlots: calls on one of two wheels. -/
import Derived.Test.YtdhljogcoooomaaSa
namespace Go.Proofs.Ytdhljogcoooomaa.Sb
set_option linter.unusedVariables false
set_option linter.unusedSimpArgs false
open Go.RowKit Go.Maps Lib0 Kb Xp Ii Di Ei Fi Gi Hi Ki Ji Mi Ti Ci Va Vb Vc Vd Ve Sa
def okA (n : Int) : Prop := 1 ≤ n ∧ n ≤ 100000
instance (n : Int) : Decidable (okA n) := by unfold okA; infer_instance
def aT (T : List T3) (now last n i : Int) : List T3 := if okA n then T ++ [(last + 1, now + n, i)] else T
def aL (last n : Int) : Int := if okA n then last + 1 else last
def aN (last n : Int) : Int := if okA n then last + 1 else 0
def aE (n : Int) : Int := if okA n then 0 else 1
def tT (T : List T3) (now : Int) : List T3 := T.filter fun x => !(x.2.1 == now + 1)
def tZ (T : List T3) (now : Int) : List Int := (T.filter fun x => x.2.1 == now + 1).map fun x => x.2.2
def lk3 (T : List T3) (t : Int) : Option T3 := T.find? fun x => x.1 == t
def cT (T : List T3) (t : Int) : List T3 := T.filter fun x => !(x.1 == t)
def cN (T : List T3) (t : Int) : Int := match lk3 T t with | some x => x.2.2 | none => 0
def cE (T : List T3) (t : Int) : Int := match lk3 T t with | some x => 0 | none => 170
theorem lkG_emb (T : List T3) (t : Int) : lkG (T.map emb) t = (lk3 T t).map emb := by
  rw [lkG, lk3, List.find?_map]; rfl
theorem aL_le (last n : Int) : last ≤ aL last n ∧ aL last n ≤ last + 1 := by unfold aL; split <;> omega
theorem ok_add {na : Nat} {T : List T3} {now last n i : Int} (h : Ok na (T.map emb) now last) (hn : okA n) (hl : last + 1 ≤ 5864062014805) : Ok na ((T ++ [(last + 1, now + n, i)]).map emb) now (last + 1) := by
  rw [List.map_append]
  exact Hi.Ok.add h rfl hn.1 hn.2 hl
section
variable {w0 w : World} {a b na nb : Nat} {Ta Tb : List T3} {nowa lasta nowb lastb : Int} {rb : Nat}
theorem add_a (h : Two w0 w a b na nb Ta nowa lasta Tb nowb lastb rb) (n i : Int) (hl : lasta + 1 ≤ 5864062014805) :
    Calls Try.prog 16 #[.pointer (some ⟨a, 0, none⟩), .int .i64 n, .int .i64 i] w fun e w' => e = .returned (.tuple #[.int .i64 (aN lasta n), .int .i64 (aE n)]) ∧ Two w0 w' a b na nb (aT Ta nowa lasta n i) nowa (aL lasta n) Tb nowb lastb rb := by
  by_cases hn : okA n
  · obtain ⟨A, h1, h2⟩ := h.forA
    refine (add_yes w a A na _ nowa lasta n (.int .i64 i) h1 h.oka rfl (by have := hn.1; omega) (by have := hn.2; omega) hl).mono ?_
    rintro e w' ⟨rfl, ht⟩
    rw [aN, aE, aT, aL, if_pos hn, if_pos hn, if_pos hn, if_pos hn]
    refine ⟨rfl, h2 ?_ (ok_add h.oka hn hl)⟩
    rw [List.map_append]; exact ht
  · refine (add_no w a n (.int .i64 i) (by unfold okA at hn; omega)).mono ?_
    rintro e w' ⟨rfl, rfl⟩
    rw [aN, aE, aT, aL, if_neg hn, if_neg hn, if_neg hn, if_neg hn]
    exact ⟨rfl, h⟩
theorem tick_a (h : Two w0 w a b na nb Ta nowa lasta Tb nowb lastb rb) (hn : nowa + 1 ≤ 1000000000000) :
    Calls Try.prog 21 #[.pointer (some ⟨a, 0, none⟩)] w fun e w' => ∃ v, e = .returned v ∧ w'.ownsRow w.heap.size tI 1 v (tZ Ta nowa).length (ints (tZ Ta nowa)) ∧ Two w0 w' a b na nb (tT Ta nowa) (nowa + 1) lasta Tb nowb lastb rb := by
  obtain ⟨A, h1, h2⟩ := h.forA
  refine (tick_any w a A na _ nowa lasta h1 h.oka h.oka.last1 hn).mono ?_
  rintro e w' ⟨v, rfl, ho, ht⟩
  have hok := Ti.Ok.tick h.oka hn
  rw [map_filter_emb] at ho ht hok
  rw [thgs_emb, List.length_map] at ho
  refine ⟨v, rfl, ?_, h2 ht hok⟩
  rw [tZ, List.length_map]
  exact ho
theorem cancel_a (h : Two w0 w a b na nb Ta nowa lasta Tb nowb lastb rb) (t : Int) (ht : (Lit.int .i64 t).wf = true) :
    Calls Try.prog 19 #[.pointer (some ⟨a, 0, none⟩), .int .i64 t] w fun e w' => e = .returned (.tuple #[.int .i64 (cN Ta t), .int .i64 (cE Ta t)]) ∧ Two w0 w' a b na nb (cT Ta t) nowa lasta Tb nowb lastb rb := by
  obtain ⟨A, h1, h2⟩ := h.forA
  have hlk := lkG_emb Ta t
  cases e : lk3 Ta t with
  | none =>
    rw [e] at hlk
    refine (cancel_no w a A na _ nowa lasta t h1 ht hlk).mono ?_
    rintro e2 w' ⟨rfl, hb⟩
    have hc : cT Ta t = Ta := by
      rw [cT, List.filter_eq_self]
      intro x hx
      rw [lk3, List.find?_eq_none] at e
      have := e x hx
      simpa using this
    rw [cN, cE, e, hc]
    exact ⟨rfl, h.keep hb⟩
  | some x =>
    rw [e] at hlk
    refine (cancel_yes w a A na _ nowa lasta t (emb x) h1 h.oka h.oka.last1 ht hlk).mono ?_
    rintro e2 w' ⟨rfl, htr⟩
    have hok := Ci.Ok.cancel h.oka (fun y => !(y.1 == t))
    rw [map_filter_emb] at htr hok
    rw [cN, cE, e]
    exact ⟨rfl, h2 htr hok⟩
theorem left_a (h : Two w0 w a b na nb Ta nowa lasta Tb nowb lastb rb) (t : Int) (ht : (Lit.int .i64 t).wf = true) :
    Calls Try.prog 31 #[.pointer (some ⟨a, 0, none⟩), .int .i64 t] w fun e w' => e = .returned (.tuple #[.int .i64 (lfN (Ta.map emb) nowa t), .int .i64 (lfE (Ta.map emb) t)]) ∧ w' = w := by
  obtain ⟨A, h1, -⟩ := h.forA
  exact left_any w a A na _ nowa lasta t h1 h.oka ht
theorem len_a (h : Two w0 w a b na nb Ta nowa lasta Tb nowb lastb rb) :
    Calls Try.prog 11 #[.pointer (some ⟨a, 0, none⟩)] w fun e w' => e = .returned (.int .i64 (Ta.length : Nat)) ∧ w' = w := by
  obtain ⟨A, h1, -⟩ := h.forA
  have := len_any w a A na _ nowa lasta h1
  rwa [List.length_map] at this
theorem now_a (h : Two w0 w a b na nb Ta nowa lasta Tb nowb lastb rb) :
    Calls Try.prog 12 #[.pointer (some ⟨a, 0, none⟩)] w fun e w' => e = .returned (.int .i64 nowa) ∧ w' = w := by
  obtain ⟨A, h1, -⟩ := h.forA
  exact now_any w a A na _ nowa lasta h1
theorem add_b (h : Two w0 w a b na nb Ta nowa lasta Tb nowb lastb rb) (n i : Int) (hl : lastb + 1 ≤ 5864062014805) :
    Calls Try.prog 16 #[.pointer (some ⟨b, 0, none⟩), .int .i64 n, .int .i64 i] w fun e w' => e = .returned (.tuple #[.int .i64 (aN lastb n), .int .i64 (aE n)]) ∧ Two w0 w' a b na nb Ta nowa lasta (aT Tb nowb lastb n i) nowb (aL lastb n) rb :=
  (add_a h.swap n i hl).mono fun e w' hh => ⟨hh.1, hh.2.swap⟩
theorem tick_b (h : Two w0 w a b na nb Ta nowa lasta Tb nowb lastb rb) (hn : nowb + 1 ≤ 1000000000000) :
    Calls Try.prog 21 #[.pointer (some ⟨b, 0, none⟩)] w fun e w' => ∃ v, e = .returned v ∧ w'.ownsRow w.heap.size tI 1 v (tZ Tb nowb).length (ints (tZ Tb nowb)) ∧ Two w0 w' a b na nb Ta nowa lasta (tT Tb nowb) (nowb + 1) lastb rb :=
  (tick_a h.swap hn).mono fun e w' hh => by obtain ⟨v, h1, h2, h3⟩ := hh; exact ⟨v, h1, h2, h3.swap⟩
theorem cancel_b (h : Two w0 w a b na nb Ta nowa lasta Tb nowb lastb rb) (t : Int) (ht : (Lit.int .i64 t).wf = true) :
    Calls Try.prog 19 #[.pointer (some ⟨b, 0, none⟩), .int .i64 t] w fun e w' => e = .returned (.tuple #[.int .i64 (cN Tb t), .int .i64 (cE Tb t)]) ∧ Two w0 w' a b na nb Ta nowa lasta (cT Tb t) nowb lastb rb :=
  (cancel_a h.swap t ht).mono fun e w' hh => ⟨hh.1, hh.2.swap⟩
/-- what a tick of the first told stays while the second ticks -/
theorem tick_row {w w' : World} {base : Nat} {v : Value} {zs : List Int} {B : Nat → Prop} {n : Nat} {L L' : LT} {now last now' last' : Int} (ho : w.ownsRow base tI 1 v zs.length (ints zs)) (h1 : Wl w b B n L now last) (ht : Trn w b B n L' now' last' w') : w'.ownsRow base tI 1 v zs.length (ints zs) := by
  obtain ⟨B', -, h2, -⟩ := ht
  refine own_keep ho fun g hg => ?_
  obtain ⟨c, hc⟩ := own_ty ho hg
  exact h2.block g (Array.getElem?_eq_some_iff.1 hc).1 (not_res h1 hc (by decide))
theorem tick_b2 (h : Two w0 w a b na nb Ta nowa lasta Tb nowb lastb rb) (hn : nowb + 1 ≤ 1000000000000) {base : Nat} {v0 : Value} {zs : List Int} (hv : w.ownsRow base tI 1 v0 zs.length (ints zs)) :
    Calls Try.prog 21 #[.pointer (some ⟨b, 0, none⟩)] w fun e w' => ∃ v, e = .returned v ∧ w'.ownsRow w.heap.size tI 1 v (tZ Tb nowb).length (ints (tZ Tb nowb)) ∧ Two w0 w' a b na nb Ta nowa lasta (tT Tb nowb) (nowb + 1) lastb rb ∧ w'.ownsRow base tI 1 v0 zs.length (ints zs) := by
  obtain ⟨B, h1, h2⟩ := h.forB
  refine (tick_any w b B nb _ nowb lastb h1 h.okb h.okb.last1 hn).mono ?_
  rintro e w' ⟨v, rfl, ho, ht⟩
  have hok := Ti.Ok.tick h.okb hn
  have hk := tick_row hv h1 ht
  rw [map_filter_emb] at ho ht hok
  rw [thgs_emb, List.length_map] at ho
  refine ⟨v, rfl, ?_, h2 ht hok, hk⟩
  rw [tZ, List.length_map]
  exact ho
end
end Go.Proofs.Ytdhljogcoooomaa.Sb
