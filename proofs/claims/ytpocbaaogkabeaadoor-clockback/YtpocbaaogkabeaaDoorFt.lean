/- The stamp of a moment, as a text: plain. -/
import Derived.Test.YtpocbaaogkabeaaDoorFdy
namespace Go.Proofs.YtpocbaaogkabeaaDoor.Ft
set_option linter.unusedVariables false
set_option linter.unusedSimpArgs false
open Go.RowKit Ca Oe Sg Sm Sn Nr Ner Pa Lw
/-- a stamp's text -/
def stS (M D H I S : Int) : ByteArray := ⟨(prL [M, D, H, I, S]).toArray⟩
theorem stS_list (M D H I S : Int) : (stS M D H I S).data.toList = [dc (M / 10), dc (M % 10), dc (D / 10), dc (D % 10), dc (H / 10), dc (H % 10), dc (I / 10), dc (I % 10), dc (S / 10), dc (S % 10)] := by
  simp [stS, prL]
theorem stS_size (M D H I S : Int) : (stS M D H I S).size = 10 := by
  show (stS M D H I S).data.size = 10
  rw [← Array.length_toList, stS_list]; rfl
theorem dig_dc {n : Int} (h0 : 0 ≤ n) (h1 : n < 10) : dig (dc n) = true := by
  have := dc_nat h0 h1
  rw [dig_iff]; omega
theorem tw_dc {l : List UInt8} {k : Nat} {n : Int} (h0 : 0 ≤ n) (h1 : n < 100) (a : l.getD k 0 = dc (n / 10)) (b : l.getD (k + 1) 0 = dc (n % 10)) : tw l k = n := by
  unfold tw
  rw [a, b, dc_nat (by omega) (by omega), dc_nat (by omega) (by omega)]
  omega
theorem stS_tw {M D H I S : Int} (hM : 0 ≤ M ∧ M < 100) (hD : 0 ≤ D ∧ D < 100) (hH : 0 ≤ H ∧ H < 100) (hI : 0 ≤ I ∧ I < 100) (hS : 0 ≤ S ∧ S < 100) :
    ad (stS M D H I S) = true ∧ tw (stS M D H I S).data.toList 0 = M ∧ tw (stS M D H I S).data.toList 2 = D ∧ tw (stS M D H I S).data.toList 4 = H ∧ tw (stS M D H I S).data.toList 6 = I ∧ tw (stS M D H I S).data.toList 8 = S := by
  unfold ad
  rw [stS_list]
  refine ⟨?_, tw_dc hM.1 hM.2 rfl rfl, tw_dc hD.1 hD.2 rfl rfl, tw_dc hH.1 hH.2 rfl rfl, tw_dc hI.1 hI.2 rfl rfl, tw_dc hS.1 hS.2 rfl rfl⟩
  simp only [List.all_cons, List.all_nil, Bool.and_true, Bool.and_eq_true]
  refine ⟨?_, ?_, ?_, ?_, ?_, ?_, ?_, ?_, ?_, ?_⟩ <;> exact dig_dc (by omega) (by omega)
/-- a moment's own date -/
theorem own_date {n Y M D : Int} (h0 : 0 ≤ n) (hd : IsDay (n / 86400) Y M D) : isD Y M D (n % 86400 / 3600) (n % 3600 / 60) (n % 60) = true ∧ mom Y M D (n % 86400 / 3600) (n % 3600 / 60) (n % 60) = n := by
  have a := hd.y0; have b := hd.y1; have c := hd.m0; have d := hd.m1; have e := hd.d0; have f := hd.d1; have g := hd.is
  refine ⟨decide_eq_true ⟨a, b, c, d, e, f, by omega, by omega, by omega, by omega, by omega, by omega⟩, ?_⟩
  unfold mom
  omega
theorem own_of {n Y M D : Int} (h0 : 0 ≤ n) (hd : IsDay (n / 86400) Y M D) : ofV Y M D (n % 86400 / 3600) (n % 3600 / 60) (n % 60) = n ∧ ofE Y M D (n % 86400 / 3600) (n % 3600 / 60) (n % 60) = 0 := by
  obtain ⟨a, b⟩ := own_date h0 hd
  simp [ofV, ofE, a, b]
/-- the numbers of a moment's date are of two digits -/
theorem own_bd {n Y M D : Int} (h0 : 0 ≤ n) (hd : IsDay (n / 86400) Y M D) : (0 ≤ M ∧ M < 100) ∧ (0 ≤ D ∧ D < 100) ∧ (0 ≤ n % 86400 / 3600 ∧ n % 86400 / 3600 < 100) ∧ (0 ≤ n % 3600 / 60 ∧ n % 3600 / 60 < 100) ∧ (0 ≤ n % 60 ∧ n % 60 < 100) := by
  have db := dm_bd Y hd.m0 hd.m1
  have c := hd.m0; have d := hd.m1; have e := hd.d0; have f := hd.d1
  omega
/-- a moment's stamp is a stamp -/
theorem own_st {n Y M D : Int} (h0 : 0 ≤ n) (hd : IsDay (n / 86400) Y M D) : isSt (stS M D (n % 86400 / 3600) (n % 3600 / 60) (n % 60)) = true := by
  obtain ⟨b1, b2, b3, b4, b5⟩ := own_bd h0 hd
  obtain ⟨a, t0, t2, t4, t6, t8⟩ := stS_tw b1 b2 b3 b4 b5
  unfold isSt ten
  rw [a, t0, t2, t4, t6, t8, stS_size, isD_leap (own_date h0 hd).1 (by omega) (by omega) (by omega)]
  rfl
/-- what lies nearest, of a moment's own stamp -/
theorem own_near {n Y M D x b : Int} (h0 : 0 ≤ n) (hd : IsDay (n / 86400) Y M D) (hb : IsNear (stS M D (n % 86400 / 3600) (n % 3600 / 60) (n % 60)) x b) :
    ∃ y, isD y M D (n % 86400 / 3600) (n % 3600 / 60) (n % 60) = true ∧ b = mom y M D (n % 86400 / 3600) (n % 3600 / 60) (n % 60) ∧ fr b x ≤ fr n x ∧ (fr b x = fr n x → b ≤ n) := by
  obtain ⟨b1, b2, b3, b4, b5⟩ := own_bd h0 hd
  obtain ⟨a, t0, t2, t4, t6, t8⟩ := stS_tw b1 b2 b3 b4 b5
  unfold IsNear at hb
  rw [t0, t2, t4, t6, t8] at hb
  obtain ⟨o1, o2⟩ := own_date h0 hd
  have y0 := hd.y0; have y1 := hd.y1
  rcases hb with ⟨_, hb⟩ | ⟨y, a1, a2, a3, e, hb⟩
  · have := hb Y (by omega) (by omega)
    rw [show okS _ _ _ _ _ Y = true from o1] at this; cases this
  · have k := hb Y (by omega) (by omega) o1
    have sY : sk M D (n % 86400 / 3600) (n % 3600 / 60) (n % 60) Y = n := o2
    rw [sY] at k
    subst e
    refine ⟨y, a3, rfl, k.1, fun he => ?_⟩
    rcases Int.lt_or_le Y y with hl | hl
    · have := k.2 hl; omega
    · rcases (by omega : y = Y ∨ y < Y) with rfl | hl2
      · exact Int.le_of_eq sY
      · have := sk_rise a3 o1 hl2; omega
end Go.Proofs.YtpocbaaogkabeaaDoor.Ft
