import Derived.Test.YtmnoplaepjaokaaGreatDoorQs05
/- pairs: the program's. -/
namespace Go.Proofs.YtmnoplaepjaokaaGreatDoor.Pa
set_option linter.unusedVariables false
set_option linter.unusedSimpArgs false
open Go.RowKit Lib0 Kb Ca Ld De Oe Hx
/-- a digit's sign -/
def dc (n : Int) : UInt8 := (48 + n).toNat.toUInt8
/-- numbers in two digits each -/
def prL (z : List Int) : List UInt8 := z.flatMap fun n => [dc (n / 10), dc (n % 10)]
theorem prL_snoc (z : List Int) (n : Int) : prL (z ++ [n]) = prL z ++ [dc (n / 10), dc (n % 10)] := by simp [prL]
theorem dc_nat {n : Int} (h0 : 0 ≤ n) (h1 : n < 10) : ((dc n).toNat : Int) = 48 + n := by
  unfold dc
  simp only [Nat.toUInt8, UInt8.toNat_ofNat']
  omega
theorem info : (Tryz.prog.info? 5).map (fun i => (i.zero, i.size, i.bytes)) = some (some (.int .u8 0), 1, 1) := by kernel_rfl
attribute [local go_sem ↓] Go.wp_at_zero Go.wp_at_succ
set_option maxRecDepth 100000 in
set_option maxHeartbeats 800000 in
theorem pairs_any (z : List Int) (hz : ∀ (i : Nat) (hi : i < z.length), 0 ≤ z[i] ∧ z[i] < 100) (hl : z.length ≤ 5) (g : Nat) (w : World) (hg : g < w.heap.size) (hc : ∀ (i : Nat) (hi : i < z.length), w.cell? ⟨g, i, none⟩ = some (.int .i64 z[i])) :
    Calls Tryz.prog 80 #[.slice (some ⟨g, 0, none⟩) z.length z.length] w fun e w' => e = .returned (.string ⟨(prL z).toArray⟩) ∧ Below w.heap.size w w' := by
  obtain ⟨i0, hi, hz0, hz1, hz2⟩ := info_parts info
  obtain ⟨N, hN⟩ : ∃ N, z.length = N := ⟨_, rfl⟩
  rw [hN]
  go_enter Tryz.func80, Tryz.ntmps80
  go_wp2
  go_loopw [3, 8] (fun v i wr => ∃ k : Nat, k ≤ N ∧ i = .int .i64 k ∧ wr.ownsRow w.heap.size 5 1 v (2 * k) (bs (prL (z.take k))) ∧ Below w.heap.size w wr) (fun _ i _ => N - (intOf i).toNat)
  case atStart => exact ⟨0, Nat.zero_le _, rfl, World.ownsRow_nil _ _ _ _, Below.refl _ _⟩
  case round =>
    obtain ⟨k, hk, rfl, hown, hb⟩ := hrel
    by_cases hlt : k < N
    · have h1 : (0 : Int) ≤ (k : Int) := by omega
      have h2 : (k : Int) < (N : Int) := by omega
      have hlt' : k < z.length := by omega
      obtain ⟨n, hn⟩ : ∃ n, z[k] = n := ⟨_, rfl⟩
      have hnb := hz k hlt'
      have hcell := keepC hb (hc k hlt') hg
      rw [hn] at hnb hcell
      obtain ⟨n0, n1⟩ := hnb
      obtain ⟨A, hA⟩ : ∃ A, n / 10 = A := ⟨_, rfl⟩
      obtain ⟨B, hB⟩ : ∃ A, n % 10 = A := ⟨_, rfl⟩
      have d1 : 0 ≤ A := by omega
      have d2 : A < 10 := by omega
      have d3 : 0 ≤ B := by omega
      have d4 : B < 10 := by omega
      have d5 : IntKind.u8.wrap (48 + A) = 48 + A := wrap_u8 _ (by omega) (by omega)
      have d6 : IntKind.u8.wrap (48 + B) = 48 + B := wrap_u8 _ (by omega) (by omega)
      have hbs := hb.size
      have hT : Hid (z.take (k + 1) = z.take k ++ [n]) := by
        show _ = _
        rw [List.take_succ_eq_append_getElem hlt', hn]
      have hAB : Hid (n / 10 = A ∧ n % 10 = B) := ⟨hA, hB⟩
      clear hn hlt'
      go_wp2_with (at_builtin; refine wpList_append_lies _ rfl _ _ _ rfl w.heap.size 5 i0 _ 1 1 Tryz.underlying110 hi hz0 hz1 hz2 rfl (by omega) _ (2 * k) _ rfl (hown.alloc _) ⟨wr.heap.size, 0, none⟩ 2 2 _ rfl (by rfl) (World.news_of_block (heap_alloc_new wr _)) (by simp [Value.oneCell']) (by omega) (by unfold maxLen; omega) (by omega) (by first | omega | (simp <;> omega)) (wr.heap.size + 1) (by simp) ?_; intro ga ca wa own1 g1 hat hlt1)
      go_round
      case rel =>
        refine ⟨k + 1, by omega, by go_num, owns_len own1 rfl (by omega) ?_, below_app0 hb hbs hown g1⟩
        rw [hT.out, prL_snoc, bs_append, hAB.out.1, hAB.out.2]
        simp [bs, dc_nat d1 d2, dc_nat d3 d4]
      case measure => simp [intOf]; omega
    · obtain rfl : k = N := by omega
      have hcv := run_str (P := Tryz.prog) (src := 110) (dst := 9) Tryz.underlying110 Tryz.underlying5 Tryz.underlying9 hown
      go_wp2
      go_ret
      exact ⟨ret_str (by rw [List.take_of_length_le (by omega)]), hb⟩
end Go.Proofs.YtmnoplaepjaokaaGreatDoor.Pa
/- Weekday, Stamp, Julian, Business: the program's. -/
namespace Go.Proofs.YtmnoplaepjaokaaGreatDoor.Te
set_option linter.unusedVariables false
set_option linter.unusedSimpArgs false
open Go.RowKit Kb Ca Ld De Oe Hx Dy Dz Pa
theorem pairs5 {x : World} {g : Nat} {a b c d e : Int} {t : TypeId} (hg : x.heap[g]? = some (.cells #[.int .i64 a, .int .i64 b, .int .i64 c, .int .i64 d, .int .i64 e] t)) (ha : 0 ≤ a ∧ a < 100) (hb : 0 ≤ b ∧ b < 100) (hc : 0 ≤ c ∧ c < 100) (hd : 0 ≤ d ∧ d < 100) (he : 0 ≤ e ∧ e < 100) :
    Calls Tryz.prog 80 #[.slice (some ⟨g, 0, none⟩) 5 5] x fun r w' => r = .returned (.string ⟨(prL [a, b, c, d, e]).toArray⟩) ∧ Below x.heap.size x w' := by
  refine pairs_any [a, b, c, d, e] ?_ (by simp) g x (Array.getElem?_eq_some_iff.1 hg).1 ?_
  · intro i hi
    rcases i with _ | _ | _ | _ | _ | i
    · exact ha
    · exact hb
    · exact hc
    · exact hd
    · exact he
    · exact absurd hi (by simp)
  · intro i hi
    rcases i with _ | _ | _ | _ | _ | i
    all_goals first | (simp [World.cell?, hg]; done) | exact absurd hi (by simp)
theorem pairs2 {x : World} {g : Nat} {a b : Int} {t : TypeId} (hg : x.heap[g]? = some (.cells #[.int .i64 a, .int .i64 b] t)) (ha : 0 ≤ a ∧ a < 100) (hb : 0 ≤ b ∧ b < 100) :
    Calls Tryz.prog 80 #[.slice (some ⟨g, 0, none⟩) 2 2] x fun r w' => r = .returned (.string ⟨(prL [a, b]).toArray⟩) ∧ Below x.heap.size x w' := by
  refine pairs_any [a, b] ?_ (by simp) g x (Array.getElem?_eq_some_iff.1 hg).1 ?_
  · intro i hi
    rcases i with _ | _ | i
    · exact ha
    · exact hb
    · exact absurd hi (by simp)
  · intro i hi
    rcases i with _ | _ | i
    all_goals first | (simp [World.cell?, hg]; done) | exact absurd hi (by simp)
/-- its day of the week -/
def wkV (n : Int) : Int := if decide (0 ≤ n ∧ n ≤ 3155759999) = true then (n / 86400 + 5) % 7 + 1 else 0
def mE (n : Int) : Int := if decide (0 ≤ n ∧ n ≤ 3155759999) = true then 0 else 80
/-- what Julian tells -/
def juL (Y M D : Int) : List UInt8 := prL [Y % 10 * 10 + (am Y M + D) / 100, (am Y M + D) % 100]
set_option maxRecDepth 100000 in
set_option maxHeartbeats 1600000 in
theorem julian_date (n : Int) (hn : decide (0 ≤ n ∧ n ≤ 3155759999) = false) (w : World) : Calls Tryz.prog 45 #[.int .i64 n] w fun e w' => e = .returned (.tuple #[.string ⟨#[]⟩, .int .i64 80]) ∧ Below w.heap.size w w' := by
  have c := fun x => date_bad n hn x
  unfold dt at c
  clear hn
  go_enter Tryz.func45, Tryz.ntmps45
  go_wp2_with fail
  refine (c _).mono ?_
  rintro e x ⟨rfl, hb⟩
  go_wp2_with fail
  go_ret2
  refine ⟨rfl, ?_⟩
  first | exact hb | exact keepB hb (below_one _ _)
set_option maxRecDepth 100000 in
set_option maxHeartbeats 1600000 in
theorem julian_good (n : Int) (h0 : 0 ≤ n) (h1 : n ≤ 3155759999) (w : World) (hT : Tab w) : Calls Tryz.prog 45 #[.int .i64 n] w fun e w' => (∃ Y M D, IsDay (n / 86400) Y M D ∧ e = .returned (.tuple #[.string ⟨(juL Y M D).toArray⟩, .int .i64 0])) ∧ Below w.heap.size w w' := by
  have c := date_good n h0 h1 w hT
  unfold dt at c
  go_enter Tryz.func45, Tryz.ntmps45
  go_wp2_with fail
  refine c.mono ?_
  rintro e x ⟨⟨Y, M, D, hd, rfl⟩, hb⟩
  have dd1 := dm_bd Y hd.m0 hd.m1
  have eM := am_bd Y hd.m0 (by have := hd.m1; omega)
  have st := am_step Y (m := M)
  have eM2 := am_bd Y (m := M + 1) (by have := hd.m0; omega) (by have := hd.m1; omega)
  have bD : 1 ≤ D ∧ D ≤ 31 := by have := hd.d0; have := hd.d1; omega
  have bT : 1 ≤ am Y M + D ∧ am Y M + D ≤ 366 := by have := hd.d0; have := hd.d1; omega
  have y0 := hd.y0
  have y1 := hd.y1
  have cM := fun x hT => month_any Y M hd.m0 (by have := hd.m1; omega) x hT
  have hfin : Hid (IsDay (n / 86400) Y M D) := hd
  have hju : Hid (∀ A, am Y M = A → juL Y M D = prL [Y % 10 * 10 + (A + D) / 100, (A + D) % 100]) := fun A hA => by unfold juL; rw [hA]
  have hTx : ∀ o, Tab (x.alloc o) := fun o => hT.next (keepB hb (below_one _ _))
  have hbx : ∀ o, Below w.heap.size w (x.alloc o) := fun o => keepB hb (below_one _ _)
  clear c st eM2 hd
  obtain ⟨A, hA⟩ : ∃ A, am Y M = A := ⟨_, rfl⟩
  have hA' := hju.out A hA
  rw [hA] at cM eM bT
  have hA2 : Hid (juL Y M D = prL [Y % 10 * 10 + (A + D) / 100, (A + D) % 100]) := hA'
  clear hA' hA hju
  have p1 : 0 ≤ Y % 10 * 10 + (A + D) / 100 ∧ Y % 10 * 10 + (A + D) / 100 < 100 := by omega
  have p2 : 0 ≤ (A + D) % 100 ∧ (A + D) % 100 < 100 := by omega
  have hq : ∀ o1 k o2, (((x.alloc o1).drewN k).alloc o2).heap[x.heap.size + 1]? = some o2 := fun o1 k o2 => h2_1 x o1 o2
  have hTn : ∀ o k, Tab ((x.alloc o).drewN k) := fun o k => (hTx o).next (below_drewN (Below.refl _ _) k)
  go_wp2_with fail
  go_quiet ((go_at_call 79; exact Calls.quiet_of_same (cM _ (hTn _ _))))
  go_wp2_with fail
  refine (pairs2 (hq _ _ _) p1 p2).mono ?_
  rintro e y ⟨rfl, hy⟩
  have hy2 := keepB (keepB (below_drewN (hbx _) nq) (below_one _ _)) hy
  go_wp2
  go_ret2
  exact ⟨⟨Y, M, D, hfin.out, by rw [hA2.out]; rfl⟩, hy2⟩
end Go.Proofs.YtmnoplaepjaokaaGreatDoor.Te
