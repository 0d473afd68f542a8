import Derived.Test.YtpifebapodfeaaaGreatQ05
/- The chapter's first example, reckoned. -/
namespace Go.Proofs.YtpifebapodfeaaaGreat.Kn
set_option linter.unusedVariables false
open Go.RowKit Pla Cb Eb Et
def ak0 : List Bool := [false, false, false, true, true, false, true, true, false, false, false, false, false, false, true, false, true, true, true, false, true, true, true, true, true, true, true, true, true, true, false, false, false, true, true, true, false, false, false, false, false, true, true, true, false, false, true, false]
def ak1 : List Bool := [false, true, true, true, true, false, false, true, true, false, true, false, true, true, true, false, true, true, false, true, true, false, false, true, true, true, false, true, true, false, true, true, true, true, false, false, true, false, false, true, true, true, true, false, false, true, false, true]
def ak2 : List Bool := [false, true, false, true, false, true, false, true, true, true, true, true, true, true, false, false, true, false, false, false, true, false, true, false, false, true, false, false, false, false, true, false, true, true, false, false, true, true, true, true, true, false, false, true, true, false, false, true]
def ak3 : List Bool := [false, true, true, true, false, false, true, false, true, false, true, false, true, true, false, true, true, true, false, true, false, true, true, false, true, true, false, true, true, false, true, true, false, false, true, true, false, true, false, true, false, false, false, true, true, true, false, true]
def ak4 : List Bool := [false, true, true, true, true, true, false, false, true, true, true, false, true, true, false, false, false, false, false, false, false, true, true, true, true, true, true, false, true, false, true, true, false, true, false, true, false, false, true, true, true, false, true, false, true, false, false, false]
def ak5 : List Bool := [false, true, true, false, false, false, true, true, true, false, true, false, false, true, false, true, false, false, true, true, true, true, true, false, false, true, false, true, false, false, false, false, false, true, true, true, true, false, true, true, false, false, true, false, true, true, true, true]
def ak6 : List Bool := [true, true, true, false, true, true, false, false, true, false, false, false, false, true, false, false, true, false, true, true, false, true, true, true, true, true, true, true, false, true, true, false, false, false, false, true, true, false, false, false, true, false, true, true, true, true, false, false]
def ak7 : List Bool := [true, true, true, true, false, true, true, true, true, false, false, false, true, false, true, false, false, false, true, true, true, false, true, false, true, true, false, false, false, false, false, true, false, false, true, true, true, false, true, true, true, true, true, true, true, false, true, true]
def ak8 : List Bool := [true, true, true, false, false, false, false, false, true, true, false, true, true, false, true, true, true, true, true, false, true, false, true, true, true, true, true, false, true, true, false, true, true, true, true, false, false, true, true, true, true, false, false, false, false, false, false, true]
def ak9 : List Bool := [true, false, true, true, false, false, false, true, true, true, true, true, false, false, true, true, false, true, false, false, false, true, true, true, true, false, true, true, true, false, true, false, false, true, false, false, false, true, true, false, false, true, false, false, true, true, true, true]
def ak10 : List Bool := [false, false, true, false, false, false, false, true, false, true, false, true, true, true, true, true, true, true, false, true, false, false, true, true, true, true, false, true, true, true, true, false, true, true, false, true, false, false, true, true, true, false, false, false, false, true, true, false]
def ak11 : List Bool := [false, true, true, true, false, true, false, true, false, true, true, true, false, false, false, true, true, true, true, true, false, true, false, true, true, false, false, true, false, true, false, false, false, true, true, false, false, true, true, true, true, true, true, false, true, false, false, true]
def ak12 : List Bool := [true, false, false, true, false, true, true, true, true, true, false, false, false, true, false, true, true, true, false, true, false, false, false, true, true, true, true, true, true, false, true, false, true, false, true, true, true, false, true, false, false, true, false, false, false, false, false, true]
def ak13 : List Bool := [false, true, false, true, true, true, true, true, false, true, false, false, false, false, true, true, true, false, true, true, false, true, true, true, true, true, true, true, false, false, true, false, true, true, true, false, false, true, true, true, false, false, true, true, true, false, true, false]
def ak14 : List Bool := [true, false, true, true, true, true, true, true, true, false, false, true, false, false, false, true, true, false, false, false, true, true, false, true, false, false, true, true, true, true, false, true, false, false, true, true, true, true, true, true, false, false, false, false, true, false, true, false]
def ak15 : List Bool := [true, true, false, false, true, false, true, true, false, false, true, true, true, true, false, true, true, false, false, false, true, false, true, true, false, false, false, false, true, true, true, false, false, false, false, true, false, true, true, true, true, true, true, true, false, true, false, true]
def aks : List (List Bool) := [ak0, ak1, ak2, ak3, ak4, ak5, ak6, ak7, ak8, ak9, ak10, ak11, ak12, ak13, ak14, ak15]
def akey : List UInt8 := [19, 52, 87, 121, 155, 188, 223, 241]
def ax : List Bool := [false, false, false, false, false, false, false, true, false, false, true, false, false, false, true, true, false, true, false, false, false, true, false, true, false, true, true, false, false, true, true, true, true, false, false, false, true, false, false, true, true, false, true, false, true, false, true, true, true, true, false, false, true, true, false, true, true, true, true, false, true, true, true, true]
theorem a_sched : sched (bitsS akey) = aks := by kernel_rfl
def as0 : List Bool × List Bool := ([true, true, false, false, true, true, false, false, false, false, false, false, false, false, false, false, true, true, false, false, true, true, false, false, true, true, true, true, true, true, true, true], [true, true, true, true, false, false, false, false, true, false, true, false, true, false, true, false, true, true, true, true, false, false, false, false, true, false, true, false, true, false, true, false])
def as1 : List Bool × List Bool := ([true, true, true, true, false, false, false, false, true, false, true, false, true, false, true, false, true, true, true, true, false, false, false, false, true, false, true, false, true, false, true, false], [true, true, true, false, true, true, true, true, false, true, false, false, true, false, true, false, false, true, true, false, false, true, false, true, false, true, false, false, false, true, false, false])
def as2 : List Bool × List Bool := ([true, true, true, false, true, true, true, true, false, true, false, false, true, false, true, false, false, true, true, false, false, true, false, true, false, true, false, false, false, true, false, false], [true, true, false, false, true, true, false, false, false, false, false, false, false, false, false, true, false, true, true, true, false, true, true, true, false, false, false, false, true, false, false, true])
def as3 : List Bool × List Bool := ([true, true, false, false, true, true, false, false, false, false, false, false, false, false, false, true, false, true, true, true, false, true, true, true, false, false, false, false, true, false, false, true], [true, false, true, false, false, false, true, false, false, true, false, true, true, true, false, false, false, false, false, false, true, false, true, true, true, true, true, true, false, true, false, false])
def as4 : List Bool × List Bool := ([true, false, true, false, false, false, true, false, false, true, false, true, true, true, false, false, false, false, false, false, true, false, true, true, true, true, true, true, false, true, false, false], [false, true, true, true, false, true, true, true, false, false, true, false, false, false, true, false, false, false, false, false, false, false, false, false, false, true, false, false, false, true, false, true])
def as5 : List Bool × List Bool := ([false, true, true, true, false, true, true, true, false, false, true, false, false, false, true, false, false, false, false, false, false, false, false, false, false, true, false, false, false, true, false, true], [true, false, false, false, true, false, true, false, false, true, false, false, true, true, true, true, true, false, true, false, false, true, true, false, false, false, true, true, false, true, true, true])
def as6 : List Bool × List Bool := ([true, false, false, false, true, false, true, false, false, true, false, false, true, true, true, true, true, false, true, false, false, true, true, false, false, false, true, true, false, true, true, true], [true, true, true, false, true, false, false, true, false, true, true, false, false, true, true, true, true, true, false, false, true, true, false, true, false, true, true, false, true, false, false, true])
def as7 : List Bool × List Bool := ([true, true, true, false, true, false, false, true, false, true, true, false, false, true, true, true, true, true, false, false, true, true, false, true, false, true, true, false, true, false, false, true], [false, false, false, false, false, true, true, false, false, true, false, false, true, false, true, false, true, false, true, true, true, false, true, false, false, false, false, true, false, false, false, false])
def as8 : List Bool × List Bool := ([false, false, false, false, false, true, true, false, false, true, false, false, true, false, true, false, true, false, true, true, true, false, true, false, false, false, false, true, false, false, false, false], [true, true, false, true, false, true, false, true, false, true, true, false, true, false, false, true, false, true, false, false, true, false, true, true, true, false, false, true, false, false, false, false])
def as9 : List Bool × List Bool := ([true, true, false, true, false, true, false, true, false, true, true, false, true, false, false, true, false, true, false, false, true, false, true, true, true, false, false, true, false, false, false, false], [false, false, true, false, false, true, false, false, false, true, true, true, true, true, false, false, true, true, false, false, false, true, true, false, false, true, true, true, true, false, true, false])
def as10 : List Bool × List Bool := ([false, false, true, false, false, true, false, false, false, true, true, true, true, true, false, false, true, true, false, false, false, true, true, false, false, true, true, true, true, false, true, false], [true, false, true, true, false, true, true, true, true, true, false, true, false, true, false, true, true, true, false, true, false, true, true, true, true, false, true, true, false, false, true, false])
def as11 : List Bool × List Bool := ([true, false, true, true, false, true, true, true, true, true, false, true, false, true, false, true, true, true, false, true, false, true, true, true, true, false, true, true, false, false, true, false], [true, true, false, false, false, true, false, true, false, true, true, true, true, false, false, false, false, false, true, true, true, true, false, false, false, true, true, true, true, false, false, false])
def as12 : List Bool × List Bool := ([true, true, false, false, false, true, false, true, false, true, true, true, true, false, false, false, false, false, true, true, true, true, false, false, false, true, true, true, true, false, false, false], [false, true, true, true, false, true, false, true, true, false, true, true, true, true, false, true, false, false, false, true, true, false, false, false, false, true, false, true, true, false, false, false])
def as13 : List Bool × List Bool := ([false, true, true, true, false, true, false, true, true, false, true, true, true, true, false, true, false, false, false, true, true, false, false, false, false, true, false, true, true, false, false, false], [false, false, false, true, true, false, false, false, true, true, false, false, false, false, true, true, false, false, false, true, false, true, false, true, false, true, false, true, true, false, true, false])
def as14 : List Bool × List Bool := ([false, false, false, true, true, false, false, false, true, true, false, false, false, false, true, true, false, false, false, true, false, true, false, true, false, true, false, true, true, false, true, false], [true, true, false, false, false, false, true, false, true, false, false, false, true, true, false, false, true, false, false, true, false, true, true, false, false, false, false, false, true, true, false, true])
def as15 : List Bool × List Bool := ([true, true, false, false, false, false, true, false, true, false, false, false, true, true, false, false, true, false, false, true, false, true, true, false, false, false, false, false, true, true, false, true], [false, true, false, false, false, false, true, true, false, true, false, false, false, false, true, false, false, false, true, true, false, false, true, false, false, false, true, true, false, true, false, false])
def as16 : List Bool × List Bool := ([false, true, false, false, false, false, true, true, false, true, false, false, false, false, true, false, false, false, true, true, false, false, true, false, false, false, true, true, false, true, false, false], [false, false, false, false, true, false, true, false, false, true, false, false, true, true, false, false, true, true, false, true, true, false, false, true, true, false, false, true, false, true, false, true])
theorem a_in : ((tk tIn ax).take 32, (tk tIn ax).drop 32) = as0 := by kernel_rfl
theorem a_r0 : rnd as0 ak0 = as1 := by kernel_rfl
theorem a_r1 : rnd as1 ak1 = as2 := by kernel_rfl
theorem a_r2 : rnd as2 ak2 = as3 := by kernel_rfl
theorem a_r3 : rnd as3 ak3 = as4 := by kernel_rfl
theorem a_r4 : rnd as4 ak4 = as5 := by kernel_rfl
theorem a_r5 : rnd as5 ak5 = as6 := by kernel_rfl
theorem a_r6 : rnd as6 ak6 = as7 := by kernel_rfl
theorem a_r7 : rnd as7 ak7 = as8 := by kernel_rfl
theorem a_r8 : rnd as8 ak8 = as9 := by kernel_rfl
theorem a_r9 : rnd as9 ak9 = as10 := by kernel_rfl
theorem a_r10 : rnd as10 ak10 = as11 := by kernel_rfl
theorem a_r11 : rnd as11 ak11 = as12 := by kernel_rfl
theorem a_r12 : rnd as12 ak12 = as13 := by kernel_rfl
theorem a_r13 : rnd as13 ak13 = as14 := by kernel_rfl
theorem a_r14 : rnd as14 ak14 = as15 := by kernel_rfl
theorem a_r15 : rnd as15 ak15 = as16 := by kernel_rfl
def ay : List Bool := [true, false, false, false, false, true, false, true, true, true, true, false, true, false, false, false, false, false, false, true, false, false, true, true, false, true, false, true, false, true, false, false, false, false, false, false, true, true, true, true, false, false, false, false, true, false, true, false, true, false, true, true, false, true, false, false, false, false, false, false, false, true, false, true]
theorem a_out : tk tOut (as16.2 ++ as16.1) = ay := by kernel_rfl
theorem a_des : des aks ax = ay := by
  unfold des
  rw [a_in, aks]
  simp only [List.foldl_cons, List.foldl_nil, a_r0, a_r1, a_r2, a_r3, a_r4, a_r5, a_r6, a_r7, a_r8, a_r9, a_r10, a_r11, a_r12, a_r13, a_r14, a_r15]
  exact a_out
def bk0 : List Bool := [false, false, false, false, false, false, false, false, false, false, false, false, false, false, false, false, false, false, false, false, false, false, false, false, false, false, false, false, false, false, false, false, false, false, false, false, false, false, false, false, false, false, false, false, false, false, false, false]
def bk1 : List Bool := [false, false, false, false, false, false, false, false, false, false, false, false, false, false, false, false, false, false, false, false, false, false, false, false, false, false, false, false, false, false, false, false, false, false, false, false, false, false, false, false, false, false, false, false, false, false, false, false]
def bk2 : List Bool := [false, false, false, false, false, false, false, false, false, false, false, false, false, false, false, false, false, false, false, false, false, false, false, false, false, false, false, false, false, false, false, false, false, false, false, false, false, false, false, false, false, false, false, false, false, false, false, false]
def bk3 : List Bool := [false, false, false, false, false, false, false, false, false, false, false, false, false, false, false, false, false, false, false, false, false, false, false, false, false, false, false, false, false, false, false, false, false, false, false, false, false, false, false, false, false, false, false, false, false, false, false, false]
def bk4 : List Bool := [false, false, false, false, false, false, false, false, false, false, false, false, false, false, false, false, false, false, false, false, false, false, false, false, false, false, false, false, false, false, false, false, false, false, false, false, false, false, false, false, false, false, false, false, false, false, false, false]
def bk5 : List Bool := [false, false, false, false, false, false, false, false, false, false, false, false, false, false, false, false, false, false, false, false, false, false, false, false, false, false, false, false, false, false, false, false, false, false, false, false, false, false, false, false, false, false, false, false, false, false, false, false]
def bk6 : List Bool := [false, false, false, false, false, false, false, false, false, false, false, false, false, false, false, false, false, false, false, false, false, false, false, false, false, false, false, false, false, false, false, false, false, false, false, false, false, false, false, false, false, false, false, false, false, false, false, false]
def bk7 : List Bool := [false, false, false, false, false, false, false, false, false, false, false, false, false, false, false, false, false, false, false, false, false, false, false, false, false, false, false, false, false, false, false, false, false, false, false, false, false, false, false, false, false, false, false, false, false, false, false, false]
def bk8 : List Bool := [false, false, false, false, false, false, false, false, false, false, false, false, false, false, false, false, false, false, false, false, false, false, false, false, false, false, false, false, false, false, false, false, false, false, false, false, false, false, false, false, false, false, false, false, false, false, false, false]
def bk9 : List Bool := [false, false, false, false, false, false, false, false, false, false, false, false, false, false, false, false, false, false, false, false, false, false, false, false, false, false, false, false, false, false, false, false, false, false, false, false, false, false, false, false, false, false, false, false, false, false, false, false]
def bk10 : List Bool := [false, false, false, false, false, false, false, false, false, false, false, false, false, false, false, false, false, false, false, false, false, false, false, false, false, false, false, false, false, false, false, false, false, false, false, false, false, false, false, false, false, false, false, false, false, false, false, false]
def bk11 : List Bool := [false, false, false, false, false, false, false, false, false, false, false, false, false, false, false, false, false, false, false, false, false, false, false, false, false, false, false, false, false, false, false, false, false, false, false, false, false, false, false, false, false, false, false, false, false, false, false, false]
def bk12 : List Bool := [false, false, false, false, false, false, false, false, false, false, false, false, false, false, false, false, false, false, false, false, false, false, false, false, false, false, false, false, false, false, false, false, false, false, false, false, false, false, false, false, false, false, false, false, false, false, false, false]
def bk13 : List Bool := [false, false, false, false, false, false, false, false, false, false, false, false, false, false, false, false, false, false, false, false, false, false, false, false, false, false, false, false, false, false, false, false, false, false, false, false, false, false, false, false, false, false, false, false, false, false, false, false]
def bk14 : List Bool := [false, false, false, false, false, false, false, false, false, false, false, false, false, false, false, false, false, false, false, false, false, false, false, false, false, false, false, false, false, false, false, false, false, false, false, false, false, false, false, false, false, false, false, false, false, false, false, false]
def bk15 : List Bool := [false, false, false, false, false, false, false, false, false, false, false, false, false, false, false, false, false, false, false, false, false, false, false, false, false, false, false, false, false, false, false, false, false, false, false, false, false, false, false, false, false, false, false, false, false, false, false, false]
def bks : List (List Bool) := [bk0, bk1, bk2, bk3, bk4, bk5, bk6, bk7, bk8, bk9, bk10, bk11, bk12, bk13, bk14, bk15]
def bkey : List UInt8 := [0, 0, 0, 0, 0, 0, 0, 0]
def bx : List Bool := [false, false, false, false, false, false, false, false, false, false, false, false, false, false, false, false, false, false, false, false, false, false, false, false, false, false, false, false, false, false, false, false, false, false, false, false, false, false, false, false, false, false, false, false, false, false, false, false, false, false, false, false, false, false, false, false, false, false, false, false, false, false, false, false]
theorem b_sched : sched (bitsS bkey) = bks := by kernel_rfl
def bs0 : List Bool × List Bool := ([false, false, false, false, false, false, false, false, false, false, false, false, false, false, false, false, false, false, false, false, false, false, false, false, false, false, false, false, false, false, false, false], [false, false, false, false, false, false, false, false, false, false, false, false, false, false, false, false, false, false, false, false, false, false, false, false, false, false, false, false, false, false, false, false])
def bs1 : List Bool × List Bool := ([false, false, false, false, false, false, false, false, false, false, false, false, false, false, false, false, false, false, false, false, false, false, false, false, false, false, false, false, false, false, false, false], [true, true, false, true, true, false, false, false, true, true, false, true, true, false, false, false, true, true, false, true, true, false, true, true, true, false, true, true, true, true, false, false])
def bs2 : List Bool × List Bool := ([true, true, false, true, true, false, false, false, true, true, false, true, true, false, false, false, true, true, false, true, true, false, true, true, true, false, true, true, true, true, false, false], [true, true, true, false, false, true, true, true, false, false, true, true, true, false, true, false, true, true, true, false, true, true, false, true, false, true, false, false, true, true, true, true])
def bs3 : List Bool × List Bool := ([true, true, true, false, false, true, true, true, false, false, true, true, true, false, true, false, true, true, true, false, true, true, false, true, false, true, false, false, true, true, true, true], [false, true, false, true, true, false, true, true, true, true, true, true, true, false, true, false, false, true, true, false, true, false, true, true, true, false, true, false, false, true, true, false])
def bs4 : List Bool × List Bool := ([false, true, false, true, true, false, true, true, true, true, true, true, true, false, true, false, false, true, true, false, true, false, true, true, true, false, true, false, false, true, true, false], [false, true, false, true, true, true, true, false, false, true, false, false, false, true, false, true, true, true, true, false, false, false, true, false, false, true, false, true, false, true, true, true])
def bs5 : List Bool × List Bool := ([false, true, false, true, true, true, true, false, false, true, false, false, false, true, false, true, true, true, true, false, false, false, true, false, false, true, false, true, false, true, true, true], [true, false, false, false, true, false, true, true, false, false, false, true, true, false, false, true, false, true, true, true, true, false, true, true, true, true, true, false, false, false, false, false])
def bs6 : List Bool × List Bool := ([true, false, false, false, true, false, true, true, false, false, false, true, true, false, false, true, false, true, true, true, true, false, true, true, true, true, true, false, false, false, false, false], [true, true, true, true, true, true, false, true, true, true, true, false, true, false, false, true, true, false, false, false, true, false, false, true, false, true, false, false, true, false, true, false])
def bs7 : List Bool × List Bool := ([true, true, true, true, true, true, false, true, true, true, true, false, true, false, false, true, true, false, false, false, true, false, false, true, false, true, false, false, true, false, true, false], [false, false, false, true, true, false, false, true, true, true, false, true, true, true, true, true, false, false, false, false, true, false, true, true, false, true, false, true, true, true, false, false])
def bs8 : List Bool × List Bool := ([false, false, false, true, true, false, false, true, true, true, false, true, true, true, true, true, false, false, false, false, true, false, true, true, false, true, false, true, true, true, false, false], [true, false, false, true, false, false, false, false, false, true, true, true, true, false, true, false, false, false, false, true, false, false, true, true, true, true, true, true, false, false, false, false])
def bs9 : List Bool × List Bool := ([true, false, false, true, false, false, false, false, false, true, true, true, true, false, true, false, false, false, false, true, false, false, true, true, true, true, true, true, false, false, false, false], [true, false, false, false, true, false, false, false, false, false, false, true, true, false, false, true, false, false, false, false, true, true, false, false, false, true, false, true, false, false, false, false])
def bs10 : List Bool × List Bool := ([true, false, false, false, true, false, false, false, false, false, false, true, true, false, false, true, false, false, false, false, true, true, false, false, false, true, false, true, false, false, false, false], [false, false, true, false, false, true, false, true, true, true, false, true, false, false, false, true, false, true, false, true, false, false, false, true, false, true, true, true, true, true, false, false])
def bs11 : List Bool × List Bool := ([false, false, true, false, false, true, false, true, true, true, false, true, false, false, false, true, false, true, false, true, false, false, false, true, false, true, true, true, true, true, false, false], [true, true, true, true, false, false, true, true, true, true, true, false, true, true, true, true, true, false, false, true, false, false, false, true, false, true, true, true, true, true, true, false])
def bs12 : List Bool × List Bool := ([true, true, true, true, false, false, true, true, true, true, true, false, true, true, true, true, true, false, false, true, false, false, false, true, false, true, true, true, true, true, true, false], [true, false, false, true, false, true, true, false, true, true, true, false, false, false, true, true, true, false, false, true, false, true, true, true, false, false, false, true, false, false, true, false])
def bs13 : List Bool × List Bool := ([true, false, false, true, false, true, true, false, true, true, true, false, false, false, true, true, true, false, false, true, false, true, true, true, false, false, false, true, false, false, true, false], [false, true, false, true, true, false, true, false, false, true, false, true, true, true, false, true, true, false, true, false, false, false, true, true, false, true, false, false, true, false, true, false])
def bs14 : List Bool × List Bool := ([false, true, false, true, true, false, true, false, false, true, false, true, true, true, false, true, true, false, true, false, false, false, true, true, false, true, false, false, true, false, true, false], [false, false, false, false, false, true, false, true, true, false, false, false, true, true, false, false, true, false, true, false, true, true, false, true, false, false, false, false, true, false, true, false])
def bs15 : List Bool × List Bool := ([false, false, false, false, false, true, false, true, true, false, false, false, true, true, false, false, true, false, true, false, true, true, false, true, false, false, false, false, true, false, true, false], [true, false, true, true, true, false, true, true, true, true, true, false, true, false, true, false, false, false, false, false, true, true, false, true, true, true, false, false, false, false, true, false])
def bs16 : List Bool × List Bool := ([true, false, true, true, true, false, true, true, true, true, true, false, true, false, true, false, false, false, false, false, true, true, false, true, true, true, false, false, false, false, true, false], [false, false, false, true, true, true, false, false, false, false, true, false, false, false, false, false, true, false, false, false, false, true, true, true, true, true, true, true, true, true, false, false])
theorem b_in : ((tk tIn bx).take 32, (tk tIn bx).drop 32) = bs0 := by kernel_rfl
theorem b_r0 : rnd bs0 bk0 = bs1 := by kernel_rfl
theorem b_r1 : rnd bs1 bk1 = bs2 := by kernel_rfl
theorem b_r2 : rnd bs2 bk2 = bs3 := by kernel_rfl
theorem b_r3 : rnd bs3 bk3 = bs4 := by kernel_rfl
theorem b_r4 : rnd bs4 bk4 = bs5 := by kernel_rfl
theorem b_r5 : rnd bs5 bk5 = bs6 := by kernel_rfl
theorem b_r6 : rnd bs6 bk6 = bs7 := by kernel_rfl
theorem b_r7 : rnd bs7 bk7 = bs8 := by kernel_rfl
theorem b_r8 : rnd bs8 bk8 = bs9 := by kernel_rfl
theorem b_r9 : rnd bs9 bk9 = bs10 := by kernel_rfl
theorem b_r10 : rnd bs10 bk10 = bs11 := by kernel_rfl
theorem b_r11 : rnd bs11 bk11 = bs12 := by kernel_rfl
theorem b_r12 : rnd bs12 bk12 = bs13 := by kernel_rfl
theorem b_r13 : rnd bs13 bk13 = bs14 := by kernel_rfl
theorem b_r14 : rnd bs14 bk14 = bs15 := by kernel_rfl
theorem b_r15 : rnd bs15 bk15 = bs16 := by kernel_rfl
def byy : List Bool := [true, false, false, false, true, true, false, false, true, false, true, false, false, true, true, false, false, true, false, false, true, true, false, true, true, true, true, false, true, false, false, true, true, true, false, false, false, false, false, true, true, false, true, true, false, false, false, true, false, false, true, false, false, false, true, true, true, false, true, false, false, true, true, true]
theorem b_out : tk tOut (bs16.2 ++ bs16.1) = byy := by kernel_rfl
theorem b_des : des bks bx = byy := by
  unfold des
  rw [b_in, bks]
  simp only [List.foldl_cons, List.foldl_nil, b_r0, b_r1, b_r2, b_r3, b_r4, b_r5, b_r6, b_r7, b_r8, b_r9, b_r10, b_r11, b_r12, b_r13, b_r14, b_r15]
  exact b_out
def ap : List UInt8 := [1, 35, 69, 103, 137, 171, 205, 239]
theorem a_sc : sc akey 0 = aks := by
  rw [sc, show pt akey 0 = akey from rfl]; exact a_sched
theorem a_enc : enc akey (blk ap 0) = ay := by
  rw [enc, if_pos (show akey.length = 8 from rfl), a_sc, show blk ap 0 = ax by kernel_rfl]; exact a_des
theorem a_map : mapB (enc akey) ap = [133, 232, 19, 84, 15, 10, 180, 5] := by
  rw [mapB, show ap.length / 8 = 1 from rfl, outN_succ, a_enc]; kernel_rfl
theorem b_sc : sc bkey 0 = bks := by
  rw [sc, show pt bkey 0 = bkey from rfl]; exact b_sched
theorem b_enc : enc bkey bx = byy := by
  rw [enc, if_pos (show bkey.length = 8 from rfl), b_sc]; exact b_des
theorem b_take : (byW (enc bkey bx)).take 3 = [140, 166, 77] := by rw [b_enc]; kernel_rfl
end Go.Proofs.YtpifebapodfeaaaGreat.Kn
/- Check; known. -/
namespace Go.Proofs.YtpifebapodfeaaaGreat.Ck
set_option linter.unusedVariables false
open Go.RowKit Pla Cb Tk Wd Nw Bk Aw Eb Et Kn
open Lib0 (bs bs_length bs_append owns_len run_str own_ge)
def z64 : List Bool := List.replicate 64 false
theorem z64_val : ((val z64 : Nat) : Int) = 0 := by have : val z64 = 0 := by kernel_rfl
                                                    rw [this]; rfl
/-- 'string(b[:3])' -/
theorem run_three {P : Program} {w : World} {src dst e : TypeId} {B : Nat} {v : Value} {l : List UInt8} (hs : P.underlying src = some (.slice e)) (he : P.underlying e = some (.int .u8)) (hd : P.underlying dst = some .string)
    (h : w.ownsRow B e 1 v 8 (bs l)) : ∃ g cap, v = .slice (some ⟨g, 0, none⟩) 8 cap ∧ 8 ≤ cap ∧ (convert src dst (.slice (some ⟨g, 0, none⟩) 3 cap)).run P w = .ok (.string ⟨(l.take 3).toArray⟩) w := by
  rcases h.2 with ⟨rfl, h0⟩ | ⟨g, cap, cur, rfl, hb, hg, hc, hc2, hsz, htk⟩
  · cases h0
  · refine ⟨g, cap, rfl, hc, ?_⟩
    have hown : w.ownsRow B e 1 (.slice (some ⟨g, 0, none⟩) 3 cap) 3 (bs (l.take 3)) := by
      have hl : l.length = 8 := by have := h.1; rw [bs_length] at this; omega
      refine ⟨by rw [bs_length, List.length_take, hl]; decide, .inr ⟨g, cap, cur, rfl, hb, hg, by omega, hc2, hsz, ?_⟩⟩
      have : cur.toList.take (3 * 1) = (cur.toList.take (8 * 1)).take 3 := by rw [List.take_take]; rfl
      rw [this, htk, bs, bs, List.map_take]
    exact run_str hs he hd hown
set_option maxRecDepth 100000 in
set_option maxHeartbeats 1600000 in
theorem check_bad (s : ByteArray) (h : kindN s.size = 0) (w : World) : Calls Tryz.prog 72 #[.string s] w fun e w' => e = .returned (.tuple #[.string ⟨#[]⟩, .int .i64 30]) ∧ w' = w := by
  go_enter Tryz.func72, Tryz.ntmps72
  go_wp2_with (go_at_call 46; refine (new_bad s h _).mono ?_; rintro e x ⟨rfl, rfl⟩)
  exact bodyPost_ret (v := .tuple #[.string ⟨#[]⟩, .int .i64 30]) (by simp [results, Tryz.results72, go_sem]) rfl ⟨rfl, rfl⟩
set_option maxRecDepth 100000 in
set_option maxHeartbeats 1600000 in
theorem check_good (s : ByteArray) (K : Nat) (h : Hid (kindN s.size = K)) (h1 : 1 ≤ K) (h3 : K ≤ 3) (w : World) : Calls Tryz.prog 72 #[.string s] w fun e w' => e = .returned (.tuple #[.string ⟨((byW (enc s.data.toList z64)).take 3).toArray⟩, .int .i64 0]) ∧ Below w.heap.size w w' := by
  have hK : Hid (kindN s.data.toList.length = K ∧ 1 ≤ K) := (⟨by rw [show s.data.toList.length = s.size by simp]; exact h, h1⟩ : kindN s.data.toList.length = K ∧ 1 ≤ K)
  have NE := new_good s K h h1 h3
  have EN := fun g y (hy : Key y g K s.data.toList) => encB s.data.toList g K hK z64 (rfl : z64.length = 64) y hy
  rw [z64_val] at EN
  have AP := fun (y : World) => appw (enc s.data.toList z64) (enc_len _ _) w.heap.size 0 (.slice none 0 0) [] y (World.ownsRow_nil _ _ _ _)
  clear h hK
  go_enter Tryz.func72, Tryz.ntmps72
  go_wp2_with (first
    | (go_at_call 46; refine (NE _).mono ?_; rintro e x ⟨g, rfl, hg, hx, hbx⟩)
    | (go_at_call 62; refine (EN g _ hx).mono ?_; rintro e y ⟨rfl, hy⟩; have hys : w.heap.size ≤ y.heap.size := Nat.le_trans hbx.size hy.size)
    | (go_at_call 80; refine (AP _ hys (by decide)).mono ?_; rintro e z ⟨v, rfl, hown, hz⟩; obtain ⟨gg, cap, rfl, hcap, hcv⟩ := run_three (P := Tryz.prog) (src := 75) (dst := 9) Tryz.underlying75 Tryz.underlying5 Tryz.underlying9 hown; have c1 : (3 : Int) ≤ (cap : Int) := by omega))
  exact bodyPost_ret (v := .tuple #[.string ⟨((byW (enc s.data.toList z64)).take 3).toArray⟩, .int .i64 0]) (by simp [results, Tryz.results72, go_sem]) rfl ⟨rfl, (keepB hbx hy).trans hz⟩
end Go.Proofs.YtpifebapodfeaaaGreat.Ck
