/- The numbers under which this dump holds sync.Mutex's functions and types. -/
import Derived.Test.YtpifebapodfeaabProg
import Derived.Conc.MuLone
import Derived.KernelRfl
namespace Go.Proofs.Ytpifebapodfeaab.Lk
abbrev muLink : Go.Conc.Locks.MuLink := { lock := 18, unlock := 19, ilock := 37, iunlock := 38, lockSlow := 60, unlockSlow := 63, disable := 56, enable := 58, acquire := 59, relMerge := 61, cas32 := 57, add32 := 62, tMutex := 53, tIMutex := 51, tPMutex := 84, tPIMutex := 100, tPI32 := 102, tUP := 104, tNoCopy := 48, tU32 := 49 }
theorem muLib : Go.Conc.Locks.MuLib Try.prog muLink :=
  ⟨Try.func18, Try.func19, Try.func37, Try.func38, Try.func56, Try.func58, Try.func59, Try.func61, Try.func57, Try.func62, Try.underlying51, Try.runUnderlying51, Try.sizeOf51, Try.isAgg51, Try.zeroValue51, Try.underlying53, Try.runUnderlying53, Try.sizeOf53, Try.isAgg53, Try.zeroValue53, Try.underlying84, Try.runUnderlying84, Try.sizeOf84, Try.isAgg84, Try.zeroValue84, Try.underlying100, Try.runUnderlying100, Try.sizeOf100, Try.isAgg100, Try.zeroValue100, Try.underlying102, Try.runUnderlying102, Try.sizeOf102, Try.isAgg102, Try.zeroValue102, Try.underlying104, Try.runUnderlying104, Try.sizeOf104, Try.isAgg104, Try.zeroValue104, Try.underlying48, Try.runUnderlying48, Try.sizeOf48, Try.isAgg48, Try.zeroValue48, Try.underlying21, Try.runUnderlying21, Try.sizeOf21, Try.isAgg21, Try.zeroValue21, (by kernel_rfl)⟩
end Go.Proofs.Ytpifebapodfeaab.Lk
