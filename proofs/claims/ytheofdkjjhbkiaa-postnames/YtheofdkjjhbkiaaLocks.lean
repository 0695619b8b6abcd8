/- The numbers under which this dump holds the library's lock, and that it holds it: printed by tools/locklink.py. -/
import Derived.Test.YtheofdkjjhbkiaaProg
import Derived.Conc.MuLib
import Derived.KernelRfl
namespace Go.Proofs.Ytheofdkjjhbkiaa
abbrev Try.muLink : Go.Conc.Locks.MuLink := { lock := 20, unlock := 21, ilock := 46, iunlock := 47, lockSlow := 55, unlockSlow := 57, disable := 24, enable := 25, acquire := 40, relMerge := 23, cas32 := 54, add32 := 56, tMutex := 59, tIMutex := 57, tPMutex := 88, tPIMutex := 106, tPI32 := 108, tUP := 66, tNoCopy := 38, tU32 := 42 }
theorem Try.muLib : Go.Conc.Locks.MuLib Try.prog Try.muLink :=
  ⟨Try.func20, Try.func21, Try.func46, Try.func47, Try.func24, Try.func25, Try.func40, Try.func23, Try.func54, Try.func56, Try.underlying57, Try.runUnderlying57, Try.sizeOf57, Try.isAgg57, Try.zeroValue57, Try.underlying59, Try.runUnderlying59, Try.sizeOf59, Try.isAgg59, Try.zeroValue59, Try.underlying88, Try.runUnderlying88, Try.sizeOf88, Try.isAgg88, Try.zeroValue88, Try.underlying106, Try.runUnderlying106, Try.sizeOf106, Try.isAgg106, Try.zeroValue106, Try.underlying108, Try.runUnderlying108, Try.sizeOf108, Try.isAgg108, Try.zeroValue108, Try.underlying66, Try.runUnderlying66, Try.sizeOf66, Try.isAgg66, Try.zeroValue66, Try.underlying38, Try.runUnderlying38, Try.sizeOf38, Try.isAgg38, Try.zeroValue38, Try.underlying21, Try.runUnderlying21, Try.sizeOf21, Try.isAgg21, Try.zeroValue21, (by kernel_rfl)⟩
end Go.Proofs.Ytheofdkjjhbkiaa
