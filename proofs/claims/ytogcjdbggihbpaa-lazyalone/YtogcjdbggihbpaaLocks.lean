/- The numbers under which this dump holds the library's lock, and that it holds it: printed by tools/locklink.py. -/
import Derived.Test.YtogcjdbggihbpaaProg
import Derived.Conc.MuLib
import Derived.KernelRfl
namespace Go.Proofs.Ytogcjdbggihbpaa
abbrev Try.muLink : Go.Conc.Locks.MuLink := { lock := 51, unlock := 52, ilock := 66, iunlock := 67, lockSlow := 94, unlockSlow := 96, disable := 72, enable := 73, acquire := 86, relMerge := 71, cas32 := 93, add32 := 95, tMutex := 83, tIMutex := 81, tPMutex := 145, tPIMutex := 168, tPI32 := 170, tUP := 89, tNoCopy := 76, tU32 := 77 }
theorem Try.muLib : Go.Conc.Locks.MuLib Try.prog Try.muLink :=
  ⟨Try.func51, Try.func52, Try.func66, Try.func67, Try.func72, Try.func73, Try.func86, Try.func71, Try.func93, Try.func95, Try.underlying81, Try.runUnderlying81, Try.sizeOf81, Try.isAgg81, Try.zeroValue81, Try.underlying83, Try.runUnderlying83, Try.sizeOf83, Try.isAgg83, Try.zeroValue83, Try.underlying145, Try.runUnderlying145, Try.sizeOf145, Try.isAgg145, Try.zeroValue145, Try.underlying168, Try.runUnderlying168, Try.sizeOf168, Try.isAgg168, Try.zeroValue168, Try.underlying170, Try.runUnderlying170, Try.sizeOf170, Try.isAgg170, Try.zeroValue170, Try.underlying89, Try.runUnderlying89, Try.sizeOf89, Try.isAgg89, Try.zeroValue89, Try.underlying76, Try.runUnderlying76, Try.sizeOf76, Try.isAgg76, Try.zeroValue76, Try.underlying21, Try.runUnderlying21, Try.sizeOf21, Try.isAgg21, Try.zeroValue21, (by kernel_rfl)⟩
end Go.Proofs.Ytogcjdbggihbpaa
