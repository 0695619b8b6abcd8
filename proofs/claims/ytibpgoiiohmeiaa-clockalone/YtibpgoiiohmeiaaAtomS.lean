/- sync/atomic's Int64, alone: Swap alone. -/
import Derived.Test.YtibpgoiiohmeiaaAtom
namespace Go.Proofs.Ytibpgoiiohmeiaa
open Go.RowKit
theorem run_swap64 {a : Addr} {x y : Int} {w : World} (hc : w.cell? a = some (.int .i64 x)) (hz : w.frozen? a = false) : (callFunc 23 #[.pointer (some a), .int .i64 y]).run Try.prog w = .ok (.value (.int .i64 x)) (w.setCell a (.int .i64 y)) := by
  rw [run_callFunc_extern (P := Try.prog) Try.func23 (by kernel_rfl) (by kernel_rfl) (by kernel_rfl) (e := Extern.Atomic.swapT (.int .i64)) (by kernel_rfl)]
  change (Sem.run Try.prog (do
    let a ← asAddr (.pointer (some a))
    let old ← Extern.Atomic.read (.int .i64) a
    store a (.int .i64 y) .atomic
    pure old) w).andThen _ = _
  simp [Extern.Atomic.read, asAddr, hc, hz, run_store Try.prog w a (.int .i64 y) .atomic rfl, Result.andThen]
theorem cASwap {a : Addr} {x y : Int} {w : World} (hc : w.cell? a = some (.int .i64 x)) (hz : w.frozen? a = false) : Calls Try.prog 18 #[.pointer (some a), .int .i64 y] w fun e w' => e = .returned (.int .i64 x) ∧ w' = w.setCell a (.int .i64 y) := by
  have hl := run_swap64 (y := y) hc hz
  obtain ⟨B, o, sp⟩ := a
  go_enter Try.func18, Try.ntmps18
  go_wp2
  go_ret
  exact ⟨rfl, rfl⟩
end Go.Proofs.Ytibpgoiiohmeiaa
