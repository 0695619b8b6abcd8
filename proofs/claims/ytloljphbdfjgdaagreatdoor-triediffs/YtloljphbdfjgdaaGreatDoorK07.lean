/- sync/atomic's Int64, alone; a worker that is none waits for no turn. -/
import Derived.Test.YtloljphbdfjgdaaGreatDoorRows
import Derived.Test.YtloljphbdfjgdaaGreatDoorK04
import Derived.Laws.LoneSync
namespace Go.Proofs.YtloljphbdfjgdaaGreatDoor
open Go.RowKit

theorem cStep (w:World):Calls Tryz.prog 71 #[.pointer none] w fun e w'=>e=.returned (.tuple #[])∧w'=w:=by
 go_enter Tryz.func71,Tryz.ntmps71
 go_wp2
 refine bodyPost_ret (results_none rfl _ _ _) rfl ?_
 exact ⟨rfl,rfl⟩
theorem cALoad {a:Addr} {x:Int} {w:World} (hc:w.cell? a=some (.int .i64 x)):Calls Tryz.prog 35 #[.pointer (some a)] w fun e w'=>e=.returned (.int .i64 x)∧w'=w:=by
 have hl:=run_call_load (P:=Tryz.prog) Tryz.func66 (by kernel_rfl) (by kernel_rfl) (by kernel_rfl) .i64 (by kernel_rfl) hc
 obtain ⟨B,o,sp⟩:=a
 go_enter Tryz.func35,Tryz.ntmps35
 go_wp2
 go_ret
 exact ⟨rfl,rfl⟩
theorem cAStore {a:Addr} {x y:Int} {w:World} (hc:w.cell? a=some (.int .i64 x)) (hz:w.frozen? a=false):Calls Tryz.prog 57 #[.pointer (some a),.int .i64 y] w fun e w'=>e=.returned (.tuple #[])∧w'=w.setCell a (.int .i64 y):=by
 have hl:=run_call_store (P:=Tryz.prog) Tryz.func88 (by kernel_rfl) (by kernel_rfl) (by kernel_rfl) (by kernel_rfl) (k:=.i64) (y:=y) hc hz
 obtain ⟨B,o,sp⟩:=a
 go_enter Tryz.func57,Tryz.ntmps57
 go_wp2
 go_end0
 exact ⟨rfl,rfl⟩
theorem cAStoreE {a:Addr} {y:Int} {w:World} (hc:∃ x:Int,w.cell? a=some (.int .i64 x)) (hz:w.frozen? a=false):Calls Tryz.prog 57 #[.pointer (some a),.int .i64 y] w fun e w'=>e=.returned (.tuple #[])∧w'=w.setCell a (.int .i64 y) :=
 let ⟨_,h⟩:=hc
 cAStore h hz
theorem cACas {a:Addr} {x y:Int} {w:World} (hc:w.cell? a=some (.int .i64 x)) (hz:w.frozen? a=false):Calls Tryz.prog 120 #[.pointer (some a),.int .i64 x,.int .i64 y] w fun e w'=>e=.returned (.bool true)∧w'=w.setCell a (.int .i64 y):=by
 have hl:=run_call_cas_hit (P:=Tryz.prog) Tryz.func121 (by kernel_rfl) (by kernel_rfl) (by kernel_rfl) .i64 (by kernel_rfl) (y:=y) hc hz
 obtain ⟨B,o,sp⟩:=a
 go_enter Tryz.func120,Tryz.ntmps120
 go_wp2
 go_ret
 exact ⟨rfl,rfl⟩
end Go.Proofs.YtloljphbdfjgdaaGreatDoor
