/-
  errors.Is of a fault and its number; told by contract. (By the verifier; no statement.)
-/
import Derived.Test.YtbnpdfakniebnaaGreatDoorProg
import Derived.Test.YtbnpdfakniebnaaGreatDoorMem
import Derived.WalkKit
import Derived.LaidEql
import Derived.Stop.Asserts
import Derived.RowKitTokens
import Derived.Laws.StructEq
import Derived.Laws.Rows
import Derived.Laws.Tables
namespace Go.Proofs.YtbnpdfakniebnaaGreatDoor
open Go.RowKit Go.Extern.Stop Go.Stop Go.Extern
theorem isTypeOf (v : Value) (w : World) : (Extern.ReflectliteType.typeOf #[.iface 65 v]).run Tryz.prog w = .ok (.iface 188 (.agg #[.pointer (some ⟨10, 65, none⟩)])) w := by kernel_rfl
theorem isComparable (w : World) : (callFunc 250 #[.agg #[.pointer (some ⟨10, 65, none⟩)]]).run Tryz.prog w = .ok (.value (.bool true)) w := by
  have h32 := @run_callFunc_extern Tryz.prog 250 _ (Extern.ReflectliteType.method fun t => do Extern.Rtype.noPackHeld "Comparable" t; pure (.bool (← typeInfo t).comparable)) Tryz.func250 (by kernel_rfl) (by kernel_rfl) (by kernel_rfl) (by kernel_rfl)
  exact (h32 _ w).trans (by kernel_rfl)
theorem isMethodComparable (v : Value) (w : World) : (Go.method 407 188 v "Comparable").run Tryz.prog w = .ok (250, v) w := by kernel_rfl
theorem noIsF (v : Value) (xT : TypeId) (w : World) : (Instr.typeAssert (.iface 61 v) xT 200 true).run Tryz.prog w = .ok (.tuple #[.nilIface, .bool false]) w := run_typeAssert_lacksB Tryz.underlying200 (by kernel_rfl) (by kernel_rfl) v xT w
theorem hasUnwrapF (v : Value) (xT : TypeId) (w : World) : (Instr.typeAssert (.iface 61 v) xT 195 true).run Tryz.prog w = .ok (.tuple #[.iface 61 v, .bool true]) w := run_typeAssert_hasB Tryz.underlying195 (by kernel_rfl) v xT w
theorem methodUnwrap (v : Value) (w : World) : (Go.method 407 61 v "Unwrap").run Tryz.prog w = .ok (242, v) w := by kernel_rfl
theorem eqErrno (e : Int) (w : World) : (binOp .eql 50 (.iface 65 (.int .i64 e)) (.iface 65 (.int .i64 e))).run Tryz.prog w = .ok (.bool true) w := by
  have hi : (Tryz.prog.info? 65).map (·.comparable) = some true := by kernel_rfl
  obtain ⟨i, hi, hc⟩ := Option.map_eq_some_iff.1 hi
  have h : ∀ d : Nat, (Op.equalIn (d + 2) 50 (.iface 65 (.int .i64 e)) (.iface 65 (.int .i64 e))).run Tryz.prog w = .ok true w := fun d => by
    simp [Op.equalIn, run_underlying Tryz.underlying50, run_underlying Tryz.underlying65, typeInfo, hi, hc]
  simp only [binOp]
  simp [Op.equal, Op.maxDepth, h 9998]
set_option maxHeartbeats 1600000 in
/-- errors.Is(f, f.Err). -/
theorem cIsFault {w : World} {fb : Nat} {e : Int} (h1 : w.cell? ⟨fb, 1, none⟩ = some (.int .i64 e)) :
    Calls Tryz.prog 19 #[.iface 61 (.pointer (some ⟨fb, 0, none⟩)), .iface 65 (.int .i64 e)] w fun q w' => q = .returned (.bool true) ∧ w' = w := by
  have h8 := @run_callFunc_extern Tryz.prog 54 _ Extern.ReflectliteType.typeOf Tryz.func54 (by kernel_rfl) (by kernel_rfl) (by kernel_rfl) (by kernel_rfl)
  have tT := isTypeOf
  have cT := isComparable
  have mR := isMethodComparable
  have nW := noIsF
  have uW := hasUnwrapF
  have mU := methodUnwrap
  have heq := eqErrno e w
  have hty := run_eql_iface_types (P := Tryz.prog) 61 65 (.pointer (some ⟨fb, 0, none⟩)) (.int .i64 e) Tryz.underlying50 (by decide) w
  go_enter Tryz.func19, Tryz.ntmps19
  go_wp2
  refine wp_loop_rounds 2 ?_
  rw [rounds_succ]
  go_wp2
  rw [rounds_succ]
  go_wp2
  go_ret
  exact ⟨rfl, rfl⟩
theorem results_cell_tmp {fn : Func} {p q : Tmp} {ty : TypeId} (h : fn.results = #[.cell p ty, .tmp q]) (tmps : Array Value) (w : World) (g : Nat) (cs : Array Value) (hp : tmps.getD p undef = .pointer (some ⟨g, 0, none⟩)) (hl : (loadVar ty ⟨g, 0, none⟩).run Tryz.prog w = .ok (.agg cs) w) :
    (results fn tmps).run Tryz.prog w = .ok (.tuple #[.agg cs, tmps.getD q undef]) w := by
  have hp' : tmps[p]?.getD undef = .pointer (some ⟨g, 0, none⟩) := by simpa using hp
  simp [results, h, hp', asAddr, hl]
/-- An error as Parse and Print answer it: nil, or a fault in a block of its own. -/
def FtAt (w : World) (v : Value) (L E : Int) : Prop := (v = .nilIface ∧ L = 0 ∧ E = 0) ∨ ∃ fb, v = .iface 61 (.pointer (some ⟨fb, 0, none⟩)) ∧ w.heap[fb]? = some (.cells #[.int .i64 L, .int .i64 E] 90 (0, 0)) ∧ E ≠ 0
theorem blkNew (w : World) (o : Obj) : (w.alloc o).heap[w.heap.size]? = some o := blk_new w o
set_option maxHeartbeats 3200000 in
theorem cTold {w : World} {v : Value} {L E : Int} (h : FtAt w v L E) : Calls Tryz.prog 12 #[v] w fun q w' => q = .returned (.tuple #[.agg #[.int .i64 L, .int .i64 E], .bool true]) ∧ Turned [] w w' := by
  rcases h with ⟨rfl, rfl, rfl⟩ | ⟨fb, rfl, hb, he⟩
  · have hn : ∀ w, (binOp .eql 50 .nilIface .nilIface).run Tryz.prog w = .ok (.bool true) w := fun _ => by kernel_rfl
    go_enter Tryz.func12, Tryz.ntmps12
    go_wp2
    refine bodyPost_ret (results_cell_tmp rfl _ _ w.heap.size #[.int .i64 0, .int .i64 0] rfl (run_loadVar_row _ _ 33 _ _ (0, 0) _ (blk_new _ _) Tryz.underlying33 rfl (by kernel_rfl))) rfl ?_
    exact ⟨rfl, (Turned.refl [] w).alloc _⟩
  · have hn : ∀ (v : Value) (w : World), (binOp .eql 50 (.iface 61 v) .nilIface).run Tryz.prog w = .ok (.bool false) w := fun _ _ => by kernel_rfl
    have hta : ∀ (v : Value) (w : World), (Instr.typeAssert (.iface 61 v) 50 61 true).run Tryz.prog w = .ok (.tuple #[v, .bool true]) w := fun _ _ => by kernel_rfl
    have hpn : ∀ (a : Addr) (w : World), (binOp .eql 61 (.pointer (some a)) (.pointer none)).run Tryz.prog w = .ok (.bool false) w := fun _ _ => by kernel_rfl
    have h0 : ∀ o : Obj, (w.alloc o).cell? ⟨fb, 0, none⟩ = some (.int .i64 L) := fun o => by rw [cell_at (blk_old hb o)]; rfl
    have h1 : ∀ o : Obj, (w.alloc o).cell? ⟨fb, 1, none⟩ = some (.int .i64 E) := fun o => by rw [cell_at (blk_old hb o)]; rfl
    have hl : ∀ o : Obj, fb < (w.alloc o).heap.size := fun o => lt_of_heap (blk_old hb o)
    have he0 : (E == 0) = false := by simpa using he
    go_enter Tryz.func12, Tryz.ntmps12
    go_wp2_with (go_at_call 19; refine (cIsFault (h1 _)).mono ?_; rintro r1 w1 ⟨rfl, rfl⟩)
    have h0' := h0 (.cells #[.int .i64 0, .int .i64 0] 33)
    have h1' := h1 (.cells #[.int .i64 0, .int .i64 0] 33)
    have hl' := hl (.cells #[.int .i64 0, .int .i64 0] 33)
    go_region
    all_goals
      go_wp2
      refine bodyPost_ret (results_cell_tmp rfl _ _ w.heap.size #[.int .i64 L, .int .i64 E] rfl (run_loadVar_row _ _ 33 _ _ (0, 0) _ (blk_new _ _) Tryz.underlying33 rfl (by kernel_rfl))) rfl ?_
      exact ⟨rfl, by repeat first | exact Turned.refl _ _ | refine Turned.drew ?_ | refine Turned.alloc ?_ _⟩
end Go.Proofs.YtbnpdfakniebnaaGreatDoor
