/- Package pool's lives, by contract; a call as one operation of a region. -/
import Derived.Test.YtfebndolnnaiiabPoolMem
import Derived.Test.YtfebndolnnaiiabAtomP
import Derived.Test.YtfebndolnnaiiabReads
import Derived.Conc.MuLone
namespace Go.Proofs.Ytfebndolnnaiiab
open Go.RowKit
section
variable {P : Program} {o : Oper} {a : Act} {w w' : World} {K : Act → World → Prop} {Q : Exit → Act → World → Prop} {d : Option Nat}
theorem l_call {f : FuncId} {fn : Func} {c : Code} {args : Array Operand} {tys : Array TypeId} {xs : Array Value} {v : Value} (hd : o.dst = d) (h : o.op = .call { callee := .value (.func f), args := args, argTypes := tys }) (hx : args.map a.eval = xs)
    (hf : P.funcs[f]? = some fn) (hname : (fn.name == "runtime.NumGoroutine") = false) (hb : fn.body = some c) (hc : Calls P f xs w fun e w'' => e = .returned v ∧ w'' = w') (hK : K (a.put d v) w') : o.wp P a w K Q := by
  have hr : (execOp a.eval o).run P w = .ok (.enter f xs) w := by
    simp [execOp, h, resolve, invoke, hx, Deferred.ofValue, Go.MuLone.run_callFunc_enter hf hname hb, Act.eval]
  unfold Oper.wp
  rw [hr, Oper.upon_enter]
  refine hc.mono ?_
  rintro e w'' ⟨rfl, rfl⟩
  rw [hd]
  exact hK
end
abbrev nodeObj (a b c d : Int) : Obj := .cells #[.int .i64 a, .int .i64 b, .int .i64 c, .int .i64 d] 31 (0, 0)
/-- What newLife leaves. -/
def lifeW (w : World) (gen a b c d mark link : Int) : World := (w.alloc (nodeObj a b c d)).alloc (lifeObj ⟨gen, mark, link, a, b, c, d⟩)
theorem cNewLife (w : World) (gen a b c d mark link : Int) : Calls Try.prog 23 #[.int .i64 gen, .agg #[.int .i64 a, .int .i64 b, .int .i64 c, .int .i64 d], .int .i64 mark, .int .i64 link] w fun e w' => e = .returned (.pointer (some ⟨w.heap.size + 1, 0, none⟩)) ∧ w' = lifeW w gen a b c d mark link := by
  go_enter Try.func23, Try.ntmps23
  go_wp2_with (go_at_call 36; refine (cAStoreE (by go_simp) (by go_simp)).mono ?_; rintro e w' ⟨rfl, rfl⟩)
  go_ret
  exact ⟨by simp, rfl⟩
theorem cGiven (w : World) (gen : Int) : Calls Try.prog 26 #[.int .i64 gen] w fun e w' => e = .returned (.pointer (some ⟨w.heap.size + 1, 0, none⟩)) ∧ w' = lifeW w gen (-7777777) (-7777777) (-7777777) (-7777777) (-7777777) (-7777777) := by
  have HN := cNewLife w gen (-7777777) (-7777777) (-7777777) (-7777777) (-7777777) (-7777777)
  go_enter Try.func26, Try.ntmps26
  go_wp2_with (go_at_call 23; refine HN.mono ?_; rintro e w' ⟨rfl, hw⟩; obtain rfl := hw.symm)
  go_ret
  exact ⟨rfl, rfl⟩
theorem lifeW_size (w : World) (gen a b c d mark link : Int) : (lifeW w gen a b c d mark link).heap.size = w.heap.size + 2 := by simp [lifeW]
theorem lifeW_new (w : World) (gen a b c d mark link : Int) : (lifeW w gen a b c d mark link).heap[w.heap.size + 1]? = some (lifeObj ⟨gen, mark, link, a, b, c, d⟩) := by
  have h := blk_new (w.alloc (nodeObj a b c d)) (lifeObj ⟨gen, mark, link, a, b, c, d⟩)
  rwa [show (w.alloc (nodeObj a b c d)).heap.size = w.heap.size + 1 from by simp] at h
theorem lifeW_turned (l : List Nat) (w : World) (gen a b c d mark link : Int) : Turned l w (lifeW w gen a b c d mark link) := ((Turned.refl _ _).alloc _).alloc _
theorem lifeW_old {w : World} {r : Nat} {o : Obj} (h : w.heap[r]? = some o) (gen a b c d mark link : Int) : (lifeW w gen a b c d mark link).heap[r]? = some o := (lifeW_turned [] w gen a b c d mark link).heap h (by simp)
end Go.Proofs.Ytfebndolnnaiiab
