/- Single operations, run; a call as one operation of a region. -/
import Derived.Test.YtibpgoiiohmeiaaReads
import Derived.Conc.MuLone
namespace Go.Proofs.Ytibpgoiiohmeiaa
open Go.RowKit
def pv (b k : Nat) : Value := .pointer (some ⟨b, k, none⟩)
section
variable {P : Program} {o : Oper} {a : Act} {w w' : World} {K : Act → World → Prop} {Q : Exit → Act → World → Prop} {d : Option Nat}
theorem l_call {f : FuncId} {fn : Func} {c : Code} {args : Array Operand} {tys : Array TypeId} {xs : Array Value} {v : Value} (hd : o.dst = d) (h : o.op = .call { callee := .value (.func f), args := args, argTypes := tys }) (hx : args.map a.eval = xs)
    (hf : P.funcs[f]? = some fn) (hname : (fn.name == "runtime.NumGoroutine") = false) (hb : fn.body = some c) (hc : Calls P f xs w fun e w'' => e = .returned v ∧ w'' = w') (hK : K (a.put d v) w') : o.wp P a w K Q := by
  have hr : (execOp a.eval o).run P w = .ok (.enter f xs) w := by
    simp [execOp, h, resolve, invoke, hx, Deferred.ofValue, Go.MuLone.run_callFunc_enter hf hname hb, Act.eval]
  unfold Oper.wp
  rw [hr, Oper.upon_enter]
  refine hc.mono ?_
  rintro e w'' ⟨rfl, rfl⟩
  rw [hd]
  exact hK
end
section
variable {P : Program} {ρ : Operand → Value} {o : Oper} {w w' : World} {v : Value}
theorem x_field {t : TypeId} {x : Operand} {k : Nat} (h : o.op = .fieldAddr t x k) (hr : (Instr.fieldAt t (ρ x) k).run P w = .ok v w') : (execOp ρ o).run P w = .ok (.value v) w' := by simp [execOp, h, hr, Result.andThen]
theorem x_index {t : TypeId} {x y : Operand} (h : o.op = .indexAddr t x y) (hr : (Instr.indexAt t (ρ x) (ρ y)).run P w = .ok v w') : (execOp ρ o).run P w = .ok (.value v) w' := by simp [execOp, h, hr, Result.andThen]
theorem x_build {t : TypeId} {ps : Array (Nat × Operand)} {qs : Array (Nat × Value)} (h : o.op = .build t ps) (hq : ps.map (fun (i, x) => (i, ρ x)) = qs) (hr : (Instr.build t qs).run P w = .ok v w') : (execOp ρ o).run P w = .ok (.value v) w' := by
  subst hq
  simp [execOp, h, hr, Result.andThen]
theorem x_bin {op : BinOp} {t u : TypeId} {x y : Operand} {a b : Value} (h : o.op = .binOp op t x y u) (hx : ρ x = a) (hy : ρ y = b) (hg : (eqGuard op t x y a b).run P w = .ok () w) (hr : (binOp op t a b).run P w = .ok v w') : (execOp ρ o).run P w = .ok (.value v) w' := by
  simp [execOp, h, hx, hy, hg, hr, Result.andThen]
end
theorem ty_is {ops : Array Oper} {i : Nat} {o : Oper} {t : TypeId} (h : (ops[i]?).map (fun o : Oper => o.type) = some t) (ho : ops[i]? = some o) : o.type = t := by rw [ho] at h; simpa using h
section
variable {P : Program} {ρ : Operand → Value} {o : Oper} {w w' : World} {v : Value}
theorem x_bslice {t : TypeId} {len : Nat} {ps : Array (Nat × Operand)} {qs : Array (Nat × Value)} (h : o.op = .buildSlice t len ps) (hq : ps.map (fun (i, x) => (i, ρ x)) = qs) (hr : (Instr.buildSlice t len qs).run P w = .ok v w') : (execOp ρ o).run P w = .ok (.value v) w' := by
  subst hq
  simp [execOp, h, hr, Result.andThen]
theorem x_append {s x : Operand} {t ty : TypeId} {a b : Value} (h : o.op = .call { callee := .builtin .append, args := #[s, x], argTypes := #[t, t] }) (hty : o.type = ty) (hs : ρ s = a) (hx : ρ x = b) (hr : (Builtin.append_ #[t, t] ty #[a, b]).run P w = .ok v w') : (execOp ρ o).run P w = .ok (.value v) w' := by
  subst hty
  simp only [execOp, h, resolve, invoke, builtin, Sem.run_bind, Sem.run_pure, Result.andThen_ok, List.map_toArray, List.map_cons, List.map_nil, hs, hx, hr]
end
theorem ev_same {a a' : Act} {s : Nat} (h : a'.tmps[s]? = a.tmps[s]?) : a'.eval (.tmp s) = a.eval (.tmp s) := by
  simp only [Act.eval, Array.getD_eq_getD_getElem?, h]
theorem not_low {D : List (Option Nat)} {s n : Nat} (hs : s < n) (h : D.all (fun d => match d with | none => true | some x => decide (n ≤ x)) = true) : some s ∉ D := fun hm => by
  have := List.all_eq_true.1 h _ hm
  simp at this
  omega
end Go.Proofs.Ytibpgoiiohmeiaa
