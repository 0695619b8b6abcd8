/- Single operations, of whatever program. -/
import Derived.Test.YtbielnehggcaoaaDoorL07
import Derived.Test.YtbielnehggcaoaaDoorRows
import Derived.WalkSmall
namespace Go.Proofs.YtbielnehggcaoaaDoor
open Go.RowKit
/-- An address. -/
def pa (b o : Nat) : Value := .pointer (some ⟨b, o, none⟩)
section
variable {ρ : Operand → Value} {o : Oper} {w : World}
theorem x_notG {x : Operand} {t : TypeId} {b : Bool} (h : o.op = .unOp .not t x) (hx : ρ x = .bool b) : (execOp ρ o).run Tryd.prog w = .ok (.value (.bool !b)) w := by
  simp [execOp, h, hx, Op.unary]
theorem x_pickG {x y z : Operand} {b : Bool} (h : o.op = .pick x y z) (hx : ρ x = .bool b) : (execOp ρ o).run Tryd.prog w = .ok (.value (if b then ρ y else ρ z)) w := by
  simp [execOp, h, hx, asBool]
theorem x_lenG {x : Operand} {t e : TypeId} {a : Option Addr} {n c : Nat} (h : o.op = .call { callee := .builtin .len, args := #[x], argTypes := #[t] }) (hx : ρ x = .slice a n c) (ht : Tryd.prog.underlying t = some (.slice e)) : (execOp ρ o).run Tryd.prog w = .ok (.value (.int .i64 n)) w := by
  simp [execOp, h, resolve, invoke, builtin, hx, Builtin.len_, run_underlying ht, goInt]
theorem x_neqB {x y : Operand} {t : TypeId} {a b : Bool} (h : o.op = .binOp .neq 4 x y t) (hx : ρ x = .bool a) (hy : ρ y = .bool b) : (execOp ρ o).run Tryd.prog w = .ok (.value (.bool (a != b))) w :=
  x_bin h hx hy (by go_simp) (by go_simp; cases a <;> cases b <;> rfl)
theorem x_neqN {x y : Operand} {t : TypeId} {a b : Int} (h : o.op = .binOp .neq 3 x y t) (hx : ρ x = .int .i64 a) (hy : ρ y = .int .i64 b) : (execOp ρ o).run Tryd.prog w = .ok (.value (.bool (a != b))) w :=
  x_bin h hx hy (by go_simp) (by go_simp)
theorem x_eqlN {x y : Operand} {t : TypeId} {a b : Int} (h : o.op = .binOp .eql 3 x y t) (hx : ρ x = .int .i64 a) (hy : ρ y = .int .i64 b) : (execOp ρ o).run Tryd.prog w = .ok (.value (.bool (a == b))) w :=
  x_bin h hx hy (by go_simp) (by go_simp)
theorem x_subN {x y : Operand} {t : TypeId} {a b : Int} (h : o.op = .binOp .sub 3 x y t) (hx : ρ x = .int .i64 a) (hy : ρ y = .int .i64 b) (h0 : -1000000000 ≤ a - b) (h1 : a - b ≤ 1000000000) : (execOp ρ o).run Tryd.prog w = .ok (.value (.int .i64 (a - b))) w := by
  refine x_bin h hx hy (by go_simp) ?_
  have hw : IntKind.i64.wrap (a - b) = a - b := by simp [IntKind.wrap, IntKind.bits, IntKind.signed]; omega
  go_simp
theorem x_addN {x y : Operand} {t : TypeId} {a b : Int} (h : o.op = .binOp .add 3 x y t) (hx : ρ x = .int .i64 a) (hy : ρ y = .int .i64 b) (h0 : -1000000000 ≤ a + b) (h1 : a + b ≤ 1000000000) : (execOp ρ o).run Tryd.prog w = .ok (.value (.int .i64 (a + b))) w := by
  refine x_bin h hx hy (by go_simp) ?_
  have hw : IntKind.i64.wrap (a + b) = a + b := by simp [IntKind.wrap, IntKind.bits, IntKind.signed]; omega
  go_simp
theorem undIntsG : Tryd.prog.underlying 22 = some (.slice 3) := by kernel_rfl
end
end Go.Proofs.YtbielnehggcaoaaDoor
