/- Single operations, of whatever program. -/
import Derived.Test.YtaaibhgbkdnlbaaJ03
import Derived.Test.YtaaibhgbkdnlbaaRows
import Derived.WalkSmall
import Derived.Test.YtaaibhgbkdnlbaaJ05
namespace Go.Proofs.Ytaaibhgbkdnlbaa
open Go.RowKit
/-- An address. -/
def pa (b o : Nat) : Value := .pointer (some ⟨b, o, none⟩)
section
variable {ρ : Operand → Value} {o : Oper} {w : World}
theorem x_notG {x : Operand} {t : TypeId} {b : Bool} (h : o.op = .unOp .not t x) (hx : ρ x = .bool b) : (execOp ρ o).run Try.prog w = .ok (.value (.bool !b)) w := by
  simp [execOp, h, hx, Op.unary]
theorem x_pickG {x y z : Operand} {b : Bool} (h : o.op = .pick x y z) (hx : ρ x = .bool b) : (execOp ρ o).run Try.prog w = .ok (.value (if b then ρ y else ρ z)) w := by
  simp [execOp, h, hx, asBool]
theorem x_lenG {x : Operand} {t e : TypeId} {a : Option Addr} {n c : Nat} (h : o.op = .call { callee := .builtin .len, args := #[x], argTypes := #[t] }) (hx : ρ x = .slice a n c) (ht : Try.prog.underlying t = some (.slice e)) : (execOp ρ o).run Try.prog w = .ok (.value (.int .i64 n)) w := by
  simp [execOp, h, resolve, invoke, builtin, hx, Builtin.len_, run_underlying ht, goInt]
theorem x_neqB {x y : Operand} {t : TypeId} {a b : Bool} (h : o.op = .binOp .neq 4 x y t) (hx : ρ x = .bool a) (hy : ρ y = .bool b) : (execOp ρ o).run Try.prog w = .ok (.value (.bool (a != b))) w :=
  x_bin h hx hy (by go_simp) (by go_simp; cases a <;> cases b <;> rfl)
theorem x_neqN {x y : Operand} {t : TypeId} {a b : Int} (h : o.op = .binOp .neq 3 x y t) (hx : ρ x = .int .i64 a) (hy : ρ y = .int .i64 b) : (execOp ρ o).run Try.prog w = .ok (.value (.bool (a != b))) w :=
  x_bin h hx hy (by go_simp) (by go_simp)
theorem x_eqlN {x y : Operand} {t : TypeId} {a b : Int} (h : o.op = .binOp .eql 3 x y t) (hx : ρ x = .int .i64 a) (hy : ρ y = .int .i64 b) : (execOp ρ o).run Try.prog w = .ok (.value (.bool (a == b))) w :=
  x_bin h hx hy (by go_simp) (by go_simp)
theorem x_subN {x y : Operand} {t : TypeId} {a b : Int} (h : o.op = .binOp .sub 3 x y t) (hx : ρ x = .int .i64 a) (hy : ρ y = .int .i64 b) (h0 : -1000000000 ≤ a - b) (h1 : a - b ≤ 1000000000) : (execOp ρ o).run Try.prog w = .ok (.value (.int .i64 (a - b))) w := by
  refine x_bin h hx hy (by go_simp) ?_
  have hw : IntKind.i64.wrap (a - b) = a - b := by simp [IntKind.wrap, IntKind.bits, IntKind.signed]; omega
  go_simp
theorem x_addN {x y : Operand} {t : TypeId} {a b : Int} (h : o.op = .binOp .add 3 x y t) (hx : ρ x = .int .i64 a) (hy : ρ y = .int .i64 b) (h0 : -1000000000 ≤ a + b) (h1 : a + b ≤ 1000000000) : (execOp ρ o).run Try.prog w = .ok (.value (.int .i64 (a + b))) w := by
  refine x_bin h hx hy (by go_simp) ?_
  have hw : IntKind.i64.wrap (a + b) = a + b := by simp [IntKind.wrap, IntKind.bits, IntKind.signed]; omega
  go_simp
theorem undIntsG : Try.prog.underlying 40 = some (.slice 3) := by kernel_rfl
end
end Go.Proofs.Ytaaibhgbkdnlbaa
/- Drawn regions in which a chain of operations turn the world: what holds behind each. (Nothing of a program.) -/
namespace Go.Proofs.Ytaaibhgbkdnlbaa
open Go.RowKit
theorem x_extrQ {ρ : Operand → Value} {o : Oper} {w : World} {x : Operand} {k : Nat} {vs : Array Value} {v : Value} (h : o.op = .extract x k) (hx : ρ x = .tuple vs) (hv : vs[k]? = some v) : (execOp ρ o).run Try.prog w = .ok (.value v) w := by
  simp [execOp, h, hx, Instr.extract, hv]
structure StP (k : Nat) (Ph : Nat → (Nat → Value) → World → Prop) (g : Nat × (Nat → Value)) (x : World) : Prop where
  le : g.1 ≤ k
  ph : Ph g.1 g.2 x
def doneP (l : List Nat) (g : Nat × (Nat → Value)) (i : Nat) : Bool := decide (l.idxOf i < g.1)
section
variable {P : Program} {ops : Array Oper} {Q : Exit → Act → World → Prop} {G : Type}
theorem softL {D : List (Option Nat)} {V : G → Nat → Value} {a0 : Act} {As : List Nat} {done : G → Nat → Bool} {St : G → World → Prop} {i : Nat} (hi : i ∉ As)
    (h : ∀ (o : Oper) (a : Act) (w : World) (g : G), ops[i]? = some o → (∀ s, some s ∉ D → a.eval (.tmp s) = a0.eval (.tmp s)) → (∀ j d, D.getD j none = some d → waitsB ops i j = true → a.eval (.tmp d) = V g j) → St g w → (∀ x ∈ As, reachB ops ops.size i x = true → done g x = true) → (∀ x ∈ As, reachB ops ops.size x i = true → done g x = false) → (execOp a.eval o).run P w = .ok (.value (V g i)) w) : YieldsG P ops D V a0 As done St Q i := by
  intro o a w g K ho hd hs hoff hv hS hdn _ hlt hK
  exact l_val hd (h o a w g ho hoff hv hS hdn hlt) (hK g w hS (fun x hx => by have : ¬ x = i := fun e => hi (e ▸ hx); simp [this]) fun _ _ _ => rfl)
end
end Go.Proofs.Ytaaibhgbkdnlbaa
