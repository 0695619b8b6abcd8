/- The law's comparison: 89 operations that only read, in whatever order. -/
import Derived.Test.YtogcjdbggihbpaaPure
namespace Go.Proofs.Ytogcjdbggihbpaa
open Go.RowKit Go.Conc Go.MuLone
structure Q41 where
  v : Int
  f : Int
  j : Nat
  k : Nat
  g0 : Nat
  g1 : Nat
  g2 : Nat
  g3 : Nat
  g4 : Nat
  g5 : Nat
  g6 : Nat
  g7 : Nat
  c0 : Nat
  c1 : Nat
  c2 : Nat
  c3 : Nat
  c4 : Nat
  c5 : Nat
  c6 : Nat
  c7 : Nat
  z : Nat
  e0 : Nat
  e1 : Nat
  e2 : Nat
  e4 : Nat
  e6 : Nat
  e7 : Nat
  e8 : Nat
  e9 : Nat
  b1 : Bool
  b2 : Bool
  i1 : Int
  i2 : Int
  i3 : Int
/-- What is read. -/
structure F41 (q : Q41) (a0 : Act) (w : World) : Prop where
  hj : q.j < q.k
  s5 : a0.eval (.tmp 5) = .slice (some ⟨q.g3, 0, none⟩) q.k q.c3
  s6 : a0.eval (.tmp 6) = .slice (some ⟨q.g4, 0, none⟩) q.k q.c4
  s7 : a0.eval (.tmp 7) = .slice (some ⟨q.g0, 0, none⟩) q.k q.c0
  s8 : a0.eval (.tmp 8) = .slice (some ⟨q.g1, 0, none⟩) q.k q.c1
  s9 : a0.eval (.tmp 9) = ptr q.z
  s10 : a0.eval (.tmp 10) = .slice (some ⟨q.g5, 0, none⟩) q.k q.c5
  s11 : a0.eval (.tmp 11) = .slice (some ⟨q.g6, 0, none⟩) q.k q.c6
  s12 : a0.eval (.tmp 12) = .slice (some ⟨q.g7, 0, none⟩) q.k q.c7
  s20 : a0.eval (.tmp 20) = .int .i64 q.j
  s21 : a0.eval (.tmp 21) = .int .i64 q.v
  s22 : a0.eval (.tmp 22) = .int .i64 q.f
  s23 : a0.eval (.tmp 23) = .int .i64 q.v
  s24 : a0.eval (.tmp 24) = .int .i64 q.f
  k3 : w.cell? ⟨q.g3, q.j, none⟩ = some (ptr q.e4)
  k4 : w.cell? ⟨q.g4, q.j, none⟩ = some (ptr q.e6)
  k5 : w.cell? ⟨q.g5, q.j, none⟩ = some (ptr q.e7)
  k6 : w.cell? ⟨q.g6, q.j, none⟩ = some (ptr q.e8)
  k7 : w.cell? ⟨q.g7, q.j, none⟩ = some (ptr q.e9)
  k0 : w.cell? ⟨q.g0, q.j, none⟩ = some (ptr q.e0)
  k1 : w.cell? ⟨q.g1, q.j, none⟩ = some (ptr q.e1)
  k2 : w.cell? ⟨q.g2, q.j, none⟩ = some (ptr q.e2)
  kz : w.cell? ⟨q.z, 0, none⟩ = some (.slice (some ⟨q.g2, 0, none⟩) q.k q.c2)
  a5 : w.cell? ⟨q.e7, 5, none⟩ = some (.bool q.b1)
  b5 : w.cell? ⟨q.e8, 5, none⟩ = some (.bool q.b2)
  x3 : w.cell? ⟨q.e0, 3, none⟩ = some (.int .i64 q.i1)
  a4 : w.cell? ⟨q.e7, 4, none⟩ = some (.int .i64 q.i1)
  y3 : w.cell? ⟨q.e1, 3, none⟩ = some (.int .i64 q.i2)
  b4 : w.cell? ⟨q.e8, 4, none⟩ = some (.int .i64 q.i2)
  z3 : w.cell? ⟨q.e2, 3, none⟩ = some (.int .i64 q.i3)
  c4 : w.cell? ⟨q.e9, 4, none⟩ = some (.int .i64 q.i3)
  dn15 : Calls Try.prog 15 #[ptr q.e4, .pointer none] w fun e w' => e = .returned (.bool q.b1) ∧ w' = w
  dn16 : Calls Try.prog 16 #[ptr q.e6, .pointer none] w fun e w' => e = .returned (.bool q.b2) ∧ w' = w
def val41 (q : Q41) : Nat → Value
  | 0 => .int .i64 q.v
  | 1 => .int .i64 q.v
  | 2 => .bool false
  | 3 => .bool false
  | 4 => .int .i64 q.f
  | 5 => .int .i64 q.f
  | 6 => .bool false
  | 7 => .bool false
  | 8 => .bool false
  | 9 => .slice (some ⟨q.g3, 0, none⟩) q.k q.c3
  | 10 => .int .i64 q.j
  | 11 => .pointer (some ⟨q.g3, q.j, none⟩)
  | 12 => ptr q.e4
  | 13 => .bool q.b1
  | 14 => .slice (some ⟨q.g5, 0, none⟩) q.k q.c5
  | 15 => .int .i64 q.j
  | 16 => .pointer (some ⟨q.g5, q.j, none⟩)
  | 17 => ptr q.e7
  | 18 => ptr q.e7
  | 19 => .pointer (some ⟨q.e7, 5, none⟩)
  | 20 => .bool q.b1
  | 21 => .bool false
  | 22 => .bool false
  | 23 => .bool false
  | 24 => .slice (some ⟨q.g4, 0, none⟩) q.k q.c4
  | 25 => .int .i64 q.j
  | 26 => .pointer (some ⟨q.g4, q.j, none⟩)
  | 27 => ptr q.e6
  | 28 => .bool q.b2
  | 29 => .slice (some ⟨q.g6, 0, none⟩) q.k q.c6
  | 30 => .int .i64 q.j
  | 31 => .pointer (some ⟨q.g6, q.j, none⟩)
  | 32 => ptr q.e8
  | 33 => ptr q.e8
  | 34 => .pointer (some ⟨q.e8, 5, none⟩)
  | 35 => .bool q.b2
  | 36 => .bool false
  | 37 => .bool false
  | 38 => .bool false
  | 39 => .slice (some ⟨q.g0, 0, none⟩) q.k q.c0
  | 40 => .int .i64 q.j
  | 41 => .pointer (some ⟨q.g0, q.j, none⟩)
  | 42 => ptr q.e0
  | 43 => ptr q.e0
  | 44 => .pointer (some ⟨q.e0, 3, none⟩)
  | 45 => .int .i64 q.i1
  | 46 => .slice (some ⟨q.g5, 0, none⟩) q.k q.c5
  | 47 => .int .i64 q.j
  | 48 => .pointer (some ⟨q.g5, q.j, none⟩)
  | 49 => ptr q.e7
  | 50 => ptr q.e7
  | 51 => .pointer (some ⟨q.e7, 4, none⟩)
  | 52 => .int .i64 q.i1
  | 53 => .bool false
  | 54 => .bool false
  | 55 => .bool false
  | 56 => .slice (some ⟨q.g1, 0, none⟩) q.k q.c1
  | 57 => .int .i64 q.j
  | 58 => .pointer (some ⟨q.g1, q.j, none⟩)
  | 59 => ptr q.e1
  | 60 => ptr q.e1
  | 61 => .pointer (some ⟨q.e1, 3, none⟩)
  | 62 => .int .i64 q.i2
  | 63 => .slice (some ⟨q.g6, 0, none⟩) q.k q.c6
  | 64 => .int .i64 q.j
  | 65 => .pointer (some ⟨q.g6, q.j, none⟩)
  | 66 => ptr q.e8
  | 67 => ptr q.e8
  | 68 => .pointer (some ⟨q.e8, 4, none⟩)
  | 69 => .int .i64 q.i2
  | 70 => .bool false
  | 71 => .bool false
  | 72 => .bool false
  | 73 => .slice (some ⟨q.g2, 0, none⟩) q.k q.c2
  | 74 => .int .i64 q.j
  | 75 => .pointer (some ⟨q.g2, q.j, none⟩)
  | 76 => ptr q.e2
  | 77 => ptr q.e2
  | 78 => .pointer (some ⟨q.e2, 3, none⟩)
  | 79 => .int .i64 q.i3
  | 80 => .slice (some ⟨q.g7, 0, none⟩) q.k q.c7
  | 81 => .int .i64 q.j
  | 82 => .pointer (some ⟨q.g7, q.j, none⟩)
  | 83 => ptr q.e9
  | 84 => ptr q.e9
  | 85 => .pointer (some ⟨q.e9, 4, none⟩)
  | 86 => .int .i64 q.i3
  | 87 => .bool false
  | 88 => .bool false
  | _ => undef
/-- The i-th operation has its value. -/
def Yields41 (q : Q41) (a0 : Act) (w : World) (i : Nat) : Prop := ∀ (o : Oper) (a : Act) (K : Act → World → Prop) (Q : Exit → Act → World → Prop), (opsOf 41 Try.f3.body)[i]? = some o → o.dst = some (224 + i) → (∀ s, s < 224 ∨ 224 + 89 ≤ s → a.eval (.tmp s) = a0.eval (.tmp s)) → (∀ j, j < 89 → ((opsOf 41 Try.f3.body)[i]?).map (fun o : Oper => o.after.any fun e => Region.binds .any e && e.on == j) = some true → a.eval (.tmp (224 + j)) = val41 q j) → K (a.put (some (224 + i)) (val41 q i)) w → o.wp Try.prog a w K Q
theorem op41 {i : Nat} {p : Op} {o : Oper} (h : ((opsOf 41 Try.f3.body)[i]?).map (fun o : Oper => o.op) = some p) (ho : (opsOf 41 Try.f3.body)[i]? = some o) : o.op = p := by rw [ho] at h; simpa using h
section
variable {q : Q41} {a0 : Act} {w : World}
theorem y41_0 (F : F41 q a0 w) : Yields41 q a0 w 0 := fun o a K Q ho hd hb hv hK => by
  have hop : o.op = .move (.tmp 21) := op41 (by kernel_rfl) ho
  exact l_move hd hop ((hb 21 (.inl (by decide))).trans F.s21) hK
theorem y41_1 (F : F41 q a0 w) : Yields41 q a0 w 1 := fun o a K Q ho hd hb hv hK => by
  have hop : o.op = .move (.tmp 23) := op41 (by kernel_rfl) ho
  exact l_move hd hop ((hb 23 (.inl (by decide))).trans F.s23) hK
theorem y41_2 (_ : F41 q a0 w) : Yields41 q a0 w 2 := fun o a K Q ho hd hb hv hK => by
  have hop : o.op = .binOp .neq 3 (.tmp 224) (.tmp 225) 3 := op41 (by kernel_rfl) ho
  exact l_run hd (r_neqi hop (hv 0 (by omega) (by kernel_rfl)) (hv 1 (by omega) (by kernel_rfl))) hK
theorem y41_3 (_ : F41 q a0 w) : Yields41 q a0 w 3 := fun o a K Q ho hd hb hv hK => by
  have hop : o.op = .move (.tmp 226) := op41 (by kernel_rfl) ho
  exact l_move hd hop (hv 2 (by omega) (by kernel_rfl)) hK
theorem y41_4 (F : F41 q a0 w) : Yields41 q a0 w 4 := fun o a K Q ho hd hb hv hK => by
  have hop : o.op = .move (.tmp 22) := op41 (by kernel_rfl) ho
  exact l_move hd hop ((hb 22 (.inl (by decide))).trans F.s22) hK
theorem y41_5 (F : F41 q a0 w) : Yields41 q a0 w 5 := fun o a K Q ho hd hb hv hK => by
  have hop : o.op = .move (.tmp 24) := op41 (by kernel_rfl) ho
  exact l_move hd hop ((hb 24 (.inl (by decide))).trans F.s24) hK
theorem y41_6 (_ : F41 q a0 w) : Yields41 q a0 w 6 := fun o a K Q ho hd hb hv hK => by
  have hop : o.op = .binOp .neq 3 (.tmp 228) (.tmp 229) 3 := op41 (by kernel_rfl) ho
  exact l_run hd (r_neqi hop (hv 4 (by omega) (by kernel_rfl)) (hv 5 (by omega) (by kernel_rfl))) hK
theorem y41_7 (_ : F41 q a0 w) : Yields41 q a0 w 7 := fun o a K Q ho hd hb hv hK => by
  have hop : o.op = .pick (.tmp 227) (.const (.bool true)) (.tmp 230) := op41 (by kernel_rfl) ho
  exact l_run hd (r_pick hop (hv 3 (by omega) (by kernel_rfl)) (hv 6 (by omega) (by kernel_rfl))) hK
theorem y41_8 (_ : F41 q a0 w) : Yields41 q a0 w 8 := fun o a K Q ho hd hb hv hK => by
  have hop : o.op = .move (.tmp 231) := op41 (by kernel_rfl) ho
  exact l_move hd hop (hv 7 (by omega) (by kernel_rfl)) hK
theorem y41_9 (F : F41 q a0 w) : Yields41 q a0 w 9 := fun o a K Q ho hd hb hv hK => by
  have hop : o.op = .move (.tmp 5) := op41 (by kernel_rfl) ho
  exact l_move hd hop ((hb 5 (.inl (by decide))).trans F.s5) hK
theorem y41_10 (F : F41 q a0 w) : Yields41 q a0 w 10 := fun o a K Q ho hd hb hv hK => by
  have hop : o.op = .move (.tmp 20) := op41 (by kernel_rfl) ho
  exact l_move hd hop ((hb 20 (.inl (by decide))).trans F.s20) hK
theorem y41_11 (F : F41 q a0 w) : Yields41 q a0 w 11 := fun o a K Q ho hd hb hv hK => by
  have hop : o.op = .indexAddr 25 (.tmp 233) (.tmp 234) := op41 (by kernel_rfl) ho
  exact l_run hd (r_index25 hop F.hj (hv 9 (by omega) (by kernel_rfl)) (hv 10 (by omega) (by kernel_rfl))) hK
theorem y41_12 (F : F41 q a0 w) : Yields41 q a0 w 12 := fun o a K Q ho hd hb hv hK => by
  have hop : o.op = .load 34 (.tmp 235) := op41 (by kernel_rfl) ho
  exact l_run hd (r_load 34 (by decide) hop (hv 11 (by omega) (by kernel_rfl)) F.k3) hK
theorem y41_13 (F : F41 q a0 w) : Yields41 q a0 w 13 := fun o a K Q ho hd hb hv hK => by
  have hop : o.op = .call { callee := .value (.func 15), args := #[.tmp 236, .const (.pointer none)], argTypes := #[34, 71] } := op41 (by kernel_rfl) ho
  exact l_call hd hop (hv 12 (by omega) (by kernel_rfl)) (hf15 _ _) F.dn15 hK
theorem y41_14 (F : F41 q a0 w) : Yields41 q a0 w 14 := fun o a K Q ho hd hb hv hK => by
  have hop : o.op = .move (.tmp 10) := op41 (by kernel_rfl) ho
  exact l_move hd hop ((hb 10 (.inl (by decide))).trans F.s10) hK
theorem y41_15 (F : F41 q a0 w) : Yields41 q a0 w 15 := fun o a K Q ho hd hb hv hK => by
  have hop : o.op = .move (.tmp 20) := op41 (by kernel_rfl) ho
  exact l_move hd hop ((hb 20 (.inl (by decide))).trans F.s20) hK
theorem y41_16 (F : F41 q a0 w) : Yields41 q a0 w 16 := fun o a K Q ho hd hb hv hK => by
  have hop : o.op = .indexAddr 28 (.tmp 238) (.tmp 239) := op41 (by kernel_rfl) ho
  exact l_run hd (r_index28 hop F.hj (hv 14 (by omega) (by kernel_rfl)) (hv 15 (by omega) (by kernel_rfl))) hK
theorem y41_17 (F : F41 q a0 w) : Yields41 q a0 w 17 := fun o a K Q ho hd hb hv hK => by
  have hop : o.op = .load 40 (.tmp 240) := op41 (by kernel_rfl) ho
  exact l_run hd (r_load 40 (by decide) hop (hv 16 (by omega) (by kernel_rfl)) F.k5) hK
theorem y41_18 (_ : F41 q a0 w) : Yields41 q a0 w 18 := fun o a K Q ho hd hb hv hK => by
  have hop : o.op = .nilCheck (.tmp 241) := op41 (by kernel_rfl) ho
  exact l_run hd (r_nil hop (hv 17 (by omega) (by kernel_rfl))) hK
theorem y41_19 (_ : F41 q a0 w) : Yields41 q a0 w 19 := fun o a K Q ho hd hb hv hK => by
  have hop : o.op = .fieldAddr 42 (.tmp 242) 3 := op41 (by kernel_rfl) ho
  exact l_run hd (r_field423 hop (hv 18 (by omega) (by kernel_rfl))) hK
theorem y41_20 (F : F41 q a0 w) : Yields41 q a0 w 20 := fun o a K Q ho hd hb hv hK => by
  have hop : o.op = .load 4 (.tmp 243) := op41 (by kernel_rfl) ho
  exact l_run hd (r_load 4 (by decide) hop (hv 19 (by omega) (by kernel_rfl)) F.a5) hK
theorem y41_21 (_ : F41 q a0 w) : Yields41 q a0 w 21 := fun o a K Q ho hd hb hv hK => by
  have hop : o.op = .binOp .neq 4 (.tmp 237) (.tmp 244) 4 := op41 (by kernel_rfl) ho
  exact l_run hd (r_neqb hop (hv 13 (by omega) (by kernel_rfl)) (hv 20 (by omega) (by kernel_rfl))) hK
theorem y41_22 (_ : F41 q a0 w) : Yields41 q a0 w 22 := fun o a K Q ho hd hb hv hK => by
  have hop : o.op = .pick (.tmp 232) (.const (.bool true)) (.tmp 245) := op41 (by kernel_rfl) ho
  exact l_run hd (r_pick hop (hv 8 (by omega) (by kernel_rfl)) (hv 21 (by omega) (by kernel_rfl))) hK
theorem y41_23 (_ : F41 q a0 w) : Yields41 q a0 w 23 := fun o a K Q ho hd hb hv hK => by
  have hop : o.op = .move (.tmp 246) := op41 (by kernel_rfl) ho
  exact l_move hd hop (hv 22 (by omega) (by kernel_rfl)) hK
theorem y41_24 (F : F41 q a0 w) : Yields41 q a0 w 24 := fun o a K Q ho hd hb hv hK => by
  have hop : o.op = .move (.tmp 6) := op41 (by kernel_rfl) ho
  exact l_move hd hop ((hb 6 (.inl (by decide))).trans F.s6) hK
theorem y41_25 (F : F41 q a0 w) : Yields41 q a0 w 25 := fun o a K Q ho hd hb hv hK => by
  have hop : o.op = .move (.tmp 20) := op41 (by kernel_rfl) ho
  exact l_move hd hop ((hb 20 (.inl (by decide))).trans F.s20) hK
theorem y41_26 (F : F41 q a0 w) : Yields41 q a0 w 26 := fun o a K Q ho hd hb hv hK => by
  have hop : o.op = .indexAddr 26 (.tmp 248) (.tmp 249) := op41 (by kernel_rfl) ho
  exact l_run hd (r_index26 hop F.hj (hv 24 (by omega) (by kernel_rfl)) (hv 25 (by omega) (by kernel_rfl))) hK
theorem y41_27 (F : F41 q a0 w) : Yields41 q a0 w 27 := fun o a K Q ho hd hb hv hK => by
  have hop : o.op = .load 38 (.tmp 250) := op41 (by kernel_rfl) ho
  exact l_run hd (r_load 38 (by decide) hop (hv 26 (by omega) (by kernel_rfl)) F.k4) hK
theorem y41_28 (F : F41 q a0 w) : Yields41 q a0 w 28 := fun o a K Q ho hd hb hv hK => by
  have hop : o.op = .call { callee := .value (.func 16), args := #[.tmp 251, .const (.pointer none)], argTypes := #[38, 71] } := op41 (by kernel_rfl) ho
  exact l_call hd hop (hv 27 (by omega) (by kernel_rfl)) (hf16 _ _) F.dn16 hK
theorem y41_29 (F : F41 q a0 w) : Yields41 q a0 w 29 := fun o a K Q ho hd hb hv hK => by
  have hop : o.op = .move (.tmp 11) := op41 (by kernel_rfl) ho
  exact l_move hd hop ((hb 11 (.inl (by decide))).trans F.s11) hK
theorem y41_30 (F : F41 q a0 w) : Yields41 q a0 w 30 := fun o a K Q ho hd hb hv hK => by
  have hop : o.op = .move (.tmp 20) := op41 (by kernel_rfl) ho
  exact l_move hd hop ((hb 20 (.inl (by decide))).trans F.s20) hK
theorem y41_31 (F : F41 q a0 w) : Yields41 q a0 w 31 := fun o a K Q ho hd hb hv hK => by
  have hop : o.op = .indexAddr 28 (.tmp 253) (.tmp 254) := op41 (by kernel_rfl) ho
  exact l_run hd (r_index28 hop F.hj (hv 29 (by omega) (by kernel_rfl)) (hv 30 (by omega) (by kernel_rfl))) hK
theorem y41_32 (F : F41 q a0 w) : Yields41 q a0 w 32 := fun o a K Q ho hd hb hv hK => by
  have hop : o.op = .load 40 (.tmp 255) := op41 (by kernel_rfl) ho
  exact l_run hd (r_load 40 (by decide) hop (hv 31 (by omega) (by kernel_rfl)) F.k6) hK
theorem y41_33 (_ : F41 q a0 w) : Yields41 q a0 w 33 := fun o a K Q ho hd hb hv hK => by
  have hop : o.op = .nilCheck (.tmp 256) := op41 (by kernel_rfl) ho
  exact l_run hd (r_nil hop (hv 32 (by omega) (by kernel_rfl))) hK
theorem y41_34 (_ : F41 q a0 w) : Yields41 q a0 w 34 := fun o a K Q ho hd hb hv hK => by
  have hop : o.op = .fieldAddr 42 (.tmp 257) 3 := op41 (by kernel_rfl) ho
  exact l_run hd (r_field423 hop (hv 33 (by omega) (by kernel_rfl))) hK
theorem y41_35 (F : F41 q a0 w) : Yields41 q a0 w 35 := fun o a K Q ho hd hb hv hK => by
  have hop : o.op = .load 4 (.tmp 258) := op41 (by kernel_rfl) ho
  exact l_run hd (r_load 4 (by decide) hop (hv 34 (by omega) (by kernel_rfl)) F.b5) hK
theorem y41_36 (_ : F41 q a0 w) : Yields41 q a0 w 36 := fun o a K Q ho hd hb hv hK => by
  have hop : o.op = .binOp .neq 4 (.tmp 252) (.tmp 259) 4 := op41 (by kernel_rfl) ho
  exact l_run hd (r_neqb hop (hv 28 (by omega) (by kernel_rfl)) (hv 35 (by omega) (by kernel_rfl))) hK
theorem y41_37 (_ : F41 q a0 w) : Yields41 q a0 w 37 := fun o a K Q ho hd hb hv hK => by
  have hop : o.op = .pick (.tmp 247) (.const (.bool true)) (.tmp 260) := op41 (by kernel_rfl) ho
  exact l_run hd (r_pick hop (hv 23 (by omega) (by kernel_rfl)) (hv 36 (by omega) (by kernel_rfl))) hK
theorem y41_38 (_ : F41 q a0 w) : Yields41 q a0 w 38 := fun o a K Q ho hd hb hv hK => by
  have hop : o.op = .move (.tmp 261) := op41 (by kernel_rfl) ho
  exact l_move hd hop (hv 37 (by omega) (by kernel_rfl)) hK
theorem y41_39 (F : F41 q a0 w) : Yields41 q a0 w 39 := fun o a K Q ho hd hb hv hK => by
  have hop : o.op = .move (.tmp 7) := op41 (by kernel_rfl) ho
  exact l_move hd hop ((hb 7 (.inl (by decide))).trans F.s7) hK
theorem y41_40 (F : F41 q a0 w) : Yields41 q a0 w 40 := fun o a K Q ho hd hb hv hK => by
  have hop : o.op = .move (.tmp 20) := op41 (by kernel_rfl) ho
  exact l_move hd hop ((hb 20 (.inl (by decide))).trans F.s20) hK
theorem y41_41 (F : F41 q a0 w) : Yields41 q a0 w 41 := fun o a K Q ho hd hb hv hK => by
  have hop : o.op = .indexAddr 27 (.tmp 263) (.tmp 264) := op41 (by kernel_rfl) ho
  exact l_run hd (r_index27 hop F.hj (hv 39 (by omega) (by kernel_rfl)) (hv 40 (by omega) (by kernel_rfl))) hK
theorem y41_42 (F : F41 q a0 w) : Yields41 q a0 w 42 := fun o a K Q ho hd hb hv hK => by
  have hop : o.op = .load 29 (.tmp 265) := op41 (by kernel_rfl) ho
  exact l_run hd (r_load 29 (by decide) hop (hv 41 (by omega) (by kernel_rfl)) F.k0) hK
theorem y41_43 (_ : F41 q a0 w) : Yields41 q a0 w 43 := fun o a K Q ho hd hb hv hK => by
  have hop : o.op = .nilCheck (.tmp 266) := op41 (by kernel_rfl) ho
  exact l_run hd (r_nil hop (hv 42 (by omega) (by kernel_rfl))) hK
theorem y41_44 (_ : F41 q a0 w) : Yields41 q a0 w 44 := fun o a K Q ho hd hb hv hK => by
  have hop : o.op = .fieldAddr 33 (.tmp 267) 1 := op41 (by kernel_rfl) ho
  exact l_run hd (r_field331 hop (hv 43 (by omega) (by kernel_rfl))) hK
theorem y41_45 (F : F41 q a0 w) : Yields41 q a0 w 45 := fun o a K Q ho hd hb hv hK => by
  have hop : o.op = .load 3 (.tmp 268) := op41 (by kernel_rfl) ho
  exact l_run hd (r_load 3 (by decide) hop (hv 44 (by omega) (by kernel_rfl)) F.x3) hK
theorem y41_46 (F : F41 q a0 w) : Yields41 q a0 w 46 := fun o a K Q ho hd hb hv hK => by
  have hop : o.op = .move (.tmp 10) := op41 (by kernel_rfl) ho
  exact l_move hd hop ((hb 10 (.inl (by decide))).trans F.s10) hK
theorem y41_47 (F : F41 q a0 w) : Yields41 q a0 w 47 := fun o a K Q ho hd hb hv hK => by
  have hop : o.op = .move (.tmp 20) := op41 (by kernel_rfl) ho
  exact l_move hd hop ((hb 20 (.inl (by decide))).trans F.s20) hK
theorem y41_48 (F : F41 q a0 w) : Yields41 q a0 w 48 := fun o a K Q ho hd hb hv hK => by
  have hop : o.op = .indexAddr 28 (.tmp 270) (.tmp 271) := op41 (by kernel_rfl) ho
  exact l_run hd (r_index28 hop F.hj (hv 46 (by omega) (by kernel_rfl)) (hv 47 (by omega) (by kernel_rfl))) hK
theorem y41_49 (F : F41 q a0 w) : Yields41 q a0 w 49 := fun o a K Q ho hd hb hv hK => by
  have hop : o.op = .load 40 (.tmp 272) := op41 (by kernel_rfl) ho
  exact l_run hd (r_load 40 (by decide) hop (hv 48 (by omega) (by kernel_rfl)) F.k5) hK
theorem y41_50 (_ : F41 q a0 w) : Yields41 q a0 w 50 := fun o a K Q ho hd hb hv hK => by
  have hop : o.op = .nilCheck (.tmp 273) := op41 (by kernel_rfl) ho
  exact l_run hd (r_nil hop (hv 49 (by omega) (by kernel_rfl))) hK
theorem y41_51 (_ : F41 q a0 w) : Yields41 q a0 w 51 := fun o a K Q ho hd hb hv hK => by
  have hop : o.op = .fieldAddr 42 (.tmp 274) 2 := op41 (by kernel_rfl) ho
  exact l_run hd (r_field422 hop (hv 50 (by omega) (by kernel_rfl))) hK
theorem y41_52 (F : F41 q a0 w) : Yields41 q a0 w 52 := fun o a K Q ho hd hb hv hK => by
  have hop : o.op = .load 3 (.tmp 275) := op41 (by kernel_rfl) ho
  exact l_run hd (r_load 3 (by decide) hop (hv 51 (by omega) (by kernel_rfl)) F.a4) hK
theorem y41_53 (_ : F41 q a0 w) : Yields41 q a0 w 53 := fun o a K Q ho hd hb hv hK => by
  have hop : o.op = .binOp .neq 3 (.tmp 269) (.tmp 276) 3 := op41 (by kernel_rfl) ho
  exact l_run hd (r_neqi hop (hv 45 (by omega) (by kernel_rfl)) (hv 52 (by omega) (by kernel_rfl))) hK
theorem y41_54 (_ : F41 q a0 w) : Yields41 q a0 w 54 := fun o a K Q ho hd hb hv hK => by
  have hop : o.op = .pick (.tmp 262) (.const (.bool true)) (.tmp 277) := op41 (by kernel_rfl) ho
  exact l_run hd (r_pick hop (hv 38 (by omega) (by kernel_rfl)) (hv 53 (by omega) (by kernel_rfl))) hK
theorem y41_55 (_ : F41 q a0 w) : Yields41 q a0 w 55 := fun o a K Q ho hd hb hv hK => by
  have hop : o.op = .move (.tmp 278) := op41 (by kernel_rfl) ho
  exact l_move hd hop (hv 54 (by omega) (by kernel_rfl)) hK
theorem y41_56 (F : F41 q a0 w) : Yields41 q a0 w 56 := fun o a K Q ho hd hb hv hK => by
  have hop : o.op = .move (.tmp 8) := op41 (by kernel_rfl) ho
  exact l_move hd hop ((hb 8 (.inl (by decide))).trans F.s8) hK
theorem y41_57 (F : F41 q a0 w) : Yields41 q a0 w 57 := fun o a K Q ho hd hb hv hK => by
  have hop : o.op = .move (.tmp 20) := op41 (by kernel_rfl) ho
  exact l_move hd hop ((hb 20 (.inl (by decide))).trans F.s20) hK
theorem y41_58 (F : F41 q a0 w) : Yields41 q a0 w 58 := fun o a K Q ho hd hb hv hK => by
  have hop : o.op = .indexAddr 27 (.tmp 280) (.tmp 281) := op41 (by kernel_rfl) ho
  exact l_run hd (r_index27 hop F.hj (hv 56 (by omega) (by kernel_rfl)) (hv 57 (by omega) (by kernel_rfl))) hK
theorem y41_59 (F : F41 q a0 w) : Yields41 q a0 w 59 := fun o a K Q ho hd hb hv hK => by
  have hop : o.op = .load 29 (.tmp 282) := op41 (by kernel_rfl) ho
  exact l_run hd (r_load 29 (by decide) hop (hv 58 (by omega) (by kernel_rfl)) F.k1) hK
theorem y41_60 (_ : F41 q a0 w) : Yields41 q a0 w 60 := fun o a K Q ho hd hb hv hK => by
  have hop : o.op = .nilCheck (.tmp 283) := op41 (by kernel_rfl) ho
  exact l_run hd (r_nil hop (hv 59 (by omega) (by kernel_rfl))) hK
theorem y41_61 (_ : F41 q a0 w) : Yields41 q a0 w 61 := fun o a K Q ho hd hb hv hK => by
  have hop : o.op = .fieldAddr 33 (.tmp 284) 1 := op41 (by kernel_rfl) ho
  exact l_run hd (r_field331 hop (hv 60 (by omega) (by kernel_rfl))) hK
theorem y41_62 (F : F41 q a0 w) : Yields41 q a0 w 62 := fun o a K Q ho hd hb hv hK => by
  have hop : o.op = .load 3 (.tmp 285) := op41 (by kernel_rfl) ho
  exact l_run hd (r_load 3 (by decide) hop (hv 61 (by omega) (by kernel_rfl)) F.y3) hK
theorem y41_63 (F : F41 q a0 w) : Yields41 q a0 w 63 := fun o a K Q ho hd hb hv hK => by
  have hop : o.op = .move (.tmp 11) := op41 (by kernel_rfl) ho
  exact l_move hd hop ((hb 11 (.inl (by decide))).trans F.s11) hK
theorem y41_64 (F : F41 q a0 w) : Yields41 q a0 w 64 := fun o a K Q ho hd hb hv hK => by
  have hop : o.op = .move (.tmp 20) := op41 (by kernel_rfl) ho
  exact l_move hd hop ((hb 20 (.inl (by decide))).trans F.s20) hK
theorem y41_65 (F : F41 q a0 w) : Yields41 q a0 w 65 := fun o a K Q ho hd hb hv hK => by
  have hop : o.op = .indexAddr 28 (.tmp 287) (.tmp 288) := op41 (by kernel_rfl) ho
  exact l_run hd (r_index28 hop F.hj (hv 63 (by omega) (by kernel_rfl)) (hv 64 (by omega) (by kernel_rfl))) hK
theorem y41_66 (F : F41 q a0 w) : Yields41 q a0 w 66 := fun o a K Q ho hd hb hv hK => by
  have hop : o.op = .load 40 (.tmp 289) := op41 (by kernel_rfl) ho
  exact l_run hd (r_load 40 (by decide) hop (hv 65 (by omega) (by kernel_rfl)) F.k6) hK
theorem y41_67 (_ : F41 q a0 w) : Yields41 q a0 w 67 := fun o a K Q ho hd hb hv hK => by
  have hop : o.op = .nilCheck (.tmp 290) := op41 (by kernel_rfl) ho
  exact l_run hd (r_nil hop (hv 66 (by omega) (by kernel_rfl))) hK
theorem y41_68 (_ : F41 q a0 w) : Yields41 q a0 w 68 := fun o a K Q ho hd hb hv hK => by
  have hop : o.op = .fieldAddr 42 (.tmp 291) 2 := op41 (by kernel_rfl) ho
  exact l_run hd (r_field422 hop (hv 67 (by omega) (by kernel_rfl))) hK
theorem y41_69 (F : F41 q a0 w) : Yields41 q a0 w 69 := fun o a K Q ho hd hb hv hK => by
  have hop : o.op = .load 3 (.tmp 292) := op41 (by kernel_rfl) ho
  exact l_run hd (r_load 3 (by decide) hop (hv 68 (by omega) (by kernel_rfl)) F.b4) hK
theorem y41_70 (_ : F41 q a0 w) : Yields41 q a0 w 70 := fun o a K Q ho hd hb hv hK => by
  have hop : o.op = .binOp .neq 3 (.tmp 286) (.tmp 293) 3 := op41 (by kernel_rfl) ho
  exact l_run hd (r_neqi hop (hv 62 (by omega) (by kernel_rfl)) (hv 69 (by omega) (by kernel_rfl))) hK
theorem y41_71 (_ : F41 q a0 w) : Yields41 q a0 w 71 := fun o a K Q ho hd hb hv hK => by
  have hop : o.op = .pick (.tmp 279) (.const (.bool true)) (.tmp 294) := op41 (by kernel_rfl) ho
  exact l_run hd (r_pick hop (hv 55 (by omega) (by kernel_rfl)) (hv 70 (by omega) (by kernel_rfl))) hK
theorem y41_72 (_ : F41 q a0 w) : Yields41 q a0 w 72 := fun o a K Q ho hd hb hv hK => by
  have hop : o.op = .move (.tmp 295) := op41 (by kernel_rfl) ho
  exact l_move hd hop (hv 71 (by omega) (by kernel_rfl)) hK
theorem y41_73 (F : F41 q a0 w) : Yields41 q a0 w 73 := fun o a K Q ho hd hb hv hK => by
  have hop : o.op = .load 27 (.tmp 9) := op41 (by kernel_rfl) ho
  exact l_run hd (r_load 27 (by decide) hop ((hb 9 (.inl (by decide))).trans F.s9) F.kz) hK
theorem y41_74 (F : F41 q a0 w) : Yields41 q a0 w 74 := fun o a K Q ho hd hb hv hK => by
  have hop : o.op = .move (.tmp 20) := op41 (by kernel_rfl) ho
  exact l_move hd hop ((hb 20 (.inl (by decide))).trans F.s20) hK
theorem y41_75 (F : F41 q a0 w) : Yields41 q a0 w 75 := fun o a K Q ho hd hb hv hK => by
  have hop : o.op = .indexAddr 27 (.tmp 297) (.tmp 298) := op41 (by kernel_rfl) ho
  exact l_run hd (r_index27 hop F.hj (hv 73 (by omega) (by kernel_rfl)) (hv 74 (by omega) (by kernel_rfl))) hK
theorem y41_76 (F : F41 q a0 w) : Yields41 q a0 w 76 := fun o a K Q ho hd hb hv hK => by
  have hop : o.op = .load 29 (.tmp 299) := op41 (by kernel_rfl) ho
  exact l_run hd (r_load 29 (by decide) hop (hv 75 (by omega) (by kernel_rfl)) F.k2) hK
theorem y41_77 (_ : F41 q a0 w) : Yields41 q a0 w 77 := fun o a K Q ho hd hb hv hK => by
  have hop : o.op = .nilCheck (.tmp 300) := op41 (by kernel_rfl) ho
  exact l_run hd (r_nil hop (hv 76 (by omega) (by kernel_rfl))) hK
theorem y41_78 (_ : F41 q a0 w) : Yields41 q a0 w 78 := fun o a K Q ho hd hb hv hK => by
  have hop : o.op = .fieldAddr 33 (.tmp 301) 1 := op41 (by kernel_rfl) ho
  exact l_run hd (r_field331 hop (hv 77 (by omega) (by kernel_rfl))) hK
theorem y41_79 (F : F41 q a0 w) : Yields41 q a0 w 79 := fun o a K Q ho hd hb hv hK => by
  have hop : o.op = .load 3 (.tmp 302) := op41 (by kernel_rfl) ho
  exact l_run hd (r_load 3 (by decide) hop (hv 78 (by omega) (by kernel_rfl)) F.z3) hK
theorem y41_80 (F : F41 q a0 w) : Yields41 q a0 w 80 := fun o a K Q ho hd hb hv hK => by
  have hop : o.op = .move (.tmp 12) := op41 (by kernel_rfl) ho
  exact l_move hd hop ((hb 12 (.inl (by decide))).trans F.s12) hK
theorem y41_81 (F : F41 q a0 w) : Yields41 q a0 w 81 := fun o a K Q ho hd hb hv hK => by
  have hop : o.op = .move (.tmp 20) := op41 (by kernel_rfl) ho
  exact l_move hd hop ((hb 20 (.inl (by decide))).trans F.s20) hK
theorem y41_82 (F : F41 q a0 w) : Yields41 q a0 w 82 := fun o a K Q ho hd hb hv hK => by
  have hop : o.op = .indexAddr 28 (.tmp 304) (.tmp 305) := op41 (by kernel_rfl) ho
  exact l_run hd (r_index28 hop F.hj (hv 80 (by omega) (by kernel_rfl)) (hv 81 (by omega) (by kernel_rfl))) hK
theorem y41_83 (F : F41 q a0 w) : Yields41 q a0 w 83 := fun o a K Q ho hd hb hv hK => by
  have hop : o.op = .load 40 (.tmp 306) := op41 (by kernel_rfl) ho
  exact l_run hd (r_load 40 (by decide) hop (hv 82 (by omega) (by kernel_rfl)) F.k7) hK
theorem y41_84 (_ : F41 q a0 w) : Yields41 q a0 w 84 := fun o a K Q ho hd hb hv hK => by
  have hop : o.op = .nilCheck (.tmp 307) := op41 (by kernel_rfl) ho
  exact l_run hd (r_nil hop (hv 83 (by omega) (by kernel_rfl))) hK
theorem y41_85 (_ : F41 q a0 w) : Yields41 q a0 w 85 := fun o a K Q ho hd hb hv hK => by
  have hop : o.op = .fieldAddr 42 (.tmp 308) 2 := op41 (by kernel_rfl) ho
  exact l_run hd (r_field422 hop (hv 84 (by omega) (by kernel_rfl))) hK
theorem y41_86 (F : F41 q a0 w) : Yields41 q a0 w 86 := fun o a K Q ho hd hb hv hK => by
  have hop : o.op = .load 3 (.tmp 309) := op41 (by kernel_rfl) ho
  exact l_run hd (r_load 3 (by decide) hop (hv 85 (by omega) (by kernel_rfl)) F.c4) hK
theorem y41_87 (_ : F41 q a0 w) : Yields41 q a0 w 87 := fun o a K Q ho hd hb hv hK => by
  have hop : o.op = .binOp .neq 3 (.tmp 303) (.tmp 310) 3 := op41 (by kernel_rfl) ho
  exact l_run hd (r_neqi hop (hv 79 (by omega) (by kernel_rfl)) (hv 86 (by omega) (by kernel_rfl))) hK
theorem y41_88 (_ : F41 q a0 w) : Yields41 q a0 w 88 := fun o a K Q ho hd hb hv hK => by
  have hop : o.op = .pick (.tmp 296) (.const (.bool true)) (.tmp 311) := op41 (by kernel_rfl) ho
  exact l_run hd (r_pick hop (hv 72 (by omega) (by kernel_rfl)) (hv 87 (by omega) (by kernel_rfl))) hK
theorem cases89 {p : Nat → Prop} (h0 : p 0) (h1 : p 1) (h2 : p 2) (h3 : p 3) (h4 : p 4) (h5 : p 5) (h6 : p 6) (h7 : p 7) (h8 : p 8) (h9 : p 9) (h10 : p 10) (h11 : p 11) (h12 : p 12) (h13 : p 13) (h14 : p 14) (h15 : p 15) (h16 : p 16) (h17 : p 17) (h18 : p 18) (h19 : p 19) (h20 : p 20) (h21 : p 21) (h22 : p 22) (h23 : p 23) (h24 : p 24) (h25 : p 25) (h26 : p 26) (h27 : p 27) (h28 : p 28) (h29 : p 29) (h30 : p 30) (h31 : p 31) (h32 : p 32) (h33 : p 33) (h34 : p 34) (h35 : p 35) (h36 : p 36) (h37 : p 37) (h38 : p 38) (h39 : p 39) (h40 : p 40) (h41 : p 41) (h42 : p 42) (h43 : p 43) (h44 : p 44) (h45 : p 45) (h46 : p 46) (h47 : p 47) (h48 : p 48) (h49 : p 49) (h50 : p 50) (h51 : p 51) (h52 : p 52) (h53 : p 53) (h54 : p 54) (h55 : p 55) (h56 : p 56) (h57 : p 57) (h58 : p 58) (h59 : p 59) (h60 : p 60) (h61 : p 61) (h62 : p 62) (h63 : p 63) (h64 : p 64) (h65 : p 65) (h66 : p 66) (h67 : p 67) (h68 : p 68) (h69 : p 69) (h70 : p 70) (h71 : p 71) (h72 : p 72) (h73 : p 73) (h74 : p 74) (h75 : p 75) (h76 : p 76) (h77 : p 77) (h78 : p 78) (h79 : p 79) (h80 : p 80) (h81 : p 81) (h82 : p 82) (h83 : p 83) (h84 : p 84) (h85 : p 85) (h86 : p 86) (h87 : p 87) (h88 : p 88) : ∀ i, i < 89 → p i
  | 0, _ => h0
  | 1, _ => h1
  | 2, _ => h2
  | 3, _ => h3
  | 4, _ => h4
  | 5, _ => h5
  | 6, _ => h6
  | 7, _ => h7
  | 8, _ => h8
  | 9, _ => h9
  | 10, _ => h10
  | 11, _ => h11
  | 12, _ => h12
  | 13, _ => h13
  | 14, _ => h14
  | 15, _ => h15
  | 16, _ => h16
  | 17, _ => h17
  | 18, _ => h18
  | 19, _ => h19
  | 20, _ => h20
  | 21, _ => h21
  | 22, _ => h22
  | 23, _ => h23
  | 24, _ => h24
  | 25, _ => h25
  | 26, _ => h26
  | 27, _ => h27
  | 28, _ => h28
  | 29, _ => h29
  | 30, _ => h30
  | 31, _ => h31
  | 32, _ => h32
  | 33, _ => h33
  | 34, _ => h34
  | 35, _ => h35
  | 36, _ => h36
  | 37, _ => h37
  | 38, _ => h38
  | 39, _ => h39
  | 40, _ => h40
  | 41, _ => h41
  | 42, _ => h42
  | 43, _ => h43
  | 44, _ => h44
  | 45, _ => h45
  | 46, _ => h46
  | 47, _ => h47
  | 48, _ => h48
  | 49, _ => h49
  | 50, _ => h50
  | 51, _ => h51
  | 52, _ => h52
  | 53, _ => h53
  | 54, _ => h54
  | 55, _ => h55
  | 56, _ => h56
  | 57, _ => h57
  | 58, _ => h58
  | 59, _ => h59
  | 60, _ => h60
  | 61, _ => h61
  | 62, _ => h62
  | 63, _ => h63
  | 64, _ => h64
  | 65, _ => h65
  | 66, _ => h66
  | 67, _ => h67
  | 68, _ => h68
  | 69, _ => h69
  | 70, _ => h70
  | 71, _ => h71
  | 72, _ => h72
  | 73, _ => h73
  | 74, _ => h74
  | 75, _ => h75
  | 76, _ => h76
  | 77, _ => h77
  | 78, _ => h78
  | 79, _ => h79
  | 80, _ => h80
  | 81, _ => h81
  | 82, _ => h82
  | 83, _ => h83
  | 84, _ => h84
  | 85, _ => h85
  | 86, _ => h86
  | 87, _ => h87
  | 88, _ => h88
  | n + 89, h => absurd h (by omega)
theorem y41 (F : F41 q a0 w) : ∀ i, i < 89 → Yields41 q a0 w i :=
  cases89 (y41_0 F) (y41_1 F) (y41_2 F) (y41_3 F) (y41_4 F) (y41_5 F) (y41_6 F) (y41_7 F) (y41_8 F) (y41_9 F) (y41_10 F) (y41_11 F) (y41_12 F) (y41_13 F) (y41_14 F) (y41_15 F) (y41_16 F) (y41_17 F) (y41_18 F) (y41_19 F) (y41_20 F) (y41_21 F) (y41_22 F) (y41_23 F) (y41_24 F) (y41_25 F) (y41_26 F) (y41_27 F) (y41_28 F) (y41_29 F) (y41_30 F) (y41_31 F) (y41_32 F) (y41_33 F) (y41_34 F) (y41_35 F) (y41_36 F) (y41_37 F) (y41_38 F) (y41_39 F) (y41_40 F) (y41_41 F) (y41_42 F) (y41_43 F) (y41_44 F) (y41_45 F) (y41_46 F) (y41_47 F) (y41_48 F) (y41_49 F) (y41_50 F) (y41_51 F) (y41_52 F) (y41_53 F) (y41_54 F) (y41_55 F) (y41_56 F) (y41_57 F) (y41_58 F) (y41_59 F) (y41_60 F) (y41_61 F) (y41_62 F) (y41_63 F) (y41_64 F) (y41_65 F) (y41_66 F) (y41_67 F) (y41_68 F) (y41_69 F) (y41_70 F) (y41_71 F) (y41_72 F) (y41_73 F) (y41_74 F) (y41_75 F) (y41_76 F) (y41_77 F) (y41_78 F) (y41_79 F) (y41_80 F) (y41_81 F) (y41_82 F) (y41_83 F) (y41_84 F) (y41_85 F) (y41_86 F) (y41_87 F) (y41_88 F)
theorem gd41 : ((List.range 89).all fun i => (((opsOf 41 Try.f3.body)[i]?).map fun o : Oper => match o.guard with | none => true | some (g, b) => !b && decide (g < 89) && ((g == 3) || (g == 8) || (g == 23) || (g == 38) || (g == 55) || (g == 72)) && o.after.any (fun e => Region.binds .any e && e.on == g)).getD true) = true := by kernel_rfl
theorem dst41 {i : Nat} {o : Oper} (ho : (opsOf 41 Try.f3.body)[i]? = some o) : o.dst = some (224 + i) ∧ ∀ e ∈ o.after, Region.binds .any e = true → e.on < i := by
  have hi : i < 89 := by rw [← size41]; exact (Array.getElem?_eq_some_iff.1 ho).1
  have h1 := List.all_eq_true.1 ac41 i (List.mem_range.2 hi)
  rw [ho] at h1
  simp only [Option.map_some, Option.getD_some, Bool.and_eq_true, beq_iff_eq, Array.all_eq_true] at h1
  refine ⟨h1.1, fun e he hb => ?_⟩
  obtain ⟨n, hn, rfl⟩ := Array.getElem_of_mem he
  have h2 := h1.2 n hn
  rw [hb] at h2
  simpa using h2
/-- The comparison says false. -/
theorem reg41 {id : Nat} {Q : Exit → Act → World → Prop} (hs : 313 ≤ a0.tmps.size) (F : F41 q a0 w.drew)
    (hend : ∀ a', a'.tmps.size = a0.tmps.size → a'.defers = a0.defers → (∀ s, s < 224 ∨ 224 + 89 ≤ s → a'.tmps[s]? = a0.tmps[s]?) → a'.eval (.tmp 312) = .bool false → Q .normal a' w.drew) :
    (Code.region id (opsOf 41 Try.f3.body) true).wp Try.prog Q a0 w := by
  refine wp_region_pure (by kernel_rfl) (fun i o ho => (dst41 ho).2) 89 224 size41 (by omega) (val41 q) (fun i o ho => (dst41 ho).1) ?_ ?_ ?_
  · intro i o ho g b hgd
    have hi : i < 89 := by rw [← size41]; exact (Array.getElem?_eq_some_iff.1 ho).1
    have h1 := List.all_eq_true.1 gd41 i (List.mem_range.2 hi)
    rw [ho] at h1
    simp only [Option.map_some, Option.getD_some, hgd, Bool.and_eq_true, Bool.or_eq_true, beq_iff_eq, Bool.not_eq_true', decide_eq_true_eq] at h1
    obtain ⟨⟨⟨hb, hg⟩, hin⟩, hany⟩ := h1
    subst hb
    refine ⟨hg, ?_, ?_⟩
    · rcases hin with (((((rfl | rfl) | rfl) | rfl) | rfl) | rfl) <;> rfl
    · rw [ho]; simp only [Option.map_some]; exact congrArg some hany
  · intro i o ho a hb hv K hK
    have hi : i < 89 := by rw [← size41]; exact (Array.getElem?_eq_some_iff.1 ho).1
    exact y41 F i hi o a K _ ho (dst41 ho).1 hb hv hK
  · intro a' h1 h2 h3 h4
    exact hend a' h1 h2 h3 (h4 88 (by omega))
end
end Go.Proofs.Ytogcjdbggihbpaa
