/- What is told of a slot, by contract. -/
import Derived.Test.YtfebndolnnaiiabPoolCalls
import Derived.Test.YtfebndolnnaiiabTwo
namespace Go.Proofs.Ytfebndolnnaiiab
open Go.RowKit
section
variable {P : Program} {ρ : Operand → Value} {o : Oper} {w w' : World} {v : Value}
theorem x_field {t : TypeId} {x : Operand} {k : Nat} (h : o.op = .fieldAddr t x k) (hr : (Instr.fieldAt t (ρ x) k).run P w = .ok v w') : (execOp ρ o).run P w = .ok (.value v) w' := by simp [execOp, h, hr, Result.andThen]
theorem x_index {t : TypeId} {x y : Operand} (h : o.op = .indexAddr t x y) (hr : (Instr.indexAt t (ρ x) (ρ y)).run P w = .ok v w') : (execOp ρ o).run P w = .ok (.value v) w' := by simp [execOp, h, hr, Result.andThen]
theorem x_build {t : TypeId} {ps : Array (Nat × Operand)} {qs : Array (Nat × Value)} (h : o.op = .build t ps) (hq : ps.map (fun (i, x) => (i, ρ x)) = qs) (hr : (Instr.build t qs).run P w = .ok v w') : (execOp ρ o).run P w = .ok (.value v) w' := by
  subst hq
  simp [execOp, h, hr, Result.andThen]
theorem x_bin {op : BinOp} {t u : TypeId} {x y : Operand} {a b : Value} (h : o.op = .binOp op t x y u) (hx : ρ x = a) (hy : ρ y = b) (hg : (eqGuard op t x y a b).run P w = .ok () w) (hr : (binOp op t a b).run P w = .ok v w') : (execOp ρ o).run P w = .ok (.value v) w' := by
  simp [execOp, h, hx, hy, hg, hr, Result.andThen]
end
section
variable {w : World} {b : Nat} {S : Slot}
abbrev toldC (S : Slot) : Array Value := #[.int .i64 S.gen, .int .i64 S.a, .int .i64 S.b, .int .i64 S.c, .int .i64 S.d, .int .i64 S.mark, .int .i64 S.link]
abbrev toldV (S : Slot) : Value := .agg (toldC S)
def pv (b k : Nat) : Value := .pointer (some ⟨b, k, none⟩)
def nodeV (S : Slot) : Value := .agg #[.int .i64 S.a, .int .i64 S.b, .int .i64 S.c, .int .i64 S.d]
theorem run_lifeField (w : World) (b : Nat) : (Instr.fieldAt 66 (pv b 0) 0).run Try.prog w = .ok (pv b 0) w ∧ (Instr.fieldAt 66 (pv b 0) 1).run Try.prog w = .ok (pv b 1) w ∧ (Instr.fieldAt 66 (pv b 0) 2).run Try.prog w = .ok (pv b 5) w ∧ (Instr.fieldAt 66 (pv b 0) 3).run Try.prog w = .ok (pv b 6) w := by
  unfold pv
  refine ⟨?_, ?_, ?_, ?_⟩ <;> go_simp
theorem run_lifeGen (h : w.heap[b]? = some (lifeObj S)) : (Instr.loadAt 3 (pv b 0)).run Try.prog w = .ok (.int .i64 S.gen) w := by
  have n0 := cell_at h 0
  simp at n0
  unfold pv
  go_simp
theorem run_lifeNode (h : w.heap[b]? = some (lifeObj S)) : (Instr.loadAt 31 (pv b 1)).run Try.prog w = .ok (nodeV S) w := by
  have n1 := cell_at h 1
  have n2 := cell_at h 2
  have n3 := cell_at h 3
  have n4 := cell_at h 4
  simp at n1 n2 n3 n4
  unfold pv nodeV
  go_simp
theorem run_buildTold (w : World) (S : Slot) : (Instr.build 52 #[(0, .int .i64 S.gen), (1, nodeV S), (2, .int .i64 S.mark), (3, .int .i64 S.link)]).run Try.prog w = .ok (toldV S) w := by
  unfold nodeV
  go_simp
theorem run_storeTold (w : World) (S : Slot) : (Instr.storeAt 52 (pv w.heap.size 0) (toldV S)).run Try.prog (w.alloc (.cells #[.int .i64 0, .int .i64 0, .int .i64 0, .int .i64 0, .int .i64 0, .int .i64 0, .int .i64 0] 52)).drew = .ok () (w.alloc (.cells (toldC S) 52)).drew := by
  unfold pv
  go_simp
set_option maxRecDepth 100000 in
set_option maxHeartbeats 1600000 in
theorem cTold (h : w.heap[b]? = some (lifeObj S)) : Calls Try.prog 35 #[.pointer (some ⟨b, 0, none⟩)] w fun e w' => e = .returned (toldV S) ∧ w' = (w.alloc (.cells (toldC S) 52)).drew := by
  have hA : ((w.alloc (.cells #[.int .i64 0, .int .i64 0, .int .i64 0, .int .i64 0, .int .i64 0, .int .i64 0, .int .i64 0] 52)).drew).heap[b]? = some (lifeObj S) := blk_old h _
  have hst := run_storeTold w S
  have n5 := cell_at hA 5
  have n6 := cell_at hA 6
  simp only [List.getElem?_toArray] at n5 n6
  go_enter Try.func35, Try.ntmps35
  go_wp2
  rename_i K hK
  generalize hw0 : (w.alloc (.cells #[.int .i64 0, .int .i64 0, .int .i64 0, .int .i64 0, .int .i64 0, .int .i64 0, .int .i64 0] 52)) = w0 at *
  have fld := run_lifeField w0.drew b
  have HM : Calls Try.prog 29 #[pv b 5] w0.drew fun e w' => e = .returned (.int .i64 S.mark) ∧ w' = w0.drew := cALoad n5
  have HL : Calls Try.prog 29 #[pv b 6] w0.drew fun e w' => e = .returned (.int .i64 S.link) ∧ w' = w0.drew := cALoad n6
  refine wp_region_tab (w1 := (w.alloc (.cells (toldC S) 52)).drew) (by kernel_rfl) [some 3, some 4, some 5, some 6, some 7, some 8, some 9, some 10, some 11, some 12, some 13, some 14, some 15, some 16, some 17, some 18, some 19, none] (fun i => match i with
    | 0 => pv b 0 | 1 => pv b 0 | 2 => pv b 0 | 3 => .int .i64 S.gen | 4 => pv b 0 | 5 => pv b 0 | 6 => pv b 1 | 7 => nodeV S | 8 => pv b 0 | 9 => pv b 0 | 10 => pv b 5 | 11 => .int .i64 S.mark | 12 => pv b 0 | 13 => pv b 0 | 14 => pv b 6 | 15 => .int .i64 S.link | 16 => toldV S | _ => undef) (by kernel_rfl) (by decide) ?_ (.inr (by decide +kernel)) ?_ ?_
  · intro i g b' h
    exact (no_guard (by kernel_rfl) h).elim
  · intro i hi o a K ho hd _ hoff hv hK
    rcases (by simp at hi; omega : i = 0 ∨ i = 1 ∨ i = 2 ∨ i = 3 ∨ i = 4 ∨ i = 5 ∨ i = 6 ∨ i = 7 ∨ i = 8 ∨ i = 9 ∨ i = 10 ∨ i = 11 ∨ i = 12 ∨ i = 13 ∨ i = 14 ∨ i = 15 ∨ i = 16 ∨ i = 17) with rfl | rfl | rfl | rfl | rfl | rfl | rfl | rfl | rfl | rfl | rfl | rfl | rfl | rfl | rfl | rfl | rfl | rfl
    · exact l_val hd ((x_move (op_is rfl ho)).trans (by rw [hoff 0 (by decide)]; rfl)) hK
    · exact l_val hd (x_nil (op_is rfl ho) (hv 0 3 rfl (by kernel_rfl))) hK
    · exact l_val hd (x_field (op_is rfl ho) (by rw [hv 1 4 rfl (by kernel_rfl)]; exact fld.1)) hK
    · exact l_val hd (x_load (op_is rfl ho) (by rw [hv 2 5 rfl (by kernel_rfl)]; exact run_lifeGen hA)) hK
    · exact l_val hd ((x_move (op_is rfl ho)).trans (by rw [hoff 0 (by decide)]; rfl)) hK
    · exact l_val hd (x_nil (op_is rfl ho) (hv 4 7 rfl (by kernel_rfl))) hK
    · exact l_val hd (x_field (op_is rfl ho) (by rw [hv 5 8 rfl (by kernel_rfl)]; exact fld.2.1)) hK
    · exact l_val hd (x_load (op_is rfl ho) (by rw [hv 6 9 rfl (by kernel_rfl)]; exact run_lifeNode hA)) hK
    · exact l_val hd ((x_move (op_is rfl ho)).trans (by rw [hoff 0 (by decide)]; rfl)) hK
    · exact l_val hd (x_nil (op_is rfl ho) (hv 8 11 rfl (by kernel_rfl))) hK
    · exact l_val hd (x_field (op_is rfl ho) (by rw [hv 9 12 rfl (by kernel_rfl)]; exact fld.2.2.1)) hK
    · exact l_call hd (op_is rfl ho) (by simp [hv 10 13 rfl (by kernel_rfl)]) Try.func29 (by kernel_rfl) (by rfl) HM hK
    · exact l_val hd ((x_move (op_is rfl ho)).trans (by rw [hoff 0 (by decide)]; rfl)) hK
    · exact l_val hd (x_nil (op_is rfl ho) (hv 12 15 rfl (by kernel_rfl))) hK
    · exact l_val hd (x_field (op_is rfl ho) (by rw [hv 13 16 rfl (by kernel_rfl)]; exact fld.2.2.2)) hK
    · exact l_call hd (op_is rfl ho) (by simp [hv 14 17 rfl (by kernel_rfl)]) Try.func29 (by kernel_rfl) (by rfl) HL hK
    · exact l_val hd (x_build (op_is rfl ho) (by simp [hv 3 6 rfl (by kernel_rfl), hv 7 10 rfl (by kernel_rfl), hv 11 14 rfl (by kernel_rfl), hv 15 18 rfl (by kernel_rfl)]) (run_buildTold _ S)) hK
    · exact l_skip hd (x_store (op_is rfl ho) (by rw [hoff 2 (by decide), hv 16 19 rfl (by kernel_rfl)]; exact hst)) hK
  · intro a' h1 h2 h3 h4
    refine hK _ _ (wp_ret ?_)
    have e2 : a'.tmps[2]? = some (.pointer (some ⟨w.heap.size, 0, none⟩)) := (h3 2 (by decide)).trans rfl
    refine bodyPost_ret (v := toldV S) ?_ h2 ⟨rfl, rfl⟩
    simp [results, Try.results35, go_sem, e2]
end
end Go.Proofs.Ytfebndolnnaiiab
