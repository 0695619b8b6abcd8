/- least's drawn region. (Written by tools/gen/genju4.py.) -/
import Derived.Test.YtbielnehggcaoaaDoorL11
import Derived.Test.YtbielnehggcaoaaDoorL12
set_option linter.unusedVariables false
namespace Go.Proofs.YtbielnehggcaoaaDoor
open Go.RowKit
theorem x_and {ρ : Operand → Value} {o : Oper} {w : World} {x y : Operand} {t : TypeId} {a b : Nat} (h : o.op = .binOp .and 102 x y t) (hx : ρ x = .int .u64 (a : Int)) (hy : ρ y = .int .u64 (b : Int)) (ha : a < 18446744073709551616) (hb : b < 18446744073709551616) : (execOp ρ o).run Tryd.prog w = .ok (.value (.int .u64 ((a &&& b : Nat) : Int))) w := by
  have e := bits_and_u64_nat a b ha hb
  exact x_bin h hx hy (by go_simp) (by go_simp)
def least_r8V (sb g9 kb ko kn kc ce ix dn own : Nat) (ve nm nx : Int) (ft : Bool) (g : GQ) : Nat → Value := fun j => match j with | 0 => (pa sb 0) | 1 => (pa g9 3) | 2 => (Value.int IntKind.i64 (ce : Int)) | 3 => (Value.int IntKind.u64 (dn : Int)) | 4 => (pa sb 0) | 5 => (pa g9 3) | 6 => (Value.int IntKind.i64 (ce : Int)) | 7 => (pa sb 0) | 8 => (pa sb 66) | 9 => (pa sb (66 + ce)) | 10 => (Value.int IntKind.u64 (own : Int)) | 11 => (Value.int IntKind.u64 ((dn &&& own : Nat) : Int)) | 12 => (Value.int IntKind.i64 (sI (dn &&& own))) | 13 => (Value.slice (some ⟨kb, ko, none⟩) kn kc) | 14 => (pa g9 3) | 15 => (Value.int IntKind.i64 (ce : Int)) | 16 => (pa kb (ko + ce)) | 17 => (Value.int IntKind.i64 ve) | 18 => (Value.agg #[.int .i64 (ce : Int), .int .i64 (sI (dn &&& own)), .int .i64 ve]) | 19 => (Value.int IntKind.i64 (ix : Int)) | 20 => (Value.tuple #[.agg #[.int .i64 (ce : Int), .int .i64 nm, .int .i64 nx], .bool ft]) | 21 => (Value.tuple #[.agg #[.int .i64 (ce : Int), .int .i64 nm, .int .i64 nx], .bool ft]) | 22 => (Value.agg #[.int .i64 (ce : Int), .int .i64 nm, .int .i64 nx]) | 23 => (Value.bool ft) | 24 => (pa (g.nb.getD 0) 0) | 25 => undef | 26 => (Value.bool ft) | _ => undef
set_option maxRecDepth 100000 in
set_option maxHeartbeats 1600000 in
theorem least_r8 {sb g9 kb ko kn kc ce ix dn own : Nat} {ve nm nx : Int} {ft : Bool} {K : Act → World → Prop} {Q : Exit → Act → World → Prop} {a0 : Act} {w : World} (hs : a0.tmps.size = 88) (x0 : a0.eval (.tmp 0) = pa sb 0) (x1 : a0.eval (.tmp 1) = .slice (some ⟨kb, ko, none⟩) kn kc) (x7 : a0.eval (.tmp 7) = .int .u64 (dn : Int)) (x8 : a0.eval (.tmp 8) = .int .i64 (ix : Int)) (x9 : a0.eval (.tmp 9) = pa g9 0) (hA3 : w.cell? ⟨g9, 3, none⟩ = some (.int .i64 (ce : Int))) (hOw : w.cell? ⟨sb, 66 + ce, none⟩ = some (.int .u64 (own : Int))) (hHe : w.cell? ⟨kb, ko + ce, none⟩ = some (.int .i64 ve)) (hce : (ce : Int) < 256) (hhn : (ce : Int) < kn) (hdlt : dn < 18446744073709551616) (hown : own < 18446744073709551616)
    (hCall : ∀ x, Turned [] w x → Calls Tryd.prog 48 #[.pointer (some ⟨sb, 0, none⟩), (Value.agg #[.int .i64 (ce : Int), .int .i64 (sI (dn &&& own)), .int .i64 ve]), .int .i64 (ix : Int)] x fun e w' => e = .returned (Value.tuple #[.agg #[.int .i64 (ce : Int), .int .i64 nm, .int .i64 nx], .bool ft]) ∧ Turned [] x w')
    (hEnd : ∀ a' x nb, a'.tmps.size = a0.tmps.size → a'.defers = a0.defers → (∀ s, some s ∉ ([some 44, some 45, some 46, some 47, some 48, some 49, some 50, some 51, some 52, some 53, some 54, some 55, some 56, some 57, some 58, some 59, some 60, some 61, some 62, some 63, some 64, some 43, some 65, some 66, some 10, none, some 11] : List (Option Nat)) → a'.eval (.tmp s) = a0.eval (.tmp s)) → a'.eval (.tmp 10) = pa nb 0 → a'.eval (.tmp 11) = (Value.bool ft) → Turned [] w x → x.heap[nb]? = some (Obj.cells #[.int .i64 (ce : Int), .int .i64 nm, .int .i64 nx] 109 (0, 0)) → w.heap.size ≤ nb → K a' x) : (Code.region 8 (opsOf 8 Tryd.f31.body) true).wp Tryd.prog (Exit.then K Q) a0 w := by
  refine wp_region_ghost3 (G := GQ) (by kernel_rfl) [some 44, some 45, some 46, some 47, some 48, some 49, some 50, some 51, some 52, some 53, some 54, some 55, some 56, some 57, some 58, some 59, some 60, some 61, some 62, some 63, some 64, some 43, some 65, some 66, some 10, none, some 11] (by rw [hs]; kernel_rfl) (least_r8V sb g9 kb ko kn kc ce ix dn own ve nm nx ft) [20, 24, 25] ?_ (doneQ 20 24 25) (fun g x => Turned [] w x ∧ ∀ nb, g.nb = some nb → w.heap.size ≤ nb ∧ x.heap[nb]? = some (if g.st = true then Obj.cells #[.int .i64 (ce : Int), .int .i64 nm, .int .i64 nx] 109 (0, 0) else Obj.cells #[.int .i64 0, .int .i64 0, .int .i64 0] 109 (0, 0))) (⟨false, none, false⟩) (⟨(Turned.refl _ _).drew, fun nb hnb => (by cases hnb)⟩) (by intro x hx; simp at hx; rcases hx with rfl | rfl | rfl <;> rfl) (by decide) ?_ ?_
  · intro i g b h γ
    have hi : i < 27 := by
      apply Classical.byContradiction
      intro hn
      rw [show (opsOf 8 Tryd.f31.body)[i]? = none from Array.getElem?_eq_none (by have : (opsOf 8 Tryd.f31.body).size = 27 := (by kernel_rfl); omega)] at h
      cases h
    rcases (by omega : i = 0 ∨ i = 1 ∨ i = 2 ∨ i = 3 ∨ i = 4 ∨ i = 5 ∨ i = 6 ∨ i = 7 ∨ i = 8 ∨ i = 9 ∨ i = 10 ∨ i = 11 ∨ i = 12 ∨ i = 13 ∨ i = 14 ∨ i = 15 ∨ i = 16 ∨ i = 17 ∨ i = 18 ∨ i = 19 ∨ i = 20 ∨ i = 21 ∨ i = 22 ∨ i = 23 ∨ i = 24 ∨ i = 25 ∨ i = 26) with rfl | rfl | rfl | rfl | rfl | rfl | rfl | rfl | rfl | rfl | rfl | rfl | rfl | rfl | rfl | rfl | rfl | rfl | rfl | rfl | rfl | rfl | rfl | rfl | rfl | rfl | rfl
    · rw [show ((opsOf 8 Tryd.f31.body)[0]?).bind (fun o : Oper => o.guard) = none from by kernel_rfl] at h
      cases h
    · rw [show ((opsOf 8 Tryd.f31.body)[1]?).bind (fun o : Oper => o.guard) = none from by kernel_rfl] at h
      cases h
    · rw [show ((opsOf 8 Tryd.f31.body)[2]?).bind (fun o : Oper => o.guard) = none from by kernel_rfl] at h
      cases h
    · rw [show ((opsOf 8 Tryd.f31.body)[3]?).bind (fun o : Oper => o.guard) = none from by kernel_rfl] at h
      cases h
    · rw [show ((opsOf 8 Tryd.f31.body)[4]?).bind (fun o : Oper => o.guard) = none from by kernel_rfl] at h
      cases h
    · rw [show ((opsOf 8 Tryd.f31.body)[5]?).bind (fun o : Oper => o.guard) = none from by kernel_rfl] at h
      cases h
    · rw [show ((opsOf 8 Tryd.f31.body)[6]?).bind (fun o : Oper => o.guard) = none from by kernel_rfl] at h
      cases h
    · rw [show ((opsOf 8 Tryd.f31.body)[7]?).bind (fun o : Oper => o.guard) = none from by kernel_rfl] at h
      cases h
    · rw [show ((opsOf 8 Tryd.f31.body)[8]?).bind (fun o : Oper => o.guard) = none from by kernel_rfl] at h
      cases h
    · rw [show ((opsOf 8 Tryd.f31.body)[9]?).bind (fun o : Oper => o.guard) = none from by kernel_rfl] at h
      cases h
    · rw [show ((opsOf 8 Tryd.f31.body)[10]?).bind (fun o : Oper => o.guard) = none from by kernel_rfl] at h
      cases h
    · rw [show ((opsOf 8 Tryd.f31.body)[11]?).bind (fun o : Oper => o.guard) = none from by kernel_rfl] at h
      cases h
    · rw [show ((opsOf 8 Tryd.f31.body)[12]?).bind (fun o : Oper => o.guard) = none from by kernel_rfl] at h
      cases h
    · rw [show ((opsOf 8 Tryd.f31.body)[13]?).bind (fun o : Oper => o.guard) = none from by kernel_rfl] at h
      cases h
    · rw [show ((opsOf 8 Tryd.f31.body)[14]?).bind (fun o : Oper => o.guard) = none from by kernel_rfl] at h
      cases h
    · rw [show ((opsOf 8 Tryd.f31.body)[15]?).bind (fun o : Oper => o.guard) = none from by kernel_rfl] at h
      cases h
    · rw [show ((opsOf 8 Tryd.f31.body)[16]?).bind (fun o : Oper => o.guard) = none from by kernel_rfl] at h
      cases h
    · rw [show ((opsOf 8 Tryd.f31.body)[17]?).bind (fun o : Oper => o.guard) = none from by kernel_rfl] at h
      cases h
    · rw [show ((opsOf 8 Tryd.f31.body)[18]?).bind (fun o : Oper => o.guard) = none from by kernel_rfl] at h
      cases h
    · rw [show ((opsOf 8 Tryd.f31.body)[19]?).bind (fun o : Oper => o.guard) = none from by kernel_rfl] at h
      cases h
    · rw [show ((opsOf 8 Tryd.f31.body)[20]?).bind (fun o : Oper => o.guard) = none from by kernel_rfl] at h
      cases h
    · rw [show ((opsOf 8 Tryd.f31.body)[21]?).bind (fun o : Oper => o.guard) = none from by kernel_rfl] at h
      cases h
    · rw [show ((opsOf 8 Tryd.f31.body)[22]?).bind (fun o : Oper => o.guard) = none from by kernel_rfl] at h
      cases h
    · rw [show ((opsOf 8 Tryd.f31.body)[23]?).bind (fun o : Oper => o.guard) = none from by kernel_rfl] at h
      cases h
    · rw [show ((opsOf 8 Tryd.f31.body)[24]?).bind (fun o : Oper => o.guard) = none from by kernel_rfl] at h
      cases h
    · rw [show ((opsOf 8 Tryd.f31.body)[25]?).bind (fun o : Oper => o.guard) = none from by kernel_rfl] at h
      cases h
    · rw [show ((opsOf 8 Tryd.f31.body)[26]?).bind (fun o : Oper => o.guard) = none from by kernel_rfl] at h
      cases h
  · intro i hi hgd
    rcases (by simp at hi; omega : i = 0 ∨ i = 1 ∨ i = 2 ∨ i = 3 ∨ i = 4 ∨ i = 5 ∨ i = 6 ∨ i = 7 ∨ i = 8 ∨ i = 9 ∨ i = 10 ∨ i = 11 ∨ i = 12 ∨ i = 13 ∨ i = 14 ∨ i = 15 ∨ i = 16 ∨ i = 17 ∨ i = 18 ∨ i = 19 ∨ i = 20 ∨ i = 21 ∨ i = 22 ∨ i = 23 ∨ i = 24 ∨ i = 25 ∨ i = 26) with rfl | rfl | rfl | rfl | rfl | rfl | rfl | rfl | rfl | rfl | rfl | rfl | rfl | rfl | rfl | rfl | rfl | rfl | rfl | rfl | rfl | rfl | rfl | rfl | rfl | rfl | rfl
    · refine soft (by decide) ?_
      intro o ac wa g ho hoff hv hS hdn
      exact (x_move (op_is rfl ho)).trans (by rw [((hoff 0 (by decide)).trans x0)]; rfl)
    · refine soft (by decide) ?_
      intro o ac wa g ho hoff hv hS hdn
      exact x_field (op_is rfl ho) (by rw [((hoff 9 (by decide)).trans x9)]; show (Instr.fieldAt _ (pa _ _) _).run _ _ = .ok (pa _ _) _; unfold pa; go_simp)
    · refine soft (by decide) ?_
      intro o ac wa g ho hoff hv hS hdn
      have hc := hS.1.cell hA3 (by simp)
      exact x_load (op_is rfl ho) (by rw [(hv 1 45 rfl (by kernel_rfl))]; show (Instr.loadAt _ (pa _ _)).run _ _ = _; unfold pa; go_simp; rfl)
    · refine soft (by decide) ?_
      intro o ac wa g ho hoff hv hS hdn
      exact (x_move (op_is rfl ho)).trans (by rw [((hoff 7 (by decide)).trans x7)]; rfl)
    · refine soft (by decide) ?_
      intro o ac wa g ho hoff hv hS hdn
      exact (x_move (op_is rfl ho)).trans (by rw [((hoff 0 (by decide)).trans x0)]; rfl)
    · refine soft (by decide) ?_
      intro o ac wa g ho hoff hv hS hdn
      exact x_field (op_is rfl ho) (by rw [((hoff 9 (by decide)).trans x9)]; show (Instr.fieldAt _ (pa _ _) _).run _ _ = .ok (pa _ _) _; unfold pa; go_simp)
    · refine soft (by decide) ?_
      intro o ac wa g ho hoff hv hS hdn
      have hc := hS.1.cell hA3 (by simp)
      exact x_load (op_is rfl ho) (by rw [(hv 5 49 rfl (by kernel_rfl))]; show (Instr.loadAt _ (pa _ _)).run _ _ = _; unfold pa; go_simp; rfl)
    · refine soft (by decide) ?_
      intro o ac wa g ho hoff hv hS hdn
      exact x_nil (op_is rfl ho) ((hv 4 48 rfl (by kernel_rfl)))
    · refine soft (by decide) ?_
      intro o ac wa g ho hoff hv hS hdn
      exact x_field (op_is rfl ho) (by rw [(hv 7 51 rfl (by kernel_rfl))]; show (Instr.fieldAt _ (pa _ _) _).run _ _ = .ok (pa _ _) _; unfold pa; go_simp)
    · refine soft (by decide) ?_
      intro o ac wa g ho hoff hv hS hdn
      exact x_index (op_is rfl ho) (by rw [(hv 8 52 rfl (by kernel_rfl)), (hv 6 50 rfl (by kernel_rfl))]; show (Instr.indexAt _ (pa sb 66) (Value.int IntKind.i64 (ce : Int))).run _ _ = .ok (pa _ _) _; unfold pa; go_simp)
    · refine soft (by decide) ?_
      intro o ac wa g ho hoff hv hS hdn
      have hc := hS.1.cell hOw (by simp)
      exact x_load (op_is rfl ho) (by rw [(hv 9 53 rfl (by kernel_rfl))]; show (Instr.loadAt _ (pa _ _)).run _ _ = _; unfold pa; go_simp; rfl)
    · refine soft (by decide) ?_
      intro o ac wa g ho hoff hv hS hdn
      exact x_and (op_is rfl ho) (hv 3 47 rfl (by kernel_rfl)) (hv 10 54 rfl (by kernel_rfl)) hdlt hown
    · refine soft (by decide) ?_
      intro o ac wa g ho hoff hv hS hdn
      exact x_conv (op_is rfl ho) (by rw [(hv 11 55 rfl (by kernel_rfl))]; show (convert _ _ (Value.int IntKind.u64 ((dn &&& own : Nat) : Int))).run _ _ = _; exact run_conv_i _)
    · refine soft (by decide) ?_
      intro o ac wa g ho hoff hv hS hdn
      exact (x_move (op_is rfl ho)).trans (by rw [((hoff 1 (by decide)).trans x1)]; rfl)
    · refine soft (by decide) ?_
      intro o ac wa g ho hoff hv hS hdn
      exact x_field (op_is rfl ho) (by rw [((hoff 9 (by decide)).trans x9)]; show (Instr.fieldAt _ (pa _ _) _).run _ _ = .ok (pa _ _) _; unfold pa; go_simp)
    · refine soft (by decide) ?_
      intro o ac wa g ho hoff hv hS hdn
      have hc := hS.1.cell hA3 (by simp)
      exact x_load (op_is rfl ho) (by rw [(hv 14 58 rfl (by kernel_rfl))]; show (Instr.loadAt _ (pa _ _)).run _ _ = _; unfold pa; go_simp; rfl)
    · refine soft (by decide) ?_
      intro o ac wa g ho hoff hv hS hdn
      exact x_index (op_is rfl ho) (by rw [(hv 13 57 rfl (by kernel_rfl)), (hv 15 59 rfl (by kernel_rfl))]; show (Instr.indexAt _ (Value.slice (some ⟨kb, ko, none⟩) kn kc) (Value.int IntKind.i64 (ce : Int))).run _ _ = .ok (pa _ _) _; unfold pa; go_simp)
    · refine soft (by decide) ?_
      intro o ac wa g ho hoff hv hS hdn
      have hc := hS.1.cell hHe (by simp)
      exact x_load (op_is rfl ho) (by rw [(hv 16 60 rfl (by kernel_rfl))]; show (Instr.loadAt _ (pa _ _)).run _ _ = _; unfold pa; go_simp; rfl)
    · refine soft (by decide) ?_
      intro o ac wa g ho hoff hv hS hdn
      exact x_build (op_is rfl ho) (qs := #[(0, .int .i64 (ce : Int)), (1, .int .i64 (sI (dn &&& own))), (2, .int .i64 ve)]) (by simp only [List.map_toArray, List.map_cons, List.map_nil]; rw [(hv 2 46 rfl (by kernel_rfl)), (hv 12 56 rfl (by kernel_rfl)), (hv 17 61 rfl (by kernel_rfl))]; rfl) (by go_simp; rfl)
    · refine soft (by decide) ?_
      intro o ac wa g ho hoff hv hS hdn
      exact (x_move (op_is rfl ho)).trans (by rw [((hoff 8 (by decide)).trans x8)]; rfl)
    · intro o ac wa g K ho hd _ hoff hv hS hpre hnd hlater hK
      have hst : g.st = false := by
        have := hlater 25 (by simp) (by kernel_rfl)
        simpa [doneQ] using this
      refine l_callE (op_is rfl ho) (xs := #[.pointer (some ⟨sb, 0, none⟩), (Value.agg #[.int .i64 (ce : Int), .int .i64 (sI (dn &&& own)), .int .i64 ve]), .int .i64 (ix : Int)]) (by simp only [List.map_toArray, List.map_cons, List.map_nil]; rw [(hv 0 44 rfl (by kernel_rfl)), (hv 18 62 rfl (by kernel_rfl)), (hv 19 63 rfl (by kernel_rfl))]; rfl) Tryd.func48 (by kernel_rfl) rfl (hCall wa hS.1) ?_
      rintro e w' ⟨rfl, ht⟩
      refine ⟨_, rfl, ?_⟩
      rw [hd]
      refine hK { g with ca := true } w' ⟨hS.1.trans ht, fun nb hnb => ⟨(hS.2 nb hnb).1, ht.heap (hS.2 nb hnb).2 (by simp)⟩⟩ (by intro x hx; simp at hx; rcases hx with rfl | rfl | rfl <;> simp [doneQ]) fun j hj hr => ?_
      match j, hr with
      | 0, _ => rfl
      | 1, _ => rfl
      | 2, _ => rfl
      | 3, _ => rfl
      | 4, _ => rfl
      | 5, _ => rfl
      | 6, _ => rfl
      | 7, _ => rfl
      | 8, _ => rfl
      | 9, _ => rfl
      | 10, _ => rfl
      | 11, _ => rfl
      | 12, _ => rfl
      | 13, _ => rfl
      | 14, _ => rfl
      | 15, _ => rfl
      | 16, _ => rfl
      | 17, _ => rfl
      | 18, _ => rfl
      | 19, _ => rfl
      | 20, _ => exact absurd rfl hj
      | 21, _ => rfl
      | 22, _ => rfl
      | 23, _ => rfl
      | 24, _ => rfl
      | 25, _ => rfl
      | 26, _ => rfl
      | k + 27, _ => rfl
    · refine soft (by decide) ?_
      intro o ac wa g ho hoff hv hS hdn
      exact (x_move (op_is rfl ho)).trans (by rw [(hv 20 64 rfl (by kernel_rfl))]; rfl)
    · refine soft (by decide) ?_
      intro o ac wa g ho hoff hv hS hdn
      exact x_extrQ (op_is rfl ho) (hv 21 43 rfl (by kernel_rfl)) rfl
    · refine soft (by decide) ?_
      intro o ac wa g ho hoff hv hS hdn
      exact x_extrQ (op_is rfl ho) (hv 21 43 rfl (by kernel_rfl)) rfl
    · intro o ac wa g K ho hd _ hoff hv hS hpre hnd hlater hK
      have hg : g.nb = none := by have := hnd (by simp); simpa [doneQ] using this
      have hst : g.st = false := by
        have := hlater 25 (by simp) (by kernel_rfl)
        simpa [doneQ] using this
      refine l_val hd (x_alloc (op_is rfl ho) (v := pa wa.heap.size 0) (w' := wa.alloc (Obj.cells #[.int .i64 0, .int .i64 0, .int .i64 0] 109 (0, 0))) (by unfold pa; go_simp)) ?_
      refine hK { g with nb := some wa.heap.size } _ ⟨hS.1.alloc _, fun nb hnb => ?_⟩ (by intro x hx; simp at hx; rcases hx with rfl | rfl | rfl <;> simp [doneQ, hg]) fun j hj hr => ?_
      · cases hnb
        refine ⟨hS.1.size, ?_⟩
        rw [hst]
        exact blk_new _ _
      · match j, hr with
        | 0, _ => rfl
        | 1, _ => rfl
        | 2, _ => rfl
        | 3, _ => rfl
        | 4, _ => rfl
        | 5, _ => rfl
        | 6, _ => rfl
        | 7, _ => rfl
        | 8, _ => rfl
        | 9, _ => rfl
        | 10, _ => rfl
        | 11, _ => rfl
        | 12, _ => rfl
        | 13, _ => rfl
        | 14, _ => rfl
        | 15, _ => rfl
        | 16, _ => rfl
        | 17, _ => rfl
        | 18, _ => rfl
        | 19, _ => rfl
        | 20, _ => rfl
        | 21, _ => rfl
        | 22, _ => rfl
        | 23, _ => rfl
        | 24, _ => exact absurd rfl hj
        | 25, hr => exact absurd (hr.symm.trans (by kernel_rfl : reachB (opsOf 8 Tryd.f31.body) (opsOf 8 Tryd.f31.body).size 25 24 = true)) (by decide)
        | 26, _ => rfl
        | k + 27, _ => rfl
    · intro o ac wa g K ho hd _ hoff hv hS hpre hnd hlater hK
      obtain ⟨nb, hnb⟩ := Option.isSome_iff_exists.1 (show g.nb.isSome = true from by have := hpre 24 (by simp) (by kernel_rfl); simpa [doneQ] using this)
      have hst : g.st = false := by have := hnd (by simp); simpa [doneQ] using this
      have e1 := (hv 24 10 rfl (by kernel_rfl))
      have e2 := (hv 22 65 rfl (by kernel_rfl))
      have hb := (hS.2 nb hnb).2
      have hbn := (hS.2 nb hnb).1
      rw [hst] at hb
      have c0 : wa.cell? ⟨nb, 0, none⟩ = some (Value.int IntKind.i64 0) := cell_at hb 0
      have c1 : wa.cell? ⟨nb, 1, none⟩ = some (Value.int IntKind.i64 0) := cell_at hb 1
      have c2 : wa.cell? ⟨nb, 2, none⟩ = some (Value.int IntKind.i64 0) := cell_at hb 2
      have z := froz_at hb
      refine l_skip hd (w' := (((wa.setCell ⟨nb, 0, none⟩ (.int .i64 (ce : Int))).setCell ⟨nb, 1, none⟩ (.int .i64 nm)).setCell ⟨nb, 2, none⟩ (.int .i64 nx))) (x_store (op_is rfl ho) (by
        rw [e1, e2]
        show (Instr.storeAt _ (pa (g.nb.getD 0) 0) (Value.agg #[.int .i64 (ce : Int), .int .i64 nm, .int .i64 nx])).run _ _ = _
        rw [hnb]
        show (Instr.storeAt _ (pa nb 0) (Value.agg #[.int .i64 (ce : Int), .int .i64 nm, .int .i64 nx])).run _ _ = _
        unfold pa
        go_simp)) ?_
      have htn : Turned [nb] wa (((wa.setCell ⟨nb, 0, none⟩ (.int .i64 (ce : Int))).setCell ⟨nb, 1, none⟩ (.int .i64 nm)).setCell ⟨nb, 2, none⟩ (.int .i64 nx)) := ((((Turned.refl _ _).set (.inl (by simp)) 0 _).set (.inl (by simp)) 1 _).set (.inl (by simp)) 2 _)
      refine hK { g with st := true } _ ⟨hS.1.inner htn (by intro x hx; simp at hx; subst hx; exact .inr hbn), fun nb' hnb' => ?_⟩ (by intro x hx; simp at hx; rcases hx with rfl | rfl | rfl <;> simp [doneQ]) fun j hj hr => ?_
      · have : nb' = nb := by rw [hnb] at hnb'; cases hnb'; rfl
        subst this
        refine ⟨hbn, ?_⟩
        show _ = some (if true = true then Obj.cells #[.int .i64 (ce : Int), .int .i64 nm, .int .i64 nx] 109 (0, 0) else _)
        rw [if_pos rfl, (blk_set (blk_set (blk_set hb 0 _) 1 _) 2 _)]
        rfl
      · match j, hr with
        | 0, _ => rfl
        | 1, _ => rfl
        | 2, _ => rfl
        | 3, _ => rfl
        | 4, _ => rfl
        | 5, _ => rfl
        | 6, _ => rfl
        | 7, _ => rfl
        | 8, _ => rfl
        | 9, _ => rfl
        | 10, _ => rfl
        | 11, _ => rfl
        | 12, _ => rfl
        | 13, _ => rfl
        | 14, _ => rfl
        | 15, _ => rfl
        | 16, _ => rfl
        | 17, _ => rfl
        | 18, _ => rfl
        | 19, _ => rfl
        | 20, _ => rfl
        | 21, _ => rfl
        | 22, _ => rfl
        | 23, _ => rfl
        | 24, _ => rfl
        | 25, _ => exact absurd rfl hj
        | 26, _ => rfl
        | k + 27, _ => rfl
    · refine soft (by decide) ?_
      intro o ac wa g ho hoff hv hS hdn
      exact (x_assign (op_is rfl ho)).trans (by rw [(hv 23 66 rfl (by kernel_rfl))]; rfl)
  · intro a' w' g hsz hdf hoff hS hdn hval
    obtain ⟨nb, hnb⟩ := Option.isSome_iff_exists.1 (show g.nb.isSome = true from by have := hdn 24 (by simp); simpa [doneQ] using this)
    have hst : g.st = true := by have := hdn 25 (by simp); simpa [doneQ] using this
    have hb := (hS.2 nb hnb).2
    rw [hst, if_pos rfl] at hb
    exact hEnd a' w' nb hsz hdf (fun s hs => ev_same (hoff s hs)) ((hval 24 10 rfl).trans (by show pa (g.nb.getD 0) 0 = _; rw [hnb]; rfl)) (hval 26 11 rfl) hS.1 hb (hS.2 nb hnb).1
end Go.Proofs.YtbielnehggcaoaaDoor
