/-
  'append(nil, xs..)': one new block, told outright. (By the verifier; no statement.)
-/
import Derived.Test.YtbnpdfakniebnaaGreatDoorSpRow
namespace Go.Proofs.YtbnpdfakniebnaaGreatDoor
open Go.RowKit
section
variable {α : Type} {T Ts : TypeId} {k y : Nat} {z : Value} {enc : α → List Value} {B : Nat} {w w' : World} {v u : Value} {R M : List α}
/-- The cells of a new row, with the room behind it. -/
structure NR (k : Nat) (enc : α → List Value) (M : List α) (cs : Array Value) (cap : Nat) : Prop where
  le : M.length ≤ cap
  mx : cap ≤ maxLen
  sz : cs.size = cap * k
  tk : cs.toList.take (M.length * k) = M.flatMap enc
theorem NR.own (N : En k enc) {cs : Array Value} {cap g : Nat} (h : NR k enc M cs cap) (hg : w.heap[g]? = some (.cells cs T (0, 0))) (hB : B ≤ g) : OW T k enc B w (.slice (some ⟨g, 0, none⟩) M.length cap) M :=
  ⟨rowO_len N M, .inr ⟨g, cap, cs, rfl, hB, hg, h.le, h.mx, h.sz, h.tk⟩⟩
/-- 'append(nil, u..)' of something: one new block, as a step of a region that draws. -/
theorem run_newO (E : El T Ts k y z) (N : En k enc) {ty : TypeId} (hu : VW enc w u M) (hne : M ≠ []) (hby : M.length * y ≤ 140737488355328) :
    ∃ cs cap, NR k enc M cs cap ∧ (Builtin.append_ #[Ts, Ts] ty #[.slice none 0 0, u]).run Tryz.prog w = .ok (.slice (some ⟨w.heap.size, 0, none⟩) M.length cap) (w.alloc (.cells cs T (0, 0))).drew := by
  obtain ⟨i, hi, hzz⟩ := Option.map_eq_some_iff.1 E.info
  simp only [Prod.mk.injEq] at hzz
  obtain ⟨hz, hs1, hb⟩ := hzz
  obtain ⟨a, c, rfl, hz0, hc⟩ := hu.ex
  obtain ⟨b, o, rfl, hk⟩ := hc hne
  have hpos : 0 < M.length := by
    rcases Nat.eq_zero_or_pos M.length with e | e
    · exact absurd (List.length_eq_zero_iff.1 e) hne
    · exact e
  have hlen : M.length ≤ 140737488355328 := Nat.le_trans (Nat.le_mul_of_pos_right _ E.posy) hby
  have h63 : M.length ≤ maxLen := by unfold maxLen; omega
  have hr := run_append_nil (P := Tryz.prog) w Ts ty T i z E.und hi hz ⟨b, o, none⟩ M.length c (M.flatMap enc) (by rw [hs1]; exact rowO_len N M) (fun j u hj => by
    have hadd : (⟨b, o, none⟩ : Addr).add j = ⟨b, o + j, none⟩ := by unfold Addr.add; split <;> simp_all
    rw [hadd]
    exact hk j u hj) hpos (by omega) (by rw [hb]; exact Nat.le_trans hby (by decide))
  have hge := grownCap_ge w M.length 0 T
  refine ⟨_, _, ⟨hge, grownCap_le_maxLen w M.length 0 T h63, ?_, ?_⟩, hr⟩
  · rw [Array.size_append, List.size_toArray, size_zeroCells, E.zc, rowO_len N, ← Nat.add_mul, Nat.add_sub_cancel' hge]
  · simp only [Array.toList_append]
    rw [← rowO_len N M]
    exact List.take_left
theorem step_newO (E : El T Ts k y z) (N : En k enc) {ops : Array Oper} {o : Oper} {a : Act} {K : Act → World → Prop} {Q : Exit → Act → World → Prop} {X : Prop} (hgd : o.guard = none) (p q : Operand) (ho : o.op = .call { callee := .builtin .append, args := #[p, q], argTypes := #[Ts, Ts] })
    (hs : a.eval p = .slice none 0 0) (hy : a.eval q = u) (hu : VW enc w u M) (hne : M ≠ []) (hby : M.length * y ≤ 140737488355328)
    (h : ∀ cs cap, NR k enc M cs cap → K (a.put o.dst (.slice (some ⟨w.heap.size, 0, none⟩) M.length cap)) (w.alloc (.cells cs T (0, 0))).drew) : if Region.wanted o (yielded ops a.tmps) = true then Oper.wp Tryz.prog o a w K Q else X := by
  have hw : Region.wanted o (yielded ops a.tmps) = true := by simp [Region.wanted, hgd]
  rw [if_pos hw]
  obtain ⟨cs, cap, hN, hrun⟩ := run_newO E N (ty := o.type) hu hne hby
  unfold Oper.wp execOp
  simp only [ho, resolve, invoke, builtin, Sem.run_bind, Sem.run_pure, Result.andThen_ok, List.map_toArray, List.map_cons, List.map_nil, hs, hy]
  simp only [hrun]
  exact h cs cap hN
end
theorem blk20 (w : World) (o0 o1 : Obj) : ((w.alloc o0).alloc o1).heap[w.heap.size]? = some o0 := blk_old (blk_new w o0) o1
theorem blk21 (w : World) (o0 o1 : Obj) : ((w.alloc o0).alloc o1).heap[w.heap.size + 1]? = some o1 := by
  have := blk_new (w.alloc o0) o1
  simpa using this
section
variable {α : Type} {T Ts : TypeId} {k y : Nat} {z : Value} {enc : α → List Value} {B : Nat} {w w' : World} {v u : Value} {R M : List α}
/-- 'append(nil, u..)' of nothing. -/
theorem step_noneO (E : El T Ts k y z) {ops : Array Oper} {o : Oper} {a : Act} {K : Act → World → Prop} {Q : Exit → Act → World → Prop} {X : Prop} (hgd : o.guard = none) (p q : Operand) (ho : o.op = .call { callee := .builtin .append, args := #[p, q], argTypes := #[Ts, Ts] })
    (hs : a.eval p = .slice none 0 0) (oa : Option Addr) (oc : Nat) (hy : a.eval q = .slice oa 0 oc)
    (h : K (a.put o.dst (.slice none 0 0)) w) : if Region.wanted o (yielded ops a.tmps) = true then Oper.wp Tryz.prog o a w K Q else X := by
  have hw : Region.wanted o (yielded ops a.tmps) = true := by simp [Region.wanted, hgd]
  rw [if_pos hw]
  obtain ⟨i, hi, hzz⟩ := Option.map_eq_some_iff.1 E.info
  have hrun : (Builtin.append_ #[Ts, Ts] o.type #[.slice none 0 0, .slice oa 0 oc]).run Tryz.prog w = .ok (.slice none 0 0) w := by
    cases oa with
    | none => simp [Builtin.append_, run_underlying E.und, sizeOf, typeInfo, hi, Builtin.lenOf, Builtin.firstCells]
    | some a => simp [Builtin.append_, run_underlying E.und, sizeOf, typeInfo, hi, Builtin.lenOf, Builtin.firstCells, loadCells, loadCellsFrom]
  unfold Oper.wp execOp
  simp only [ho, resolve, invoke, builtin, Sem.run_bind, Sem.run_pure, Result.andThen_ok, List.map_toArray, List.map_cons, List.map_nil, hs, hy]
  simp only [hrun]
  exact h
end
theorem blk30 (w : World) (o0 o1 o2 : Obj) : (((w.alloc o0).alloc o1).alloc o2).heap[w.heap.size]? = some o0 := blk_old (blk_old (blk_new w o0) o1) o2
theorem blk31 (w : World) (o0 o1 o2 : Obj) : (((w.alloc o0).alloc o1).alloc o2).heap[w.heap.size + 1]? = some o1 := by
  have := blk_old (blk_new (w.alloc o0) o1) o2
  simpa using this
theorem blk32 (w : World) (o0 o1 o2 : Obj) : (((w.alloc o0).alloc o1).alloc o2).heap[w.heap.size + 1 + 1]? = some o2 := by
  have := blk_new ((w.alloc o0).alloc o1) o2
  simpa using this
end Go.Proofs.YtbnpdfakniebnaaGreatDoor
