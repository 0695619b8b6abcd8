/-
  Rows of things of any kind, each of some cells: as they are viewed, as they are owned; 'append'. (By the verifier; no statement.)
-/
import Derived.Test.YtbielnehggcaoaaDoorL17
import Derived.Deep.RegionLaw
import Derived.Test.YtbielnehggcaoaaDoorL21
namespace Go.Proofs.YtbielnehggcaoaaDoor
open Go.RowKit
/-- What is known of a kind of things: its type, the type of lists of it, how many cells, how many bytes. -/
structure El (T Ts : TypeId) (k y : Nat) (z : Value) : Prop where
  info : (Tryd.prog.info? T).map (fun i => (i.zero, i.size, i.bytes)) = some (some z, k, y)
  und : Tryd.prog.underlying Ts = some (.slice T)
  zc : z.cells.size = k
  pos : 0 < k
  posy : 0 < y
structure En {α : Type} (k : Nat) (enc : α → List Value) : Prop where
  len : ∀ r, (enc r).length = k
  one : ∀ r u, u ∈ enc r → u.oneCell' = true
/-- A row of things in memory of its own from B on. -/
structure OW {α : Type} (T : TypeId) (k : Nat) (enc : α → List Value) (B : Nat) (w : World) (v : Value) (R : List α) : Prop where
  own : w.ownsRow B T k v R.length (R.flatMap enc)
/-- The slice v reads as the things R. -/
structure VW {α : Type} (enc : α → List Value) (w : World) (v : Value) (R : List α) : Prop where
  ex : ∃ a c, v = .slice a R.length c ∧ (a = none → c = 0) ∧ (R ≠ [] → ∃ b o, a = some ⟨b, o, none⟩ ∧ ∀ (i : Nat) (u : Value), (R.flatMap enc)[i]? = some u → w.cell? ⟨b, o + i, none⟩ = some u)
theorem rowO_len {α : Type} {k : Nat} {enc : α → List Value} (N : En k enc) : ∀ R : List α, (R.flatMap enc).length = R.length * k
  | [] => by simp
  | r :: R => by rw [List.flatMap_cons, List.length_append, N.len, rowO_len N R, List.length_cons, Nat.succ_mul]; omega
theorem rowO_at {α : Type} {k : Nat} {enc : α → List Value} (N : En k enc) : ∀ (R : List α) {i j : Nat} (h : i < R.length), j < k → (R.flatMap enc)[i * k + j]? = (enc R[i])[j]?
  | [], i, j, h, _ => by simp at h
  | r :: R, 0, j, h, hj => by
    rw [List.flatMap_cons, Nat.zero_mul, Nat.zero_add, List.getElem?_append_left (by rw [N.len]; exact hj)]
    rfl
  | r :: R, i + 1, j, h, hj => by
    have e : (i + 1) * k + j = k + (i * k + j) := by rw [Nat.succ_mul]; omega
    rw [List.flatMap_cons, e, List.getElem?_append_right (by rw [N.len]; omega), N.len, Nat.add_sub_cancel_left]
    exact rowO_at N R (by simpa using h) hj
section
variable {α : Type} {T Ts : TypeId} {k y : Nat} {z : Value} {enc : α → List Value} {B : Nat} {w w' : World} {v u : Value} {R M : List α}
theorem OW.nil (T : TypeId) (k : Nat) (enc : α → List Value) (B : Nat) (w : World) : OW T k enc B w (.slice none 0 0) [] := ⟨World.ownsRow_nil _ _ _ _⟩
theorem OW.keep {F : List Nat} (h : OW T k enc B w v R) (ht : Turned F w w') (hF : ∀ g, v.ownBlock = some g → g ∉ F) : OW T k enc B w' v R := by
  refine ⟨h.own.1, ?_⟩
  rcases h.own.2 with h0 | ⟨g, c, cs, rfl, hb, hg, h3⟩
  · exact .inl h0
  · exact .inr ⟨g, c, cs, rfl, hb, ht.heap hg (hF g rfl), h3⟩
theorem OW.still (h : OW T k enc B w v R) (ht : Turned [] w w') : OW T k enc B w' v R := h.keep ht (by simp)
theorem OW.fresh (h : OW T k enc B w v R) {g : Nat} (hg : v.ownBlock = some g) : B ≤ g ∧ g < w.heap.size := h.own.lt g hg
theorem OW.type (h : OW T k enc B w v R) {g : Nat} (hg : v.ownBlock = some g) : ∃ cs, w.heap[g]? = some (.cells cs T (0, 0)) := by
  rcases h.own.2 with ⟨rfl, h0⟩ | ⟨g', c, cs, rfl, hb, hg', h3⟩
  · cases hg
  · cases hg; exact ⟨cs, hg'⟩
theorem OW.lower {B' : Nat} (h : OW T k enc B w v R) (hb : B' ≤ B) : OW T k enc B' w v R := by
  refine ⟨h.own.1, ?_⟩
  rcases h.own.2 with h0 | ⟨g, c, cs, rfl, hb2, hg, h3⟩
  · exact .inl h0
  · exact .inr ⟨g, c, cs, rfl, by omega, hg, h3⟩
theorem OW.form (h : OW T k enc B w v R) : (v = .slice none 0 0 ∧ R = []) ∨ ∃ g c, v = .slice (some ⟨g, 0, none⟩) R.length c := by
  rcases h.own.2 with ⟨rfl, h0⟩ | ⟨g, c, cs, rfl, _⟩
  · exact .inl ⟨rfl, List.length_eq_zero_iff.1 h0⟩
  · exact .inr ⟨g, c, rfl⟩
theorem OW.slice (h : OW T k enc B w v R) : ∃ a c, v = .slice a R.length c := by
  rcases h.form with ⟨rfl, rfl⟩ | ⟨g, c, rfl⟩
  · exact ⟨none, 0, rfl⟩
  · exact ⟨_, c, rfl⟩
theorem OW.somes {x : α} (h : OW T k enc B w v (R ++ [x])) : ∃ g c, v = .slice (some ⟨g, 0, none⟩) (R.length + 1) c := by
  rcases h.own.2 with ⟨_, e⟩ | ⟨g, c, cs, rfl, _⟩
  · simp at e
  · exact ⟨g, c, by simp⟩
theorem OW.at_ (h : OW T k enc B w v R) (hne : R ≠ []) : ∃ g c, v = .slice (some ⟨g, 0, none⟩) R.length c := by
  rcases h.form with ⟨_, h0⟩ | h0
  · exact absurd h0 hne
  · exact h0
theorem OW.view (h : OW T k enc B w v R) : VW enc w v R := by
  rcases h.form with ⟨rfl, rfl⟩ | ⟨g, c, rfl⟩
  · exact ⟨none, 0, rfl, fun _ => rfl, fun h => absurd rfl h⟩
  · refine ⟨_, c, rfl, (fun h => by cases h), fun _ => ⟨g, 0, rfl, fun i u hu => ?_⟩⟩
    have hi : i < (R.flatMap enc).length := (List.getElem?_eq_some_iff.1 hu).1
    rw [Nat.zero_add, h.own.cellAt i (by have := h.own.1; omega)]
    exact hu
theorem VW.keep {F : List Nat} (h : VW enc w v R) (ht : Turned F w w') (hF : ∀ b, v.ownBlock = some b → b ∉ F) : VW enc w' v R := by
  obtain ⟨a, c, rfl, hz, hc⟩ := h.ex
  refine ⟨a, c, rfl, hz, fun hne => ?_⟩
  obtain ⟨b, o, rfl, hk⟩ := hc hne
  exact ⟨b, o, rfl, fun i u hi => ht.cell (hk i u hi) (hF b rfl)⟩
theorem VW.still (h : VW enc w v R) (ht : Turned [] w w') : VW enc w' v R := h.keep ht (by simp)
theorem VW.nil (enc : α → List Value) (w : World) : VW enc w (.slice none 0 0) [] := ⟨none, 0, rfl, fun _ => rfl, fun h => absurd rfl h⟩
theorem VW.block {g c : Nat} {cs : Array Value} {T : TypeId} (h : w.heap[g]? = some (.cells cs T (0, 0))) (hc : ∀ (i : Nat) (u : Value), (R.flatMap enc)[i]? = some u → cs[i]? = some u) : VW enc w (.slice (some ⟨g, 0, none⟩) R.length c) R :=
  ⟨_, c, rfl, (fun h => by cases h), fun _ => ⟨g, 0, rfl, fun i u hu => by rw [Nat.zero_add, cell_at h]; exact hc i u hu⟩⟩
/-- A thing of a row, cell by cell. -/
theorem VW.get (N : En k enc) (hk : 0 < k) (h : VW enc w v R) {i : Nat} (hi : i < R.length) : ∃ b o c, v = .slice (some ⟨b, o, none⟩) R.length c ∧ b < w.heap.size ∧ ∀ (j : Nat) (u : Value), (enc R[i])[j]? = some u → w.cell? ⟨b, o + (i * k + j), none⟩ = some u := by
  obtain ⟨a, c, rfl, hz, hc⟩ := h.ex
  obtain ⟨b, o, rfl, hq⟩ := hc (fun e => by subst e; simp at hi)
  have hcell : ∀ (j : Nat) (u : Value), (enc R[i])[j]? = some u → w.cell? ⟨b, o + (i * k + j), none⟩ = some u := fun j u hu => by
    have hj : j < k := by
      have := (List.getElem?_eq_some_iff.1 hu).1
      rwa [N.len] at this
    exact hq (i * k + j) u (by rw [rowO_at N R hi hj]; exact hu)
  have h0 : 0 < (enc R[i]).length := by rw [N.len]; exact hk
  exact ⟨b, o, c, rfl, World.block_lt_of_cell? _ _ (hcell 0 _ (List.getElem?_eq_getElem h0)), hcell⟩
/-- 'append(v, u..)'. -/
theorem run_apO (E : El T Ts k y z) (N : En k enc) {ty : TypeId} (hr : OW T k enc B w v R) (hu : VW enc w u M) (hby : (R.length + M.length) * y ≤ 140737488355328) (hB : B ≤ w.heap.size) :
    ∃ v' w', (Builtin.append_ #[Ts, Ts] ty #[v, u]).run Tryd.prog w = .ok v' w' ∧ OW T k enc B w' v' (R ++ M) ∧ Turned v.ownBlock.toList w w' ∧ (v'.ownBlock = v.ownBlock ∨ v'.ownBlock = some w.heap.size) := by
  obtain ⟨i, hi, hzz⟩ := Option.map_eq_some_iff.1 E.info
  simp only [Prod.mk.injEq] at hzz
  obtain ⟨hz, hs1, hb⟩ := hzz
  obtain ⟨a, c, rfl, hz0, hc⟩ := hu.ex
  have hlen : R.length + M.length ≤ 140737488355328 := Nat.le_trans (Nat.le_mul_of_pos_right _ E.posy) hby
  cases a with
  | none =>
    have hms : M = [] := by
      apply Classical.byContradiction
      intro hne
      obtain ⟨b, o, h, _⟩ := hc hne
      cases h
    subst hms
    refine ⟨v, w, ?_, by simpa using hr, Turned.refl _ _, .inl rfl⟩
    have := run_append_owned_none (P := Tryd.prog) (w := w) B Ts ty T i k E.und hi v R.length (R.flatMap enc) hr.own
    rw [hz0 rfl]
    exact this
  | some q =>
    obtain ⟨v', w', hrun, h2, h3, h4, h5⟩ := run_append_own_at (P := Tryd.prog) w B Ts ty T i _ k y E.und hi hz hs1 hb E.zc E.pos v R.length (R.flatMap enc) hr.own q M.length c (M.flatMap enc) (rowO_len N M) (fun j u hj => by
      have hne : M ≠ [] := fun e => by rw [e] at hj; simp at hj
      obtain ⟨b, o, hq, hk⟩ := hc hne
      cases hq
      have hadd : (⟨b, o, none⟩ : Addr).add j = ⟨b, o + j, none⟩ := by unfold Addr.add; split <;> simp_all
      rw [hadd]
      exact hk j u hj) (by
        intro u hu
        obtain ⟨r, _, hr⟩ := List.mem_flatMap.1 hu
        exact N.one r u hr) (by unfold maxLen; omega) hby hB
    exact ⟨v', w', hrun, ⟨by rw [List.length_append, List.flatMap_append]; exact h2⟩, ⟨h3.os, h3.tape, h3.output, h3.size, fun k hk hn => h3.block k hk fun e => hn (by rw [← e]; simp)⟩, h5⟩
theorem wpList_apO (E : El T Ts k y z) (N : En k enc) {ops : Array Oper} {rest : List Oper} {o : Oper} {a : Act} {Q : Exit → Act → World → Prop} (hgd : o.guard = none) (p q : Operand) (ho : o.op = .call { callee := .builtin .append, args := #[p, q], argTypes := #[Ts, Ts] })
    (hs : a.eval p = v) (hr : OW T k enc B w v R) (hy : a.eval q = u) (hu : VW enc w u M) (hby : (R.length + M.length) * y ≤ 140737488355328) (hB : B ≤ w.heap.size)
    (h : ∀ v' w', OW T k enc B w' v' (R ++ M) → Turned v.ownBlock.toList w w' → (v'.ownBlock = v.ownBlock ∨ v'.ownBlock = some w.heap.size) → wpList Tryd.prog ops Q rest (a.put o.dst v') w') : wpList Tryd.prog ops Q (o :: rest) a w := by
  refine wpList_plain hgd fun K hK => ?_
  obtain ⟨v', w', hrun, h2, h3, h4⟩ := run_apO E N (ty := o.type) hr hu hby hB
  unfold Oper.wp execOp
  simp only [ho, resolve, invoke, builtin, Sem.run_bind, Sem.run_pure, Result.andThen_ok, List.map_toArray, List.map_cons, List.map_nil, hs, hy]
  simp only [hrun]
  exact hK _ _ (h v' w' h2 h3 h4)
/-- The same as a step of a region that draws. -/
theorem step_apO (E : El T Ts k y z) (N : En k enc) {ops : Array Oper} {o : Oper} {a : Act} {K : Act → World → Prop} {Q : Exit → Act → World → Prop} {X : Prop} (hgd : o.guard = none) (p q : Operand) (ho : o.op = .call { callee := .builtin .append, args := #[p, q], argTypes := #[Ts, Ts] })
    (hs : a.eval p = v) (hr : OW T k enc B w v R) (hy : a.eval q = u) (hu : VW enc w u M) (hby : (R.length + M.length) * y ≤ 140737488355328) (hB : B ≤ w.heap.size)
    (h : ∀ v' w', OW T k enc B w' v' (R ++ M) → Turned v.ownBlock.toList w w' → (v'.ownBlock = v.ownBlock ∨ v'.ownBlock = some w.heap.size) → K (a.put o.dst v') w') : if Region.wanted o (yielded ops a.tmps) = true then Oper.wp Tryd.prog o a w K Q else X := by
  have hw : Region.wanted o (yielded ops a.tmps) = true := by simp [Region.wanted, hgd]
  rw [if_pos hw]
  obtain ⟨v', w', hrun, h2, h3, h4⟩ := run_apO E N (ty := o.type) hr hu hby hB
  unfold Oper.wp execOp
  simp only [ho, resolve, invoke, builtin, Sem.run_bind, Sem.run_pure, Result.andThen_ok, List.map_toArray, List.map_cons, List.map_nil, hs, hy]
  simp only [hrun]
  exact h v' w' h2 h3 h4
end
end Go.Proofs.YtbielnehggcaoaaDoor
/-
  'append(nil, xs..)': one new block, told outright. (By the verifier; no statement.)
-/
namespace Go.Proofs.YtbielnehggcaoaaDoor
open Go.RowKit
section
variable {α : Type} {T Ts : TypeId} {k y : Nat} {z : Value} {enc : α → List Value} {B : Nat} {w w' : World} {v u : Value} {R M : List α}
/-- The cells of a new row, with the room behind it. -/
structure NR (k : Nat) (enc : α → List Value) (M : List α) (cs : Array Value) (cap : Nat) : Prop where
  le : M.length ≤ cap
  mx : cap ≤ maxLen
  sz : cs.size = cap * k
  tk : cs.toList.take (M.length * k) = M.flatMap enc
theorem NR.own (N : En k enc) {cs : Array Value} {cap g : Nat} (h : NR k enc M cs cap) (hg : w.heap[g]? = some (.cells cs T (0, 0))) (hB : B ≤ g) : OW T k enc B w (.slice (some ⟨g, 0, none⟩) M.length cap) M :=
  ⟨rowO_len N M, .inr ⟨g, cap, cs, rfl, hB, hg, h.le, h.mx, h.sz, h.tk⟩⟩
/-- 'append(nil, u..)' of something: one new block, as a step of a region that draws. -/
theorem run_newO (E : El T Ts k y z) (N : En k enc) {ty : TypeId} (hu : VW enc w u M) (hne : M ≠ []) (hby : M.length * y ≤ 140737488355328) :
    ∃ cs cap, NR k enc M cs cap ∧ (Builtin.append_ #[Ts, Ts] ty #[.slice none 0 0, u]).run Tryd.prog w = .ok (.slice (some ⟨w.heap.size, 0, none⟩) M.length cap) (w.alloc (.cells cs T (0, 0))).drew := by
  obtain ⟨i, hi, hzz⟩ := Option.map_eq_some_iff.1 E.info
  simp only [Prod.mk.injEq] at hzz
  obtain ⟨hz, hs1, hb⟩ := hzz
  obtain ⟨a, c, rfl, hz0, hc⟩ := hu.ex
  obtain ⟨b, o, rfl, hk⟩ := hc hne
  have hpos : 0 < M.length := by
    rcases Nat.eq_zero_or_pos M.length with e | e
    · exact absurd (List.length_eq_zero_iff.1 e) hne
    · exact e
  have hlen : M.length ≤ 140737488355328 := Nat.le_trans (Nat.le_mul_of_pos_right _ E.posy) hby
  have h63 : M.length ≤ maxLen := by unfold maxLen; omega
  have hr := run_append_nil (P := Tryd.prog) w Ts ty T i z E.und hi hz ⟨b, o, none⟩ M.length c (M.flatMap enc) (by rw [hs1]; exact rowO_len N M) (fun j u hj => by
    have hadd : (⟨b, o, none⟩ : Addr).add j = ⟨b, o + j, none⟩ := by unfold Addr.add; split <;> simp_all
    rw [hadd]
    exact hk j u hj) hpos (by omega) (by rw [hb]; exact Nat.le_trans hby (by decide))
  have hge := grownCap_ge w M.length 0 T
  refine ⟨_, _, ⟨hge, grownCap_le_maxLen w M.length 0 T h63, ?_, ?_⟩, hr⟩
  · rw [Array.size_append, List.size_toArray, size_zeroCells, E.zc, rowO_len N, ← Nat.add_mul, Nat.add_sub_cancel' hge]
  · simp only [Array.toList_append]
    rw [← rowO_len N M]
    exact List.take_left
theorem step_newO (E : El T Ts k y z) (N : En k enc) {ops : Array Oper} {o : Oper} {a : Act} {K : Act → World → Prop} {Q : Exit → Act → World → Prop} {X : Prop} (hgd : o.guard = none) (p q : Operand) (ho : o.op = .call { callee := .builtin .append, args := #[p, q], argTypes := #[Ts, Ts] })
    (hs : a.eval p = .slice none 0 0) (hy : a.eval q = u) (hu : VW enc w u M) (hne : M ≠ []) (hby : M.length * y ≤ 140737488355328)
    (h : ∀ cs cap, NR k enc M cs cap → K (a.put o.dst (.slice (some ⟨w.heap.size, 0, none⟩) M.length cap)) (w.alloc (.cells cs T (0, 0))).drew) : if Region.wanted o (yielded ops a.tmps) = true then Oper.wp Tryd.prog o a w K Q else X := by
  have hw : Region.wanted o (yielded ops a.tmps) = true := by simp [Region.wanted, hgd]
  rw [if_pos hw]
  obtain ⟨cs, cap, hN, hrun⟩ := run_newO E N (ty := o.type) hu hne hby
  unfold Oper.wp execOp
  simp only [ho, resolve, invoke, builtin, Sem.run_bind, Sem.run_pure, Result.andThen_ok, List.map_toArray, List.map_cons, List.map_nil, hs, hy]
  simp only [hrun]
  exact h cs cap hN
end
theorem blk20 (w : World) (o0 o1 : Obj) : ((w.alloc o0).alloc o1).heap[w.heap.size]? = some o0 := blk_old (blk_new w o0) o1
theorem blk21 (w : World) (o0 o1 : Obj) : ((w.alloc o0).alloc o1).heap[w.heap.size + 1]? = some o1 := by
  have := blk_new (w.alloc o0) o1
  simpa using this
section
variable {α : Type} {T Ts : TypeId} {k y : Nat} {z : Value} {enc : α → List Value} {B : Nat} {w w' : World} {v u : Value} {R M : List α}
/-- 'append(nil, u..)' of nothing. -/
theorem step_noneO (E : El T Ts k y z) {ops : Array Oper} {o : Oper} {a : Act} {K : Act → World → Prop} {Q : Exit → Act → World → Prop} {X : Prop} (hgd : o.guard = none) (p q : Operand) (ho : o.op = .call { callee := .builtin .append, args := #[p, q], argTypes := #[Ts, Ts] })
    (hs : a.eval p = .slice none 0 0) (oa : Option Addr) (oc : Nat) (hy : a.eval q = .slice oa 0 oc)
    (h : K (a.put o.dst (.slice none 0 0)) w) : if Region.wanted o (yielded ops a.tmps) = true then Oper.wp Tryd.prog o a w K Q else X := by
  have hw : Region.wanted o (yielded ops a.tmps) = true := by simp [Region.wanted, hgd]
  rw [if_pos hw]
  obtain ⟨i, hi, hzz⟩ := Option.map_eq_some_iff.1 E.info
  have hrun : (Builtin.append_ #[Ts, Ts] o.type #[.slice none 0 0, .slice oa 0 oc]).run Tryd.prog w = .ok (.slice none 0 0) w := by
    cases oa with
    | none => simp [Builtin.append_, run_underlying E.und, sizeOf, typeInfo, hi, Builtin.lenOf, Builtin.firstCells]
    | some a => simp [Builtin.append_, run_underlying E.und, sizeOf, typeInfo, hi, Builtin.lenOf, Builtin.firstCells, loadCells, loadCellsFrom]
  unfold Oper.wp execOp
  simp only [ho, resolve, invoke, builtin, Sem.run_bind, Sem.run_pure, Result.andThen_ok, List.map_toArray, List.map_cons, List.map_nil, hs, hy]
  simp only [hrun]
  exact h
end
theorem blk30 (w : World) (o0 o1 o2 : Obj) : (((w.alloc o0).alloc o1).alloc o2).heap[w.heap.size]? = some o0 := blk_old (blk_old (blk_new w o0) o1) o2
theorem blk31 (w : World) (o0 o1 o2 : Obj) : (((w.alloc o0).alloc o1).alloc o2).heap[w.heap.size + 1]? = some o1 := by
  have := blk_old (blk_new (w.alloc o0) o1) o2
  simpa using this
theorem blk32 (w : World) (o0 o1 o2 : Obj) : (((w.alloc o0).alloc o1).alloc o2).heap[w.heap.size + 1 + 1]? = some o2 := by
  have := blk_new ((w.alloc o0).alloc o1) o2
  simpa using this
end Go.Proofs.YtbielnehggcaoaaDoor
/-
  States of the document's search for an order. (By the verifier; no statement, no memory.)
-/
namespace Go.Proofs.YtbielnehggcaoaaDoor
open Go.RowKit
/-- Which stand in the order, and what the cells hold, out of lists. -/
def pL (bs : List Bool) : Pl := fun i => bs.getD i false
def vL (cs : List Int) : Int → Int := fun c => if 0 ≤ c then cs.getD c.toNat 0 else 0
theorem pL_set {bs : List Bool} {k : Nat} (h : k < bs.length) : pL (bs.set k true) = (pL bs).upd k := by
  funext i
  unfold pL Pl.upd
  by_cases e : i = k
  · subst e; simp [h]
  · have e2 : ¬ k = i := fun x => e x.symm
    simp [List.getD_eq_getElem?_getD, List.getElem?_set_ne e2, e]
theorem vL_set {cs : List Int} {a : Nat} (h : a < cs.length) (x : Int) : vL (cs.set a x) = updV (vL cs) (a : Int) x := by
  funext c
  unfold vL updV
  dsimp only
  by_cases h0 : 0 ≤ c
  · rw [if_pos h0]
    by_cases e : c = (a : Int)
    · subst e; simp [h]
    · have e2 : ¬ a = c.toNat := by omega
      rw [if_neg e, if_pos h0]
      simp [List.getD_eq_getElem?_getD, List.getElem?_set_ne e2]
  · rw [if_neg h0, if_neg (by omega), if_neg h0]
variable {D : List Dd}
/-- Two ways of telling what the cells hold, alike where deeds are. -/
def Alike (D : List Dd) (v v' : Int → Int) : Prop := ∀ i, i < D.length → v (dAt D i).a = v' (dAt D i).a
theorem Alike.symm {v v' : Int → Int} (h : Alike D v v') : Alike D v' v := fun i hi => (h i hi).symm
theorem Alike.step {v v' : Int → Int} (h : Alike D v v') {i : Nat} (hi : i < D.length) : Alike D (stepV D v i) (stepV D v' i) := fun j hj => by
  unfold stepV updV
  rw [h i hi, h j hj]
theorem Goes.alike {S : Pl} {v v' : Int → Int} {os : List Nat} (h : Goes D S v os) (hv : Alike D v v') : Goes D S v' os := by
  induction h generalizing v' with
  | nil h => exact .nil h
  | @cons S v i os hi hm hf _ ih =>
    refine .cons hi hm (by rw [← hv i hi]; exact hf) ?_
    exact ih (hv.step hi)
theorem Can.alike {S : Pl} {v v' : Int → Int} (h : Can D S v) (hv : Alike D v v') : Can D S v' := by
  obtain ⟨os, ho⟩ := h
  exact ⟨os, ho.alike hv⟩
theorem Cond.alike {S : Pl} {v v' : Int → Int} {i : Nat} (hi : i < D.length) (h : Cond D S v i) (hv : Alike D v v') : Cond D S v' i := by
  unfold Cond at h ⊢
  rw [← hv i hi]
  exact h
theorem Least.alike {S : Pl} {v v' : Int → Int} {os : List Nat} (h : Least D S v os) (hv : Alike D v v') : Least D S v' os := by
  induction h generalizing v' with
  | nil h => exact .nil h
  | @cons S v i os ha hi hc hl _ ih =>
    exact .cons ha hi (hc.alike hi hv) (fun j hj hcj => hl j hj (hcj.alike (by omega) hv.symm)) (ih (hv.step hi))
/-- May the deed j come next, so that the rest has an order? -/
def Nxt (D : List Dd) (S : Pl) (v : Int → Int) (j : Nat) : Prop := may D S j = true ∧ (dAt D j).fits (v (dAt D j).a) = true ∧ Can D (S.upd j) (stepV D v j)
theorem least_step (hr : ∀ i, i < D.length → (dAt D i).e = 0 ∨ (dAt D i).b ≤ (dAt D i).e) {S : Pl} {v : Int → Int} {k : Nat} {os : List Nat} (ha : allIn D S = false) (hk : k < D.length) (hm : may D S k = true) (hf : (dAt D k).fits (v (dAt D k).a) = true) (hL : Least D (S.upd k) (stepV D v k) os) (hno : ∀ j, j < k → ¬ Nxt D S v j) : Least D S v (k :: os) := by
  have hcan : Can D S v := Can.step hk hm hf ⟨os, hL.goes⟩
  exact .cons ha hk ((cond_can hr hcan).2 ⟨hm, hf, os, hL.goes⟩) (fun j hj hcj => hno j hj ((cond_can hr hcan).1 hcj)) hL
theorem none_of {S : Pl} {v : Int → Int} (ha : allIn D S = false) (hno : ∀ j, j < D.length → ¬ Nxt D S v j) : ¬ Can D S v := fun h => by
  obtain ⟨i, hi, hm, hf, hc⟩ := h.next ha
  exact hno i hi ⟨hm, hf, hc⟩
/-- What the search answers of a state. -/
def Ans (D : List Dd) (S : Pl) (v : Int → Int) : Option (List Nat) → Prop
  | some os => Least D S v os
  | none => ¬ Can D S v
theorem Ans.uniq {S : Pl} {v : Int → Int} {a b : Option (List Nat)} (ha : Ans D S v a) (hb : Ans D S v b) : a = b := by
  cases a with
  | none =>
    cases b with
    | none => rfl
    | some os => exact absurd ⟨os, Least.goes hb⟩ ha
  | some os =>
    cases b with
    | none => exact absurd ⟨os, Least.goes ha⟩ hb
    | some os' => rw [Least.uniq (D := D) ha hb]
theorem Ans.alike {S : Pl} {v v' : Int → Int} {a : Option (List Nat)} (h : Ans D S v a) (hv : Alike D v v') : Ans D S v' a := by
  cases a with
  | none => exact fun hc => h (hc.alike hv.symm)
  | some os => exact Least.alike h hv
end Go.Proofs.YtbielnehggcaoaaDoor
/-
  The document's search for an order: its small functions by contract. (By the verifier; no statement.)
-/
namespace Go.Proofs.YtbielnehggcaoaaDoor
open Go.RowKit
theorem may_splitQ {D : List Dd} {S : Pl} {k : Nat} (hS : S k = false) : may D S k = (List.range D.length).all fun j => !wasA (dAt D j).e (dAt D k).b || S j := by
  unfold may
  rw [hS]
  rfl
theorem all_range_succQ {p : Nat → Bool} {j : Nat} : (List.range (j + 1)).all p = ((List.range j).all p && p j) := by
  rw [List.range_succ, List.all_append]
  simp
set_option maxHeartbeats 400000 in
theorem cRTimes (b e : Int) (w : World) : Calls Tryd.prog 50 #[.int .i64 b, .int .i64 e] w fun r w' => r = .returned (.bool (timeB b e)) ∧ w' = w := by
  unfold timeB
  rcases (by omega : ¬ 1 ≤ b ∨ (1 ≤ b ∧ e = 0) ∨ (1 ≤ b ∧ e ≠ 0 ∧ b ≤ e) ∨ (1 ≤ b ∧ e ≠ 0 ∧ ¬ b ≤ e)) with h | ⟨h, rfl⟩ | ⟨h, h1, h2⟩ | ⟨h, h1, h2⟩
  · have d1 : decide (1 ≤ b) = false := decide_eq_false h
    rw [d1]
    go_enter Tryd.func50, Tryd.ntmps50
    go_wp2
    go_ret
    exact ⟨rfl, rfl⟩
  · have d1 : decide (1 ≤ b) = true := decide_eq_true h
    rw [d1]
    go_enter Tryd.func50, Tryd.ntmps50
    go_wp2
    go_ret
    exact ⟨rfl, rfl⟩
  · have d1 : decide (1 ≤ b) = true := decide_eq_true h
    have d2 : decide (b ≤ e) = true := decide_eq_true h2
    have d3 : (e == 0) = false := by simpa using h1
    have d4 : decide (e = 0) = false := decide_eq_false h1
    rw [d1, d2, d4]
    go_enter Tryd.func50, Tryd.ntmps50
    go_wp2
    go_ret
    exact ⟨rfl, rfl⟩
  · have d1 : decide (1 ≤ b) = true := decide_eq_true h
    have d2 : decide (b ≤ e) = false := decide_eq_false h2
    have d3 : (e == 0) = false := by simpa using h1
    have d4 : decide (e = 0) = false := decide_eq_false h1
    rw [d1, d2, d4]
    go_enter Tryd.func50, Tryd.ntmps50
    go_wp2
    go_ret
    exact ⟨rfl, rfl⟩
set_option maxHeartbeats 400000 in
theorem cBefore (e b : Int) (w : World) : Calls Tryd.prog 60 #[.int .i64 e, .int .i64 b] w fun r w' => r = .returned (.bool (wasA e b)) ∧ w' = w := by
  unfold wasA
  rcases (by omega : e = 0 ∨ (e ≠ 0 ∧ e < b) ∨ (e ≠ 0 ∧ ¬ e < b)) with rfl | ⟨h, h1⟩ | ⟨h, h1⟩
  · go_enter Tryd.func60, Tryd.ntmps60
    go_wp2
    go_ret
    exact ⟨rfl, rfl⟩
  · have d1 : decide (e ≠ 0) = true := decide_eq_true h
    have d2 : decide (e < b) = true := decide_eq_true h1
    have d3 : (e != 0) = true := by simpa using h
    rw [d1, d2]
    go_enter Tryd.func60, Tryd.ntmps60
    go_wp2
    go_ret
    exact ⟨rfl, rfl⟩
  · have d1 : decide (e ≠ 0) = true := decide_eq_true h
    have d2 : decide (e < b) = false := decide_eq_false h1
    have d3 : (e != 0) = true := by simpa using h
    rw [d1, d2]
    go_enter Tryd.func60, Tryd.ntmps60
    go_wp2
    go_ret
    exact ⟨rfl, rfl⟩
set_option maxHeartbeats 800000 in
theorem cRRight {b e k a x c n : Int} {ok : Bool} {fa : Option Addr} {m fc : Nat} (w : World) : Calls Tryd.prog 33 #[.slice fa m fc, .agg #[.int .i64 b, .int .i64 e, .int .i64 k, .int .i64 a, .int .i64 x, .int .i64 c, .int .i64 n, .bool ok]] w fun r w' => r = .returned (.bool (rightB m ⟨b, e, k, a, x, c, n, ok⟩)) ∧ Turned [] w w' := by
  unfold rightB
  dsimp only
  cases d1 : decide (1 ≤ k) with
  | false =>
    go_enter Tryd.func33, Tryd.ntmps33
    go_wp2
    go_ret
    exact ⟨rfl, (Turned.refl [] w).alloc _⟩
  | true =>
    cases d2 : decide (k ≤ 7) with
    | false =>
      go_enter Tryd.func33, Tryd.ntmps33
      go_wp2
      go_ret
      exact ⟨rfl, (Turned.refl [] w).alloc _⟩
    | true =>
      cases d3 : decide (0 ≤ a) with
      | false =>
        go_enter Tryd.func33, Tryd.ntmps33
        go_wp2
        go_ret
        exact ⟨rfl, (Turned.refl [] w).alloc _⟩
      | true =>
        cases d4 : decide (a < m) with
        | false =>
          go_enter Tryd.func33, Tryd.ntmps33
          go_wp2
          go_ret
          exact ⟨rfl, (Turned.refl [] w).alloc _⟩
        | true =>
          have P := fun w => cRTimes b e w
          go_enter Tryd.func33, Tryd.ntmps33
          go_wp2_with (go_at_call 50; refine (P _).mono ?_; rintro r x1 ⟨rfl, rfl⟩)
          go_ret
          exact ⟨rfl, (Turned.refl [] w).alloc _⟩
set_option maxHeartbeats 1600000 in
theorem cROpen {D : List Dd} {ad : Option Addr} {cap : Nat} {t : Int} {w : World} (hD : DsAt w ad D) (hn : D.length ≤ 1000) : Calls Tryd.prog 34 #[.slice ad D.length cap, .int .i64 t] w fun r w' => r = .returned (.int .i64 (cntB D t)) ∧ Turned [] w w' := by
  have HD : Hid (DsAt w ad D) := hD
  have HCn : Hid (∀ l, cntB (D.take l) t ≤ 1000) := fun l => Nat.le_trans (List.length_filter_le _ _) (by rw [List.length_take]; omega)
  clear hD
  go_enter Tryd.func34, Tryd.ntmps34
  go_wp2
  go_loopw [5, 6] (fun c i wx => ∃ l : Nat, l ≤ D.length ∧ c = .int .i64 (cntB (D.take l) t : Nat) ∧ i = .int .i64 l ∧ Hid (Turned [] w wx)) (fun _ i _ => D.length - (intOf i).toNat)
  case atStart => exact ⟨0, Nat.zero_le _, rfl, rfl, Turned.refl _ _⟩
  case round =>
    obtain ⟨l, hl, rfl, rfl, HT3⟩ := hrel
    by_cases hl2 : l < D.length
    · have hcl := HCn.out l
      have hd : D[l]? = some (dAt D l) := by unfold dAt; simp [hl2]
      obtain ⟨b, o, rfl, bl, dl⟩ := (HD.out.still HT3.out).deed hd
      have l0 := dl.h0
      have l1 := dl.h1
      clear dl hd
      by_cases g2 : (dAt D l).b ≤ t
      · have f2 : decide ((dAt D l).b ≤ t) = true := decide_eq_true g2
        by_cases g3 : (dAt D l).e = 0
        · have f3 : ((dAt D l).e == 0) = true := by simpa using g3
          have HN : Hid (cntB (D.take (l + 1)) t = cntB (D.take l) t + 1) := by
            rw [Hid, cnt_take (t := t) (show D[l]? = some (dAt D l) by unfold dAt; simp [hl2]), show inB t (dAt D l) = true by unfold inB wasA; simp; omega]
            rfl
          clear g2 g3
          go_wp2
          go_roundw
          case rel => exact ⟨l + 1, by omega, by rw [HN.out]; go_num, by go_num, HT3⟩
          case measure => simp [intOf]; omega
        · have f3 : ((dAt D l).e == 0) = false := by simpa using g3
          by_cases g4 : t ≤ (dAt D l).e
          · have f4 : decide (t ≤ (dAt D l).e) = true := decide_eq_true g4
            have HN : Hid (cntB (D.take (l + 1)) t = cntB (D.take l) t + 1) := by
              rw [Hid, cnt_take (t := t) (show D[l]? = some (dAt D l) by unfold dAt; simp [hl2]), show inB t (dAt D l) = true by unfold inB wasA; simp; omega]
              rfl
            clear g2 g3 g4
            go_wp2
            go_roundw
            case rel => exact ⟨l + 1, by omega, by rw [HN.out]; go_num, by go_num, HT3⟩
            case measure => simp [intOf]; omega
          · have f4 : decide (t ≤ (dAt D l).e) = false := decide_eq_false g4
            have HN : Hid (cntB (D.take (l + 1)) t = cntB (D.take l) t + 0) := by
              rw [Hid, cnt_take (t := t) (show D[l]? = some (dAt D l) by unfold dAt; simp [hl2]), show inB t (dAt D l) = false by unfold inB wasA; simp; omega]
              rfl
            clear g2 g3 g4
            go_wp2
            go_roundw
            case rel => exact ⟨l + 1, by omega, by rw [HN.out]; go_num, by go_num, HT3⟩
            case measure => simp [intOf]; omega
      · have f2 : decide ((dAt D l).b ≤ t) = false := decide_eq_false g2
        have HN : Hid (cntB (D.take (l + 1)) t = cntB (D.take l) t + 0) := by
          rw [Hid, cnt_take (t := t) (show D[l]? = some (dAt D l) by unfold dAt; simp [hl2]), show inB t (dAt D l) = false by unfold inB wasA; simp; omega]
          rfl
        clear g2
        go_wp2
        go_roundw
        case rel => exact ⟨l + 1, by omega, by rw [HN.out]; go_num, by go_num, HT3⟩
        case measure => simp [intOf]; omega
    · obtain rfl : l = D.length := by omega
      rw [List.take_length]
      clear hl hl2
      go_wp2
      go_ret
      exact ⟨rfl, HT3.out⟩
set_option maxHeartbeats 1600000 in
theorem cRAlone {d : Dd} {v : Int} {w : World} (h1 : 1 ≤ d.k) (h7 : d.k ≤ 7) : Calls Tryd.prog 53 #[.agg #[.int .i64 d.b, .int .i64 d.e, .int .i64 d.k, .int .i64 d.a, .int .i64 d.x, .int .i64 d.c, .int .i64 d.n, .bool d.ok], .int .i64 v] w fun r w' => r = .returned (.tuple #[.int .i64 (d.next v), .bool (d.fits v)]) ∧ Turned [] w w' := by
  have HFt : Hid (d.fits v = (decide (d.e = 0) || (decide (d.ans v = d.n) && decide (d.did v = d.ok)))) := rfl
  obtain ⟨nx, hN⟩ : ∃ nx, nx = d.next v := ⟨_, rfl⟩
  obtain ⟨an, hA⟩ : ∃ an, an = d.ans v := ⟨_, rfl⟩
  obtain ⟨di, hI⟩ : ∃ di, di = d.did v := ⟨_, rfl⟩
  obtain ⟨ft, hF⟩ : ∃ ft, ft = d.fits v := ⟨_, rfl⟩
  have HF : Hid (ft = (decide (d.e = 0) || (decide (an = d.n) && decide (di = d.ok)))) := by rw [Hid, hF, HFt.out, hA, hI]
  rw [← hN, ← hF]
  clear hF HFt
  obtain ⟨b, e, k, a, x, c, n, ok⟩ := d
  dsimp only at *
  have key : (e = 0 ∧ ft = true) ∨ ((e != 0) = true ∧ (e == 0) = false ∧ ((an = n ∧ ft = decide (di = ok)) ∨ ((an == n) = false ∧ ft = false))) := by
    by_cases g : e = 0
    · exact .inl ⟨g, by rw [HF.out, decide_eq_true g]; rfl⟩
    · refine .inr ⟨by simpa using g, by simpa using g, ?_⟩
      by_cases g2 : an = n
      · exact .inl ⟨g2, by rw [HF.out, decide_eq_false g, decide_eq_true g2]; simp⟩
      · exact .inr ⟨by simpa using g2, by rw [HF.out, decide_eq_false g, decide_eq_false g2]; rfl⟩
  clear HF
  have HKey : Hid _ := key
  clear key
  rcases (by omega : k = 1 ∨ k = 2 ∨ k = 3 ∨ k = 4 ∨ k = 5 ∨ k = 6 ∨ k = 7) with rfl | rfl | rfl | rfl | rfl | rfl | rfl
  · have e1 : nx = v := by rw [hN]; simp [Dd.next]
    have e2 : an = v := by rw [hA]; simp [Dd.ans]
    have e3 : di = false := by rw [hI]; simp [Dd.did]
    clear hN hA hI
    subst e1
    subst e2
    subst e3
    have K := HKey.out
    clear HKey
    rcases K with ⟨rfl, rfl⟩ | ⟨g1, g2, ⟨rfl, rfl⟩ | ⟨g3, rfl⟩⟩
    · go_enter Tryd.func53, Tryd.ntmps53
      go_wp2
      go_quiet (fail)
      go_wp2
      go_ret2
      exact ⟨rfl, ((Turned.refl [] w).alloc _).drewN _⟩
    · cases ok
      · go_enter Tryd.func53, Tryd.ntmps53
        go_wp2
        go_quiet (fail)
        go_wp2
        go_ret2
        exact ⟨rfl, ((Turned.refl [] w).alloc _).drewN _⟩
      · go_enter Tryd.func53, Tryd.ntmps53
        go_wp2
        go_quiet (fail)
        go_wp2
        go_ret2
        exact ⟨rfl, ((Turned.refl [] w).alloc _).drewN _⟩
    · go_enter Tryd.func53, Tryd.ntmps53
      go_wp2
      go_quiet (fail)
      go_wp2
      go_ret2
      exact ⟨rfl, ((Turned.refl [] w).alloc _).drewN _⟩
  · have e1 : nx = x := by rw [hN]; simp [Dd.next]
    have e2 : an = 0 := by rw [hA]; simp [Dd.ans]
    have e3 : di = false := by rw [hI]; simp [Dd.did]
    clear hN hA hI
    subst e1
    subst e2
    subst e3
    have K := HKey.out
    clear HKey
    rcases K with ⟨rfl, rfl⟩ | ⟨g1, g2, ⟨rfl, rfl⟩ | ⟨g3, rfl⟩⟩
    · go_enter Tryd.func53, Tryd.ntmps53
      go_wp2
      go_quiet (fail)
      go_wp2
      go_ret2
      exact ⟨rfl, ((Turned.refl [] w).alloc _).drewN _⟩
    · cases ok
      · go_enter Tryd.func53, Tryd.ntmps53
        go_wp2
        go_quiet (fail)
        go_wp2
        go_ret2
        exact ⟨rfl, ((Turned.refl [] w).alloc _).drewN _⟩
      · go_enter Tryd.func53, Tryd.ntmps53
        go_wp2
        go_quiet (fail)
        go_wp2
        go_ret2
        exact ⟨rfl, ((Turned.refl [] w).alloc _).drewN _⟩
    · go_enter Tryd.func53, Tryd.ntmps53
      go_wp2
      go_quiet (fail)
      go_wp2
      go_ret2
      exact ⟨rfl, ((Turned.refl [] w).alloc _).drewN _⟩
  · have e1 : nx = wrap64 (v + x) := by rw [hN]; simp [Dd.next]
    have e2 : an = wrap64 (v + x) := by rw [hA]; simp [Dd.ans]
    have e3 : di = false := by rw [hI]; simp [Dd.did]
    clear hN hA hI
    subst e1
    subst e2
    subst e3
    have K := HKey.out
    clear HKey
    rcases K with ⟨rfl, rfl⟩ | ⟨g1, g2, ⟨rfl, rfl⟩ | ⟨g3, rfl⟩⟩
    · go_enter Tryd.func53, Tryd.ntmps53
      go_wp2
      go_quiet (fail)
      go_wp2
      go_ret2
      exact ⟨rfl, ((Turned.refl [] w).alloc _).drewN _⟩
    · cases ok
      · go_enter Tryd.func53, Tryd.ntmps53
        go_wp2
        go_quiet (fail)
        go_wp2
        go_ret2
        exact ⟨rfl, ((Turned.refl [] w).alloc _).drewN _⟩
      · go_enter Tryd.func53, Tryd.ntmps53
        go_wp2
        go_quiet (fail)
        go_wp2
        go_ret2
        exact ⟨rfl, ((Turned.refl [] w).alloc _).drewN _⟩
    · go_enter Tryd.func53, Tryd.ntmps53
      go_wp2
      go_quiet (fail)
      go_wp2
      go_ret2
      exact ⟨rfl, ((Turned.refl [] w).alloc _).drewN _⟩
  · have e1 : nx = x := by rw [hN]; simp [Dd.next]
    have e2 : an = v := by rw [hA]; simp [Dd.ans]
    have e3 : di = false := by rw [hI]; simp [Dd.did]
    clear hN hA hI
    subst e1
    subst e2
    subst e3
    have K := HKey.out
    clear HKey
    rcases K with ⟨rfl, rfl⟩ | ⟨g1, g2, ⟨rfl, rfl⟩ | ⟨g3, rfl⟩⟩
    · go_enter Tryd.func53, Tryd.ntmps53
      go_wp2
      go_quiet (fail)
      go_wp2
      go_ret2
      exact ⟨rfl, ((Turned.refl [] w).alloc _).drewN _⟩
    · cases ok
      · go_enter Tryd.func53, Tryd.ntmps53
        go_wp2
        go_quiet (fail)
        go_wp2
        go_ret2
        exact ⟨rfl, ((Turned.refl [] w).alloc _).drewN _⟩
      · go_enter Tryd.func53, Tryd.ntmps53
        go_wp2
        go_quiet (fail)
        go_wp2
        go_ret2
        exact ⟨rfl, ((Turned.refl [] w).alloc _).drewN _⟩
    · go_enter Tryd.func53, Tryd.ntmps53
      go_wp2
      go_quiet (fail)
      go_wp2
      go_ret2
      exact ⟨rfl, ((Turned.refl [] w).alloc _).drewN _⟩
  · by_cases g : v = x
    · subst g
      have e1 : nx = c := by rw [hN]; simp [Dd.next]
      have e2 : an = 0 := by rw [hA]; simp [Dd.ans]
      have e3 : di = true := by rw [hI]; simp [Dd.did]
      clear hN hA hI
      subst e1
      subst e2
      subst e3
      have K := HKey.out
      clear HKey
      rcases K with ⟨rfl, rfl⟩ | ⟨g1, g2, ⟨rfl, rfl⟩ | ⟨g3, rfl⟩⟩
      · go_enter Tryd.func53, Tryd.ntmps53
        go_wp2
        go_quiet (fail)
        go_wp2
        go_ret2
        exact ⟨rfl, ((Turned.refl [] w).alloc _).drewN _⟩
      · cases ok
        · go_enter Tryd.func53, Tryd.ntmps53
          go_wp2
          go_quiet (fail)
          go_wp2
          go_ret2
          exact ⟨rfl, ((Turned.refl [] w).alloc _).drewN _⟩
        · go_enter Tryd.func53, Tryd.ntmps53
          go_wp2
          go_quiet (fail)
          go_wp2
          go_ret2
          exact ⟨rfl, ((Turned.refl [] w).alloc _).drewN _⟩
      · go_enter Tryd.func53, Tryd.ntmps53
        go_wp2
        go_quiet (fail)
        go_wp2
        go_ret2
        exact ⟨rfl, ((Turned.refl [] w).alloc _).drewN _⟩
    · have g0 : (v == x) = false := by simpa using g
      have e1 : nx = v := by rw [hN]; simp [Dd.next, g]
      have e2 : an = 0 := by rw [hA]; simp [Dd.ans]
      have e3 : di = false := by rw [hI]; simp [Dd.did, g]
      clear hN hA hI
      subst e1
      subst e2
      subst e3
      have K := HKey.out
      clear HKey
      rcases K with ⟨rfl, rfl⟩ | ⟨g1, g2, ⟨rfl, rfl⟩ | ⟨g3, rfl⟩⟩
      · go_enter Tryd.func53, Tryd.ntmps53
        go_wp2
        go_quiet (fail)
        go_wp2
        go_ret2
        exact ⟨rfl, ((Turned.refl [] w).alloc _).drewN _⟩
      · cases ok
        · go_enter Tryd.func53, Tryd.ntmps53
          go_wp2
          go_quiet (fail)
          go_wp2
          go_ret2
          exact ⟨rfl, ((Turned.refl [] w).alloc _).drewN _⟩
        · go_enter Tryd.func53, Tryd.ntmps53
          go_wp2
          go_quiet (fail)
          go_wp2
          go_ret2
          exact ⟨rfl, ((Turned.refl [] w).alloc _).drewN _⟩
      · go_enter Tryd.func53, Tryd.ntmps53
        go_wp2
        go_quiet (fail)
        go_wp2
        go_ret2
        exact ⟨rfl, ((Turned.refl [] w).alloc _).drewN _⟩
  · by_cases g : v < x
    · have hm : max v x = x := by omega
      have e1 : nx = x := by rw [hN]; simp [Dd.next, hm]
      have e2 : an = x := by rw [hA]; simp [Dd.ans, hm]
      have e3 : di = false := by rw [hI]; simp [Dd.did]
      clear hN hA hI
      subst e1
      subst e2
      subst e3
      have K := HKey.out
      clear HKey
      rcases K with ⟨rfl, rfl⟩ | ⟨g1, g2, ⟨rfl, rfl⟩ | ⟨g3, rfl⟩⟩
      · go_enter Tryd.func53, Tryd.ntmps53
        go_wp2
        go_quiet (fail)
        go_wp2
        go_ret2
        exact ⟨rfl, ((Turned.refl [] w).alloc _).drewN _⟩
      · cases ok
        · go_enter Tryd.func53, Tryd.ntmps53
          go_wp2
          go_quiet (fail)
          go_wp2
          go_ret2
          exact ⟨rfl, ((Turned.refl [] w).alloc _).drewN _⟩
        · go_enter Tryd.func53, Tryd.ntmps53
          go_wp2
          go_quiet (fail)
          go_wp2
          go_ret2
          exact ⟨rfl, ((Turned.refl [] w).alloc _).drewN _⟩
      · go_enter Tryd.func53, Tryd.ntmps53
        go_wp2
        go_quiet (fail)
        go_wp2
        go_ret2
        exact ⟨rfl, ((Turned.refl [] w).alloc _).drewN _⟩
    · have hm : max v x = v := by omega
      have e1 : nx = v := by rw [hN]; simp [Dd.next, hm]
      have e2 : an = v := by rw [hA]; simp [Dd.ans, hm]
      have e3 : di = false := by rw [hI]; simp [Dd.did]
      clear hN hA hI
      subst e1
      subst e2
      subst e3
      have K := HKey.out
      clear HKey
      rcases K with ⟨rfl, rfl⟩ | ⟨g1, g2, ⟨rfl, rfl⟩ | ⟨g3, rfl⟩⟩
      · go_enter Tryd.func53, Tryd.ntmps53
        go_wp2
        go_quiet (fail)
        go_wp2
        go_ret2
        exact ⟨rfl, ((Turned.refl [] w).alloc _).drewN _⟩
      · cases ok
        · go_enter Tryd.func53, Tryd.ntmps53
          go_wp2
          go_quiet (fail)
          go_wp2
          go_ret2
          exact ⟨rfl, ((Turned.refl [] w).alloc _).drewN _⟩
        · go_enter Tryd.func53, Tryd.ntmps53
          go_wp2
          go_quiet (fail)
          go_wp2
          go_ret2
          exact ⟨rfl, ((Turned.refl [] w).alloc _).drewN _⟩
      · go_enter Tryd.func53, Tryd.ntmps53
        go_wp2
        go_quiet (fail)
        go_wp2
        go_ret2
        exact ⟨rfl, ((Turned.refl [] w).alloc _).drewN _⟩
  · by_cases g : v ≤ x
    · have hm : min v x = v := by omega
      have e1 : nx = v := by rw [hN]; simp [Dd.next, hm]
      have e2 : an = v := by rw [hA]; simp [Dd.ans, hm]
      have e3 : di = false := by rw [hI]; simp [Dd.did]
      clear hN hA hI
      subst e1
      subst e2
      subst e3
      have K := HKey.out
      clear HKey
      rcases K with ⟨rfl, rfl⟩ | ⟨g1, g2, ⟨rfl, rfl⟩ | ⟨g3, rfl⟩⟩
      · go_enter Tryd.func53, Tryd.ntmps53
        go_wp2
        go_quiet (fail)
        go_wp2
        go_ret2
        exact ⟨rfl, ((Turned.refl [] w).alloc _).drewN _⟩
      · cases ok
        · go_enter Tryd.func53, Tryd.ntmps53
          go_wp2
          go_quiet (fail)
          go_wp2
          go_ret2
          exact ⟨rfl, ((Turned.refl [] w).alloc _).drewN _⟩
        · go_enter Tryd.func53, Tryd.ntmps53
          go_wp2
          go_quiet (fail)
          go_wp2
          go_ret2
          exact ⟨rfl, ((Turned.refl [] w).alloc _).drewN _⟩
      · go_enter Tryd.func53, Tryd.ntmps53
        go_wp2
        go_quiet (fail)
        go_wp2
        go_ret2
        exact ⟨rfl, ((Turned.refl [] w).alloc _).drewN _⟩
    · have hm : min v x = x := by omega
      have e1 : nx = x := by rw [hN]; simp [Dd.next, hm]
      have e2 : an = x := by rw [hA]; simp [Dd.ans, hm]
      have e3 : di = false := by rw [hI]; simp [Dd.did]
      clear hN hA hI
      subst e1
      subst e2
      subst e3
      have K := HKey.out
      clear HKey
      rcases K with ⟨rfl, rfl⟩ | ⟨g1, g2, ⟨rfl, rfl⟩ | ⟨g3, rfl⟩⟩
      · go_enter Tryd.func53, Tryd.ntmps53
        go_wp2
        go_quiet (fail)
        go_wp2
        go_ret2
        exact ⟨rfl, ((Turned.refl [] w).alloc _).drewN _⟩
      · cases ok
        · go_enter Tryd.func53, Tryd.ntmps53
          go_wp2
          go_quiet (fail)
          go_wp2
          go_ret2
          exact ⟨rfl, ((Turned.refl [] w).alloc _).drewN _⟩
        · go_enter Tryd.func53, Tryd.ntmps53
          go_wp2
          go_quiet (fail)
          go_wp2
          go_ret2
          exact ⟨rfl, ((Turned.refl [] w).alloc _).drewN _⟩
      · go_enter Tryd.func53, Tryd.ntmps53
        go_wp2
        go_quiet (fail)
        go_wp2
        go_ret2
        exact ⟨rfl, ((Turned.refl [] w).alloc _).drewN _⟩
end Go.Proofs.YtbielnehggcaoaaDoor
/-
  States of the document's search in memory; may, same by contract. (By the verifier; no statement.)
-/
namespace Go.Proofs.YtbielnehggcaoaaDoor
open Go.RowKit
abbrev encB : Bool → List Value := fun b => [.bool b]
theorem enB : En 1 encB := ⟨fun _ => rfl, fun r u hu => by rw [List.mem_singleton.1 hu]; rfl⟩
theorem elB : El 4 84 1 1 (.bool false) := ⟨by kernel_rfl, by kernel_rfl, rfl, by decide, by decide⟩
theorem VW.get1 {α : Type} {f : α → Value} {w : World} {v : Value} {R : List α} (h : VW (fun r => [f r]) w v R) {i : Nat} (hi : i < R.length) : ∃ b o c, v = .slice (some ⟨b, o, none⟩) R.length c ∧ b < w.heap.size ∧ w.cell? ⟨b, o + i, none⟩ = some (f R[i]) := by
  obtain ⟨a, c, rfl, hz, hc⟩ := h.ex
  obtain ⟨b, o, rfl, hq⟩ := hc (fun e => by subst e; simp at hi)
  have e : R.flatMap (fun r => [f r]) = R.map f := by
    clear hq hi hc h
    induction R with
    | nil => rfl
    | cons x R ih => rw [List.flatMap_cons, ih]; rfl
  have hcell : w.cell? ⟨b, o + i, none⟩ = some (f R[i]) := hq i _ (by rw [e, List.getElem?_map, List.getElem?_eq_getElem hi]; rfl)
  exact ⟨b, o, c, rfl, World.block_lt_of_cell? _ _ hcell, hcell⟩
theorem pL_at {bs : List Bool} {i : Nat} (h : i < bs.length) : pL bs i = bs[i] := by simp [pL, h]
set_option maxRecDepth 100000 in
set_option maxHeartbeats 3200000 in
theorem cMay {D : List Dd} {ad ia ca : Option Addr} {cap xb ic cl cc k : Nat} {vv : Value} {bs : List Bool} {w : World} (hD : DsAt w ad D) (hn : D.length ≤ 1000) (hx : w.heap[xb]? = some (.cells #[.slice ad D.length cap, vv] 82 (0, 0))) (hB : VW encB w (.slice ia D.length ic) bs) (hl : bs.length = D.length) (hk : k < D.length) :
    Calls Tryd.prog 52 #[.pointer (some ⟨xb, 0, none⟩), .agg #[.slice ia D.length ic, .slice ca cl cc], .int .i64 (k : Int)] w fun r w' => r = .returned (.bool (may D (pL bs) k)) ∧ Turned [] w w' := by
  have HD : Hid (DsAt w ad D) := hD
  obtain ⟨ib, io, ic2, ei, -, -⟩ := hB.get1 (i := k) (by omega)
  simp only [Value.slice.injEq] at ei
  obtain ⟨rfl, -, -⟩ := ei
  have HIn : Hid (∀ y, Turned [] w y → ∀ i, i < D.length → ib < y.heap.size ∧ y.cell? ⟨ib, io + i, none⟩ = some (.bool (pL bs i))) := fun y hy i hi => by
    obtain ⟨b, o, c, e, _, h2⟩ := (hB.still hy).get1 (i := i) (by omega)
    simp only [Value.slice.injEq, Option.some.injEq, Addr.mk.injEq] at e
    obtain ⟨⟨rfl, rfl, -⟩, -, -⟩ := e
    exact ⟨World.block_lt_of_cell? _ _ h2, by rw [pL_at (by omega)]; exact h2⟩
  have HXb : Hid (∀ y, Turned [] w y → xb < y.heap.size ∧ y.cell? ⟨xb, 0, none⟩ = some (.slice ad D.length cap)) := fun y hy => by
    have h := hy.heap hx (by simp)
    exact ⟨lt_of_heap h, by rw [cell_at h]; rfl⟩
  clear hD hB hx
  obtain ⟨b, o, rfl⟩ : ∃ b o, ad = some ⟨b, o, none⟩ := by
    obtain ⟨b, o, e, _⟩ := HD.out.all k _ (List.getElem?_eq_getElem hk)
    exact ⟨b, o, e⟩
  have HDa : Hid (∀ y, Turned [] w y → ∀ j, j < D.length → b < y.heap.size ∧ DAt y b o j (dAt D j)) := fun y hy j hj => by
    have hd : D[j]? = some (dAt D j) := by unfold dAt; simp [hj]
    obtain ⟨b', o', e, hb, h⟩ := (HD.out.still hy).deed hd
    cases e
    exact ⟨hb, h⟩
  clear HD
  go_enter Tryd.func52, Tryd.ntmps52
  refine wp_seq_k fun K0 hK0 => ?_
  have HK0 : Hid _ := hK0
  clear hK0
  go_wp2
  refine HK0.out _ _ ?_
  clear HK0 K0
  have HT0 : Hid (Turned [] w (w.alloc (.cells #[.slice (some ⟨ib, io, none⟩) D.length ic, .slice ca cl cc] 86 (0, 0)))) := (Turned.refl [] w).alloc _
  have HSb : Hid ((w.alloc (.cells #[.slice (some ⟨ib, io, none⟩) D.length ic, .slice ca cl cc] 86 (0, 0))).heap[w.heap.size]? = some (.cells #[.slice (some ⟨ib, io, none⟩) D.length ic, .slice ca cl cc] 86 (0, 0))) := blk_new w _
  generalize w.alloc (.cells #[.slice (some ⟨ib, io, none⟩) D.length ic, .slice ca cl cc] 86 (0, 0)) = x0 at HT0 HSb ⊢
  generalize w.heap.size = sb at HSb ⊢
  have HSc : Hid (∀ y, Turned [] x0 y → sb < y.heap.size ∧ y.cell? ⟨sb, 0, none⟩ = some (.slice (some ⟨ib, io, none⟩) D.length ic)) := fun y hy => by
    have h := hy.heap HSb.out (by simp)
    exact ⟨lt_of_heap h, by rw [cell_at h]; rfl⟩
  clear HSb
  obtain ⟨s1, s2⟩ := HSc.out x0 (Turned.refl _ _)
  obtain ⟨i1, i2⟩ := HIn.out x0 HT0.out k hk
  cases d3 : pL bs k with
  | true =>
    rw [d3] at i2
    have HM : Hid (may D (pL bs) k = false) := by
      rw [Hid]
      unfold may
      rw [d3]
      rfl
    go_wp2
    go_ret
    exact ⟨by rw [HM.out]; rfl, HT0.out⟩
  | false =>
    rw [d3] at i2
    have HMs : Hid (may D (pL bs) k = (List.range D.length).all fun j => !wasA (dAt D j).e (dAt D k).b || pL bs j) := may_splitQ d3
    go_wp2
    clear s1 s2 i1 i2
    go_loopw [7] (fun i wx => ∃ jj : Nat, jj ≤ D.length ∧ i = .int .i64 jj ∧ Hid (((List.range jj).all fun j => !wasA (dAt D j).e (dAt D k).b || pL bs j) = true) ∧ Hid (Turned [] x0 wx)) (fun i _ => D.length - (intOf i).toNat)
    case atStart => exact ⟨0, Nat.zero_le _, rfl, rfl, Turned.refl _ _⟩
    case round =>
      obtain ⟨jj, hjj, rfl, HA, HT⟩ := hrel
      have HTw : Hid (Turned [] w wr) := HT0.out.trans HT.out
      obtain ⟨x1, x2⟩ := HXb.out wr HTw.out
      by_cases hlt : jj < D.length
      · obtain ⟨s1, s2⟩ := HSc.out wr HT.out
        obtain ⟨i1, i2⟩ := HIn.out wr HTw.out jj hlt
        obtain ⟨bl, dj⟩ := HDa.out wr HTw.out jj hlt
        obtain ⟨-, dk⟩ := HDa.out wr HTw.out k hk
        have j1 := dj.h1
        have k0 := dk.h0
        clear dj dk
        have HAs : Hid (((List.range (jj + 1)).all fun j => !wasA (dAt D j).e (dAt D k).b || pL bs j) = (!wasA (dAt D jj).e (dAt D k).b || pL bs jj)) := by rw [Hid, all_range_succQ, HA.out]; rfl
        have P := fun w => cBefore (dAt D jj).e (dAt D k).b w
        cases d4 : pL bs jj with
        | true =>
          rw [d4] at i2
          have HA2 : Hid (((List.range (jj + 1)).all fun j => !wasA (dAt D j).e (dAt D k).b || pL bs j) = true) := by rw [Hid, HAs.out, d4]; simp
          go_wp2
          go_quiet (fail)
          go_wp2
          go_roundw
          case rel => exact ⟨jj + 1, by omega, by go_num, HA2, HT.out.drewN _⟩
          case measure => simp [intOf]; omega
        | false =>
          rw [d4] at i2
          cases d5 : wasA (dAt D jj).e (dAt D k).b with
          | false =>
            rw [d5] at P
            have HA2 : Hid (((List.range (jj + 1)).all fun j => !wasA (dAt D j).e (dAt D k).b || pL bs j) = true) := by rw [Hid, HAs.out, d5]; rfl
            go_wp2
            go_quiet ((go_at_call 60; exact Calls.quiet_of_same (P _)))
            go_wp2
            go_roundw
            case rel => exact ⟨jj + 1, by omega, by go_num, HA2, HT.out.drewN _⟩
            case measure => simp [intOf]; omega
          | true =>
            rw [d5] at P
            have HM : Hid (may D (pL bs) k = false) := by
              rw [Hid, HMs.out, List.all_eq_false]
              exact ⟨jj, List.mem_range.2 hlt, by rw [d4, d5]; simp⟩
            go_wp2
            go_quiet ((go_at_call 60; exact Calls.quiet_of_same (P _)))
            go_wp2
            go_ret
            exact ⟨by rw [HM.out]; rfl, HTw.out.drewN _⟩
      · obtain rfl : jj = D.length := by omega
        have HM : Hid (may D (pL bs) k = true) := by rw [Hid, HMs.out]; exact HA.out
        go_wp2
        go_ret
        exact ⟨by rw [HM.out]; rfl, HTw.out⟩
end Go.Proofs.YtbielnehggcaoaaDoor
/-
  Two states of the document's search held against each other; by contract. (By the verifier; no statement.)
-/
namespace Go.Proofs.YtbielnehggcaoaaDoor
open Go.RowKit
theorem take_eqA {α : Type} {xs ys : List α} {k : Nat} (hx : k < xs.length) (hy : k < ys.length) (h : xs.take k = ys.take k) (he : xs[k] = ys[k]) : xs.take (k + 1) = ys.take (k + 1) := by
  rw [List.take_add_one, List.take_add_one, List.getElem?_eq_getElem hx, List.getElem?_eq_getElem hy, h, he]
/-- Two rows of one length, place by place. -/
structure Twin {α : Type} (f : α → Value) (w : World) (u v : Value) (xs ys : List α) : Prop where
  len : xs.length = ys.length
  at_ : ∀ k, k < xs.length → ∃ b o c b' o' c' x y, u = .slice (some ⟨b, o, none⟩) xs.length c ∧ v = .slice (some ⟨b', o', none⟩) xs.length c' ∧ (∀ z, Turned [] w z → b < z.heap.size ∧ b' < z.heap.size ∧ z.cell? ⟨b, o + k, none⟩ = some (f x) ∧ z.cell? ⟨b', o' + k, none⟩ = some (f y)) ∧ (x ≠ y → xs ≠ ys) ∧ (x = y → xs.take k = ys.take k → xs.take (k + 1) = ys.take (k + 1))
theorem Twin.of {α : Type} {f : α → Value} {w : World} {u v : Value} {xs ys : List α} (hu : VW (fun r => [f r]) w u xs) (hv : VW (fun r => [f r]) w v ys) (hl : xs.length = ys.length) : Twin f w u v xs ys := ⟨hl, fun k hk => by
  have hk' : k < ys.length := by omega
  obtain ⟨b, o, c, e, -, h1⟩ := hu.get1 hk
  obtain ⟨b', o', c', e', -, h1'⟩ := hv.get1 hk'
  refine ⟨b, o, c, b', o', c', xs[k], ys[k], e, by rw [hl]; exact e', fun z hz => ?_, fun h e => h (by simp [e]), fun h1 h2 => take_eqA hk hk' h2 h1⟩
  have z1 := hz.cell h1 (by simp)
  have z2 := hz.cell h1' (by simp)
  exact ⟨World.block_lt_of_cell? _ _ z1, World.block_lt_of_cell? _ _ z2, z1, z2⟩⟩
theorem Twin.all {α : Type} {f : α → Value} {w : World} {u v : Value} {xs ys : List α} (h : Twin f w u v xs ys) (ht : xs.take xs.length = ys.take xs.length) : xs = ys := by
  rw [List.take_length] at ht
  rw [ht, h.len, List.take_length]
theorem IV.vw {w : World} {v : Value} {l : List Int} (h : IV w v l) : VW (fun z : Int => [Value.int .i64 z]) w v l := by
  obtain ⟨a, c, rfl, hz, hc⟩ := h.ex
  refine ⟨a, c, rfl, hz, fun hne => ?_⟩
  obtain ⟨b, o, rfl, hk⟩ := hc hne
  refine ⟨b, o, rfl, fun i u hu => ?_⟩
  have e : l.flatMap (fun z : Int => [Value.int .i64 z]) = l.map (Value.int .i64 ·) := by
    clear hk hne hc h hu
    induction l with
    | nil => rfl
    | cons x l ih => rw [List.flatMap_cons, ih]; rfl
  rw [e, List.getElem?_map] at hu
  obtain ⟨z, hz1, rfl⟩ := Option.map_eq_some_iff.1 hu
  obtain ⟨hi, e2⟩ := List.getElem?_eq_some_iff.1 hz1
  rw [hk i hi, e2]
set_option maxRecDepth 100000 in
set_option maxHeartbeats 3200000 in
theorem cSameSt {ia ja ca da : Option Addr} {n m ic jc cc dc : Nat} {bs bs' : List Bool} {cs cs' : List Int} {w : World} (h1 : VW encB w (.slice ia n ic) bs) (h2 : VW encB w (.slice ja n jc) bs') (h3 : IV w (.slice ca m cc) cs) (h4 : IV w (.slice da m dc) cs') (hl1 : bs.length = n) (hl2 : bs'.length = n) (hl3 : cs.length = m) (hl4 : cs'.length = m) (hn : n ≤ 1000) (hm : m ≤ 1000) :
    Calls Tryd.prog 51 #[.agg #[.slice ia n ic, .slice ca m cc], .agg #[.slice ja n jc, .slice da m dc]] w fun r w' => (∃ q : Bool, r = .returned (.bool q) ∧ (q = true ↔ bs = bs' ∧ cs = cs')) ∧ Turned [] w w' := by
  have HB : Hid (Twin Value.bool w (.slice ia n ic) (.slice ja n jc) bs bs') := Twin.of h1 h2 (by omega)
  have HC : Hid (Twin (Value.int .i64) w (.slice ca m cc) (.slice da m dc) cs cs') := Twin.of h3.vw h4.vw (by omega)
  clear h1 h2 h3 h4
  go_enter Tryd.func51, Tryd.ntmps51
  refine wp_seq_k fun K0 hK0 => ?_
  have HK0 : Hid _ := hK0
  clear hK0
  go_wp2
  refine HK0.out _ _ ?_
  clear HK0 K0
  have HT0 : Hid (Turned [] w ((w.alloc (.cells #[.slice ia n ic, .slice ca m cc] 86 (0, 0))).alloc (.cells #[.slice ja n jc, .slice da m dc] 86 (0, 0)))) := ((Turned.refl [] w).alloc _).alloc _
  have HSa : Hid (((w.alloc (.cells #[.slice ia n ic, .slice ca m cc] 86 (0, 0))).alloc (.cells #[.slice ja n jc, .slice da m dc] 86 (0, 0))).heap[w.heap.size]? = some (.cells #[.slice ia n ic, .slice ca m cc] 86 (0, 0))) := blk_old (blk_new w _) _
  have HSb : Hid (((w.alloc (.cells #[.slice ia n ic, .slice ca m cc] 86 (0, 0))).alloc (.cells #[.slice ja n jc, .slice da m dc] 86 (0, 0))).heap[w.heap.size + 1]? = some (.cells #[.slice ja n jc, .slice da m dc] 86 (0, 0))) := by
    have := blk_new (w.alloc (.cells #[.slice ia n ic, .slice ca m cc] 86 (0, 0))) (.cells #[.slice ja n jc, .slice da m dc] 86 (0, 0))
    simpa [Hid] using this
  generalize (w.alloc (.cells #[.slice ia n ic, .slice ca m cc] 86 (0, 0))).alloc (.cells #[.slice ja n jc, .slice da m dc] 86 (0, 0)) = x0 at HT0 HSa HSb ⊢
  generalize w.heap.size + 1 = sb at HSb ⊢
  generalize w.heap.size = sa at HSa ⊢
  have HSc : Hid (∀ y, Turned [] x0 y → sa < y.heap.size ∧ y.cell? ⟨sa, 0, none⟩ = some (.slice ia n ic) ∧ y.cell? ⟨sa, 1, none⟩ = some (.slice ca m cc) ∧ sb < y.heap.size ∧ y.cell? ⟨sb, 0, none⟩ = some (.slice ja n jc) ∧ y.cell? ⟨sb, 1, none⟩ = some (.slice da m dc)) := fun y hy => by
    have h := hy.heap HSa.out (by simp)
    have h' := hy.heap HSb.out (by simp)
    exact ⟨lt_of_heap h, by rw [cell_at h]; rfl, by rw [cell_at h]; rfl, lt_of_heap h', by rw [cell_at h']; rfl, by rw [cell_at h']; rfl⟩
  clear HSa HSb
  go_wp2
  go_loopw [5] (fun i wx => ∃ k : Nat, k ≤ n ∧ i = .int .i64 k ∧ Hid (bs.take k = bs'.take k) ∧ Hid (Turned [] x0 wx)) (fun i _ => n - (intOf i).toNat)
  case atStart => exact ⟨0, Nat.zero_le _, rfl, by simp [Hid], Turned.refl _ _⟩
  case round =>
    obtain ⟨k, hk, rfl, HA, HT⟩ := hrel
    obtain ⟨s1, s2, -, s3, s4, -⟩ := HSc.out wr HT.out
    by_cases hlt : k < n
    · obtain ⟨b, o, c, b', o', c', x, y, e, e', hz, y1, y2⟩ := HB.out.at_ k (by omega)
      simp only [Value.slice.injEq] at e e'
      obtain ⟨rfl, -, -⟩ := e
      obtain ⟨rfl, -, -⟩ := e'
      obtain ⟨q1, q2, q3, q4⟩ := hz wr (HT0.out.trans HT.out)
      have Y1 : Hid _ := y1
      have Y2 : Hid _ := y2
      clear hz y1 y2
      cases x with
      | true =>
        cases y with
        | true =>
          have HN : Hid (bs.take (k + 1) = bs'.take (k + 1)) := Y2.out rfl HA.out
          clear Y1 Y2
          go_wp2
          go_quiet (fail)
          go_wp2
          go_roundw
          case rel => exact ⟨k + 1, by omega, by go_num, HN, HT.out.drewN _⟩
          case measure => simp [intOf]; omega
        | false =>
          have HN : Hid (bs ≠ bs') := Y1.out (by decide)
          clear Y1 Y2
          go_wp2
          go_quiet (fail)
          go_wp2
          go_ret
          exact ⟨⟨false, rfl, ⟨(fun h => by cases h), fun h => absurd h.1 HN.out⟩⟩, (HT0.out.trans HT.out).drewN _⟩
      | false =>
        cases y with
        | false =>
          have HN : Hid (bs.take (k + 1) = bs'.take (k + 1)) := Y2.out rfl HA.out
          clear Y1 Y2
          go_wp2
          go_quiet (fail)
          go_wp2
          go_roundw
          case rel => exact ⟨k + 1, by omega, by go_num, HN, HT.out.drewN _⟩
          case measure => simp [intOf]; omega
        | true =>
          have HN : Hid (bs ≠ bs') := Y1.out (by decide)
          clear Y1 Y2
          go_wp2
          go_quiet (fail)
          go_wp2
          go_ret
          exact ⟨⟨false, rfl, ⟨(fun h => by cases h), fun h => absurd h.1 HN.out⟩⟩, (HT0.out.trans HT.out).drewN _⟩
    · obtain rfl : k = n := by omega
      have HE : Hid (bs = bs') := HB.out.all (by rw [hl1]; exact HA.out)
      clear HA HB s1 s2 s3 s4
      obtain ⟨x1, hx1⟩ : ∃ x1, x1 = wr := ⟨_, rfl⟩
      have HT1 : Hid (Turned [] x0 x1) := by rw [Hid, hx1]; exact HT.out
      rw [← hx1]
      obtain ⟨s1, s2, -, s3, s4, -⟩ := HSc.out x1 HT1.out
      clear hx1 HT
      go_wp2
      clear s1 s2 s3 s4
      go_loopw [6] (fun i wx => ∃ k : Nat, k ≤ m ∧ i = .int .i64 k ∧ Hid (cs.take k = cs'.take k) ∧ Hid (Turned [] x0 wx)) (fun i _ => m - (intOf i).toNat)
      case atStart => exact ⟨0, Nat.zero_le _, rfl, by simp [Hid], HT1.out⟩
      case round =>
        obtain ⟨j, hj, rfl, HA, HT⟩ := hrel
        obtain ⟨s1, -, s2, s3, -, s4⟩ := HSc.out wr HT.out
        by_cases hlt2 : j < m
        · obtain ⟨b, o, c, b', o', c', x, y, e, e', hz, y1, y2⟩ := HC.out.at_ j (by omega)
          simp only [Value.slice.injEq] at e e'
          obtain ⟨rfl, -, -⟩ := e
          obtain ⟨rfl, -, -⟩ := e'
          obtain ⟨q1, q2, q3, q4⟩ := hz wr (HT0.out.trans HT.out)
          have Y1 : Hid _ := y1
          have Y2 : Hid _ := y2
          clear hz y1 y2
          by_cases ge : x = y
          · have d1 : (x != y) = false := by simpa using ge
            have Ge : Hid (x = y) := ge
            clear ge
            go_wp2
            go_quiet (fail)
            go_wp2
            go_roundw
            case rel => exact ⟨j + 1, by omega, by go_num, Y2.out Ge.out HA.out, HT.out.drewN _⟩
            case measure => simp [intOf]; omega
          · have d1 : (x != y) = true := by simpa using ge
            have Ge : Hid (¬ x = y) := ge
            clear ge
            go_wp2
            go_quiet (fail)
            go_wp2
            go_ret
            exact ⟨⟨false, rfl, ⟨(fun h => by cases h), fun h => absurd h.2 (Y1.out Ge.out)⟩⟩, (HT0.out.trans HT.out).drewN _⟩
        · obtain rfl : j = m := by omega
          have HF : Hid (cs = cs') := HC.out.all (by rw [hl3]; exact HA.out)
          go_wp2
          go_ret
          exact ⟨⟨true, rfl, ⟨fun _ => ⟨HE.out, HF.out⟩, fun _ => rfl⟩⟩, HT0.out.trans HT.out⟩
end Go.Proofs.YtbielnehggcaoaaDoor
